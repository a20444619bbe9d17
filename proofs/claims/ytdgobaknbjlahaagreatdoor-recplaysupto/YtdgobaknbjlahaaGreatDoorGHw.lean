/- setFree, setAsked, SetRoot. -/
import Derived.Test.YtdgobaknbjlahaaGreatDoorGHa
import Derived.Test.YtdgobaknbjlahaaGreatDoorGHp
namespace Go.Proofs.YtdgobaknbjlahaaGreatDoor
open Go.RowKit

/-- Only bits of free blocks have turned. -/
structure Bits (nu : Nat) (f g : Nat → Int) : Prop where
  wd : Words64 nu g
  ak : ask nu g = ask nu f
  out : ∀ i, (i < 18 ∨ aw nu ≤ i) → g i = f i

theorem Bits.trans {nu : Nat} {f g h : Nat → Int} (a : Bits nu f g) (b : Bits nu g h) : Bits nu f h := ⟨b.wd, b.ak.trans a.ak, fun i hi => (b.out i hi).trans (a.out i hi)⟩

theorem bits_set {nu : Nat} {f : Nat → Int} (wd : Words64 nu f) {k c : Nat} (hc : c < 64 * gr nu k) (v : Bool) : Bits nu f (upd f (Bw nu k + c / 64) (bitTo (f (Bw nu k + c / 64)).toNat (c % 64) v : Nat)) := by
  have bl := Bw_lt hc
  have fg := fi_ge nu
  refine ⟨fun i hi => ?_, ask_upd _ (.inl (by omega)), fun i hi => upd_other _ _ (by omega)⟩
  by_cases e : i = Bw nu k + c / 64
  · subst e
    rw [upd_same]
    have := wd (Bw nu k + c / 64) (by omega)
    have := bitTo_lt (f (Bw nu k + c / 64)).toNat (c % 64) v (by omega) (Nat.mod_lt _ (by omega))
    omega
  · rw [upd_other _ _ e]; exact wd i hi

section
variable {nu sz : Nat} {w : World} {hb sb b : Nat} {T : Tay} {A : Ab} {P : List (Int × Int)}

set_option maxHeartbeats 1000000 in
theorem h_setFree (h : Hp nu sz w hb sb b T A P) (wd : Words64 nu (says P A)) (hm : P.length < 6144) (k c : Nat) (hc : c < 64 * gr nu k) (v : Bool) :
    Calls Tryz.prog 87 #[ptr hb, .int .i64 k, .int .i64 c, .bool v] w fun e w' => e = .returned (.tuple #[]) ∧ ∃ g, To sz w sb b T A w' g (P.length + 1) ∧ Bits nu (says P A) g ∧ fre nu g = setF (fre nu (says P A)) k c v := by
  have hk := gr_lt hc
  have bl := Bw_lt hc
  obtain ⟨g1, g2, g3, g4, g5, g6⟩ := h.hp.geo.b
  have E1 := fre_set (f := says P A) hc v
  have E2 := bits_set wd hc v
  have PU := fun q => (h.still ((Fr.refl _ w).drewN q)).put hm (Bw nu k + c / 64) (by omega) (bitTo (says P A (Bw nu k + c / 64)).toNat (c % 64) v : Nat)
  have LD := fun q => h.reads q (Bw nu k + c / 64) (by omega)
  obtain ⟨r0, r1⟩ := wd (Bw nu k + c / 64) (by omega)
  have hc5 : c ≤ 4100 := by have := gr_le' nu k; omega
  have c0 := h.hp.c0; have ck := h.hp.cb k hk
  generalize hG : upd (says P A) (Bw nu k + c / 64) (bitTo (says P A (Bw nu k + c / 64)).toNat (c % 64) v : Nat) = G at *
  obtain ⟨x, hx⟩ : ∃ x : Nat, says P A (Bw nu k + c / 64) = x := ⟨(says P A (Bw nu k + c / 64)).toNat, by omega⟩
  have e2 : ((Bw nu k + c / 64 : Nat) : Int) = (Bw nu k : Int) + (c : Int) / 64 := by omega
  have hw : IntKind.u64.wrap (2 ^ (c % 64)) = ((2 ^ (c % 64) : Nat) : Int) := by
    have e : ((2 ^ (c % 64) : Nat) : Int) = 2 ^ (c % 64) := by simp
    have : 2 ^ (c % 64) < 2 ^ 64 := Nat.pow_lt_pow_right (by omega) (Nat.mod_lt _ (by omega))
    rw [← e, IntKind.wrap_u64]
    generalize 2 ^ (c % 64) = y at *
    exact Int.emod_eq_of_lt (Int.natCast_nonneg _) (by have := this; omega)
  have hx64 : x < 18446744073709551616 := by omega
  simp only [hx, e2] at LD PU
  have hp64 : 2 ^ (c % 64) < 18446744073709551616 := Nat.pow_lt_pow_right (m := c % 64) (n := 64) (by omega) (Nat.mod_lt _ (by omega))
  have hbt : bitTo x (c % 64) v = (x &&& (18446744073709551615 - 2 ^ (c % 64))) ||| (if v then 2 ^ (c % 64) else 0) := rfl
  simp only [Int.toNat_natCast, hbt] at PU
  clear hbt
  generalize 2 ^ (c % 64) = y at *
  have an := u64_andNot_nat x y hx64 hp64
  have ao := u64_or_nat (x &&& (18446744073709551615 - y)) y (Nat.lt_of_le_of_lt Nat.and_le_left hx64) hp64
  have HLD := @hide _ LD
  have HPU := @hide _ PU
  have HE := hide (And.intro E1 E2)
  have bl3 : Bw nu k + c / 64 ≤ 300 := by omega
  clear LD PU E1 E2 h wd hx hG r0 r1 e2 hc bl g1 g2 g3 g4 g5 g6
  generalize hB : Bw nu k = B at *
  clear hB
  generalize x &&& (18446744073709551615 - y) = z at *
  go_enter Tryz.func87, Tryz.ntmps87
  go_wp2_with fail
  refine region_tailP 13 (by kernel_rfl) (by kernel_rfl) ?_
  simp only [List.take_succ_cons, List.take_zero, List.drop_succ_cons, List.drop_zero]
  repeat (go_big_quiet_step (first | fail))
  refine wpQuiet_nil ?_
  rintro _ ⟨nq, rfl⟩
  simp only [hw]
  clear hw
  cases v
  · go_wp2_with (go_at_call 36; refine (unhide HLD nq).mono ?_; rintro e w' ⟨rfl, hh⟩; replace hh := hh.symm; subst hh)
    have K := unhide HPU nq
    simp only [Bool.false_eq_true, if_false, Nat.or_zero] at K
    have HK := hide K
    clear K HPU HLD
    refine (unhide HK).mono ?_
    clear HK
    rintro e w1 ⟨rfl, t⟩
    have HT := hide (t.after ((Fr.refl _ w).drewN nq))
    clear t
    go_wp2
    go_end0
    exact ⟨rfl, G, unhide HT, (unhide HE).2, (unhide HE).1⟩
  · go_wp2_with (go_at_call 36; refine (unhide HLD nq).mono ?_; rintro e w' ⟨rfl, hh⟩; replace hh := hh.symm; subst hh)
    have K := unhide HPU nq
    simp only [if_true] at K
    have HK := hide K
    clear K HPU HLD
    refine (unhide HK).mono ?_
    clear HK
    rintro e w1 ⟨rfl, t⟩
    have HT := hide (t.after ((Fr.refl _ w).drewN nq))
    clear t
    go_wp2
    go_end0
    exact ⟨rfl, G, unhide HT, (unhide HE).2, (unhide HE).1⟩

theorem words_upd {nu : Nat} {f : Nat → Int} (wd : Words64 nu f) (i : Nat) (v : Nat) (hv : v < 18446744073709551616) : Words64 nu (upd f i v) := fun j hj => by
  by_cases e : j = i
  · rw [e, upd_same]; omega
  · rw [upd_other _ _ e]; exact wd j hj

set_option maxHeartbeats 1000000 in
theorem h_setAsked (h : Hp nu sz w hb sb b T A P) (wd : Words64 nu (says P A)) (hm : P.length < 6144) (u y : Nat) (hu : u < nu) (hy : y ≤ 512) :
    Calls Tryz.prog 72 #[ptr hb, .int .i64 u, .int .i64 y] w fun e w' => e = .returned (.tuple #[]) ∧ ∃ g, To sz w sb b T A w' g (P.length + 1) ∧ Words64 nu g ∧ fre nu g = fre nu (says P A) ∧ ask nu g = setK (ask nu (says P A)) u y ∧ ∀ i, (i < aw nu ∨ aw nu + qa nu ≤ i) → g i = says P A i := by
  obtain ⟨g1, g2, g3, g4, g5, g6⟩ := h.hp.geo.b
  obtain ⟨r0, r1⟩ := wd (aw nu + u / 4) (by omega)
  have E1 := ask_set (nu := nu) (f := says P A) (u := u) (y := y) (by omega) (by omega)
  have E2 := fre_upd (nu := nu) (f := says P A) (i := aw nu + u / 4) (digTo (says P A (aw nu + u / 4)).toNat (u % 4) y : Nat) (.inr (by omega))
  have E3 := words_upd wd (aw nu + u / 4) _ (digTo_lt (says P A (aw nu + u / 4)).toNat (u % 4) y (by omega) (by omega) (by omega))
  have E4 : ∀ i, (i < aw nu ∨ aw nu + qa nu ≤ i) → upd (says P A) (aw nu + u / 4) (digTo (says P A (aw nu + u / 4)).toNat (u % 4) y : Nat) i = says P A i := fun i hi => upd_other _ _ (by omega)
  have PU := fun q => (h.still ((Fr.refl _ w).drewN q)).put hm (aw nu + u / 4) (by omega) (digTo (says P A (aw nu + u / 4)).toNat (u % 4) y : Nat)
  have LD := fun q => h.reads q (aw nu + u / 4) (by omega)
  have c0 := h.hp.c0; have c9 := h.hp.c9
  generalize hG : upd (says P A) (aw nu + u / 4) (digTo (says P A (aw nu + u / 4)).toNat (u % 4) y : Nat) = G at *
  obtain ⟨x, hx⟩ : ∃ x : Nat, says P A (aw nu + u / 4) = x := ⟨(says P A (aw nu + u / 4)).toNat, by omega⟩
  have e2 : ((aw nu + u / 4 : Nat) : Int) = (aw nu : Int) + (u : Int) / 4 := by omega
  have hx64 : x < 18446744073709551616 := by omega
  have hbt : digTo x (u % 4) y = (x &&& (18446744073709551615 - 65535 * 2 ^ (16 * (u % 4)))) ||| (y * 2 ^ (16 * (u % 4))) := rfl
  simp only [hx, e2, Int.toNat_natCast, hbt] at LD PU
  clear hbt
  have hp : 65535 * 2 ^ (16 * (u % 4)) < 18446744073709551616 := by
    rcases (show u % 4 = 0 ∨ u % 4 = 1 ∨ u % 4 = 2 ∨ u % 4 = 3 by omega) with e | e | e | e <;> rw [e] <;> decide
  have hq : y * 2 ^ (16 * (u % 4)) < 18446744073709551616 := by
    rcases (show u % 4 = 0 ∨ u % 4 = 1 ∨ u % 4 = 2 ∨ u % 4 = 3 by omega) with e | e | e | e <;> rw [e] <;> simp <;> omega
  have hw1 : IntKind.u64.wrap (65535 * 2 ^ (u % 4 * 16)) = ((65535 * 2 ^ (16 * (u % 4)) : Nat) : Int) := by
    have e : (65535 * 2 ^ (u % 4 * 16) : Int) = ((65535 * 2 ^ (16 * (u % 4)) : Nat) : Int) := by rw [Nat.mul_comm 16]; simp
    rw [e, IntKind.wrap_u64]
    exact Int.emod_eq_of_lt (Int.natCast_nonneg _) (by omega)
  have hw2 : IntKind.u64.wrap ((y : Int) * 2 ^ (u % 4 * 16)) = ((y * 2 ^ (16 * (u % 4)) : Nat) : Int) := by
    have e : ((y : Int) * 2 ^ (u % 4 * 16)) = ((y * 2 ^ (16 * (u % 4)) : Nat) : Int) := by rw [Nat.mul_comm 16]; simp
    rw [e, IntKind.wrap_u64]
    exact Int.emod_eq_of_lt (Int.natCast_nonneg _) (by omega)
  generalize 65535 * 2 ^ (16 * (u % 4)) = m1 at *
  generalize y * 2 ^ (16 * (u % 4)) = m2 at *
  have an := u64_andNot_nat x m1 hx64 hp
  have ao := u64_or_nat (x &&& (18446744073709551615 - m1)) m2 (Nat.lt_of_le_of_lt Nat.and_le_left hx64) hq
  have HLD := @hide _ LD
  have HPU := @hide _ PU
  have HE := hide (And.intro E3 (And.intro E2 (And.intro E1 E4)))
  have hu8 : u ≤ 8000 := by omega
  have ha3 := g1.2
  clear LD PU E1 E2 E3 E4 h wd hx hG r0 r1 e2 g1 g2 g3 g4 g5 g6 hu
  generalize x &&& (18446744073709551615 - m1) = z at *
  go_enter Tryz.func72, Tryz.ntmps72
  go_wp2_with fail
  refine region_tailP 19 (by kernel_rfl) (by kernel_rfl) ?_
  simp only [List.take_succ_cons, List.take_zero, List.drop_succ_cons, List.drop_zero]
  repeat (go_big_quiet_step (first | (go_at_call 36; exact Calls.quiet_of_same (unhide HLD _))))
  refine wpQuiet_nil ?_
  rintro _ ⟨nq, rfl⟩
  clear HLD c0 c9 an ao hw1 hw2
  go_wp2_with fail
  refine (unhide HPU nq).mono ?_
  clear HPU
  rintro e w1 ⟨rfl, t⟩
  have HT := hide (t.after ((Fr.refl _ w).drewN nq))
  clear t
  go_wp2
  go_end0
  exact ⟨rfl, G, unhide HT, unhide HE⟩

end
end Go.Proofs.YtdgobaknbjlahaaGreatDoor
