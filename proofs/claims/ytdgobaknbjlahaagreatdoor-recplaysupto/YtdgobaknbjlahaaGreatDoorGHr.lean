/- The heap's functions that only read. -/
import Derived.Test.YtdgobaknbjlahaaGreatDoorGHf
import Derived.Test.YtdgobaknbjlahaaGreatDoorRng
namespace Go.Proofs.YtdgobaknbjlahaaGreatDoor
open Go.RowKit

/-- Block hb is a heap of nu units on the store sb; the table of the lowest bits lies where it was laid. -/
structure HpL (nu sz : Nat) (w : World) (hb sb : Nat) : Prop where
  geo : Geo nu sz
  c0 : w.cell? ⟨hb, 0, none⟩ = some (ptr sb)
  c1 : w.cell? ⟨hb, 1, none⟩ = some (.int .i64 nu)
  cb : ∀ k, k < 7 → w.cell? ⟨hb, 2 + k, none⟩ = some (.int .i64 (Bw nu k : Nat))
  c9 : w.cell? ⟨hb, 9, none⟩ = some (.int .i64 (aw nu))
  c10 : w.cell? ⟨hb, 10, none⟩ = some (.int .i64 (fi nu))
  tab : TabL w

theorem HpL.kept {nu sz : Nat} {w w' : World} {hb sb : Nat} (h : HpL nu sz w hb sb) {F : Nat → Prop} (hf : Fr F w w') (n1 : ¬ F hb) (n2 : ¬ F 0) : HpL nu sz w' hb sb where
  geo := h.geo
  c0 := hf.cell' h.c0 n1
  c1 := hf.cell' h.c1 n1
  cb := fun k hk => hf.cell' (h.cb k hk) n1
  c9 := hf.cell' h.c9 n1
  c10 := hf.cell' h.c10 n1
  tab := fun j hj => hf.cell' (h.tab j hj) n2


/-- The store sb tells f. -/
def Rds (sz : Nat) (w : World) (sb : Nat) (f : Nat → Int) : Prop := ∀ (q : Nat) (i : Nat), i < sz → Calls Tryz.prog 36 #[ptr sb, .int .i64 i] (w.drewN q) fun e w' => e = .returned (u64 (f i)) ∧ w' = w.drewN q
theorem HpL.drew {nu sz : Nat} {w : World} {hb sb : Nat} (h : HpL nu sz w hb sb) (q : Nat) : HpL nu sz (w.drewN q) hb sb := h.kept ((Fr.refl (fun _ => False) w).drewN q) (fun x => x) (fun x => x)

section
variable {nu sz : Nat} {w : World} {hb sb : Nat} {f : Nat → Int}
theorem Rds.drew (h : Rds sz w sb f) (q : Nat) : Rds sz (w.drewN q) sb f := fun p i hi => by
  have e : (w.drewN q).drewN p = w.drewN (q + p) := by simp [World.drewN, Nat.add_assoc]
  rw [e]
  exact h (q + p) i hi

/-- Only draws between. -/
def Dr (w wr : World) : Prop := ∃ q, wr = w.drewN q
theorem Dr.refl (w : World) : Dr w w := ⟨0, rfl⟩
theorem Dr.trans {w1 w2 : World} (h : Dr w w1) (k : Dr w1 w2) : Dr w w2 := by
  obtain ⟨q, rfl⟩ := h
  obtain ⟨p, rfl⟩ := k
  exact ⟨q + p, by simp [World.drewN, Nat.add_assoc]⟩
theorem Dr.still {w1 : World} (h : Dr w w1) : Fr (fun _ => False) w w1 := by obtain ⟨q, rfl⟩ := h; exact (Fr.refl _ w).drewN q
theorem HpL.dr {w1 : World} (h : HpL nu sz w hb sb) (k : Dr w w1) : HpL nu sz w1 hb sb := by obtain ⟨q, rfl⟩ := k; exact h.drew q
theorem Rds.dr {w1 : World} (h : Rds sz w sb f) (k : Dr w w1) : Rds sz w1 sb f := by obtain ⟨q, rfl⟩ := k; exact h.drew q

theorem small_w64 {x : Int} (h : -9223372036854775808 ≤ x ∧ x < 9223372036854775808) : wrap64 x = x := by unfold wrap64; omega
theorem shr_dig (x i : Nat) (_hi : i < 4) (hx : x < 18446744073709551616) : bits .and .u64 ((x : Int) / 2 ^ (i * 16)) 65535 = (dig x i : Int) := by
  have e : ((x : Int) / 2 ^ (i * 16)) = ((x / 2 ^ (16 * i) : Nat) : Int) := by rw [Nat.mul_comm]; simp
  rw [e, show (65535 : Int) = ((65535 : Nat) : Int) from rfl, u64_and_nat _ _ (Nat.lt_of_le_of_lt (Nat.div_le_self _ _) hx) (by omega), nat_mask16]
  rfl

set_option maxHeartbeats 1000000 in
theorem h_asked (h : HpL nu sz w hb sb) (rd : Rds sz w sb f) (u : Nat) (hu : u < 4 * qa nu) (r0 : 0 ≤ f (aw nu + u / 4)) (r1 : f (aw nu + u / 4) < 18446744073709551616) :
    Calls Tryz.prog 78 #[ptr hb, .int .i64 u] w fun e w' => e = .returned (.int .i64 (ask nu f u)) ∧ ∃ q, w' = w.drewN q := by
  have c0 := h.c0; have c9 := h.c9
  obtain ⟨g1, g2, g3, g4, g5, g6⟩ := h.geo.b
  have LD := fun q => rd q (aw nu + u / 4) (by omega)
  obtain ⟨x, hx⟩ : ∃ x : Nat, f (aw nu + u / 4) = x := ⟨(f (aw nu + u / 4)).toNat, by omega⟩
  have e1 : ask nu f u = dig x (u % 4) := by rw [ask_of hu, hx]; rfl
  have SD := shr_dig x (u % 4) (by omega) (by omega)
  rw [e1]
  have e2 : ((aw nu + u / 4 : Nat) : Int) = (aw nu : Int) + (u : Int) / 4 := by omega
  simp only [hx, e2] at LD
  have HLD := @hide _ LD
  have HSD := hide SD
  have hu8 : u ≤ 8000 := by omega
  have ha3 := g1.2
  clear LD h rd SD e1 e2 hx r0 r1 hu g1 g2 g3 g4 g5 g6
  generalize aw nu = a at *
  go_enter Tryz.func78, Tryz.ntmps78
  go_wp2_with fail
  refine region_tailP 18 (by kernel_rfl) (by kernel_rfl) ?_
  simp only [List.take_succ_cons, List.take_zero, List.drop_succ_cons, List.drop_zero]
  repeat (go_big_quiet_step (first | (go_at_call 36; exact Calls.quiet_of_same (unhide HLD _))))
  refine wpQuiet_nil ?_
  rintro _ ⟨nq, rfl⟩
  rw [unhide HSD, small_w64 (by have : dig x (u % 4) < 65536 := Nat.mod_lt _ (by omega); omega)]
  go_wp2
  go_ret
  exact ⟨rfl, nq, rfl⟩

/-- Does a piece begin at the unit u? -/
def begs (nu : Nat) (K : Nat → Nat) (u : Nat) : Bool := decide (K u ≠ 0 ∧ K u ≤ 512 ∧ u % 2 ^ lv (K u) = 0 ∧ u + 2 ^ lv (K u) ≤ nu)

set_option maxHeartbeats 1000000 in
theorem h_begins (h : HpL nu sz w hb sb) (rd : Rds sz w sb f) (u : Nat) (hu : u < 4 * qa nu) (r0 : 0 ≤ f (aw nu + u / 4)) (r1 : f (aw nu + u / 4) < 18446744073709551616) :
    Calls Tryz.prog 42 #[ptr hb, .int .i64 u] w fun e w' => e = .returned (.bool (begs nu (ask nu f) u)) ∧ ∃ q, w' = w.drewN q := by
  have K := h_asked h rd u hu r0 r1
  have HK := hide K
  have c1 := h.c1
  obtain ⟨g1, g2, g3, g4, g5, g6⟩ := h.geo.b
  have hu8 : u ≤ 8000 := by omega
  have hn8 := g5.2
  unfold begs
  generalize ask nu f u = x at *
  clear K h rd r0 r1 hu g1 g2 g3 g4 g5 g6
  go_enter Tryz.func42, Tryz.ntmps42
  go_wp2_with fail
  refine (unhide HK).mono ?_
  clear HK
  rintro e w1 ⟨rfl, q, rfl⟩
  by_cases h1 : x = 0
  · subst h1
    go_wp2
    go_ret
    exact ⟨rfl, q, rfl⟩
  · by_cases h2 : x ≤ 512
    · have L := h_level x (by omega) h2 (w.drewN q)
      have hl := lv_le x
      have p1 := two_pos (lv x)
      have p2 : 2 ^ lv x ≤ 2 ^ 6 := Nat.pow_le_pow_right (by omega) hl
      have hw : wrap64 (2 ^ lv x) = ((2 ^ lv x : Nat) : Int) := by
        have e : ((2 ^ lv x : Nat) : Int) = 2 ^ lv x := by simp
        rw [← e]
        exact small_w64 (by omega)
      have c1' : (w.drewN q).cell? ⟨hb, 1, none⟩ = some (.int .i64 nu) := c1
      generalize hm : 2 ^ lv x = m at *
      by_cases d1 : u % m = 0
      · have d1' : (u : Int) % m = 0 := by omega
        by_cases d2 : u + m ≤ nu
        · go_wp2_with (go_at_call 71; refine L.mono ?_; rintro e w' ⟨rfl, hh⟩; replace hh := hh.symm; subst hh)
          go_ret
          exact ⟨by simp [hm, h1, h2, d1, d2]; omega, q, rfl⟩
        · go_wp2_with (go_at_call 71; refine L.mono ?_; rintro e w' ⟨rfl, hh⟩; replace hh := hh.symm; subst hh)
          go_ret
          exact ⟨by simp [hm, d2]; omega, q, rfl⟩
      · have d1' : ((u : Int) % m == 0) = false := by simp; omega
        go_wp2_with (go_at_call 71; refine L.mono ?_; rintro e w' ⟨rfl, hh⟩; replace hh := hh.symm; subst hh)
        go_ret
        exact ⟨by simp [hm, d1], q, rfl⟩
    · go_wp2
      go_ret
      exact ⟨by simp [h2], q, rfl⟩
end
end Go.Proofs.YtdgobaknbjlahaaGreatDoor
