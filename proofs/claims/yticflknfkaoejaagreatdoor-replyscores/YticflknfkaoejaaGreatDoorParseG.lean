/- num's parseWhole and Parse at every text. -/
import Derived.Test.YticflknfkaoejaaGreatDoorEqv
import Derived.Test.YticflknfkaoejaaGreatDoorTextH
import Derived.Test.YticflknfkaoejaaGreatDoorParseX
import Derived.Test.YticflknfkaoejaaGreatDoorAwake
import Derived.Lib.ConvBytes
namespace Go.Proofs.YticflknfkaoejaaGreatDoor
open Go.RowKit

/-- The two errors of strconv lie in their variables. -/
def Errs (w : World) : Prop := (∃ e, w.cell? ⟨3, 0, none⟩ = some e ∧ (e = .nilIface ∨ ∃ te pe, e = .iface te pe)) ∧ (∃ e, w.cell? ⟨4, 0, none⟩ = some e ∧ (e = .nilIface ∨ ∃ te pe, e = .iface te pe))
theorem Errs.on {w w' : World} (h : Errs w) (hb : Below w.heap.size w w') : Errs w' := by
  obtain ⟨⟨e, h1, h2⟩, ⟨f, h3, h4⟩⟩ := h
  exact ⟨⟨e, (hb.cell (World.block_lt_of_cell? w _ h1)).trans h1, h2⟩, ⟨f, (hb.cell (World.block_lt_of_cell? w _ h3)).trans h3, h4⟩⟩
theorem below_bytes (w : World) (t : ByteArray) : Below w.heap.size w (Lib.bytesWorld w 5 t) :=
  ⟨rfl, rfl, rfl, by rw [Lib.bytesWorld_size]; omega, fun k hk => Lib.bytesWorld_at_old w 5 t k hk⟩

/-- ParseInt: the number, or some error. -/
theorem parseInt_ok (s : ByteArray) (hs : s.size ≤ 281474976710656) (w : World) (he : Errs w) : Calls Tryz.prog 117 #[.string s, .int .i64 10, .int .i64 64] w fun e w' => (match Lib.parseIntB 64 s.data.toList with | .ok v => e = .returned (.tuple #[.int .i64 v, .nilIface]) | _ => ∃ v t p, e = .returned (.tuple #[.int .i64 v, .iface t p])) ∧ Below w.heap.size w w' := by
  obtain ⟨⟨e1, h1, h2⟩, ⟨e2, h3, h4⟩⟩ := he
  cases hp : Lib.parseIntB 64 s.data.toList with
  | ok v =>
    refine (Tryz.strconv_ParseInt_10_at64_ok s (by omega) v hp w).mono fun e w' ⟨k1, k2⟩ => ⟨k1, ?_⟩
    rcases k2 with rfl | ⟨t, rfl⟩
    · exact Below.refl _ _
    · exact below_bytes w t
  | «syntax» => exact (Tryz.strconv_ParseInt_10_at64_syntax s hs hp e1 w h1 h2).mono fun e w' ⟨N, k1, _, _, k4⟩ => ⟨⟨_, _, _, k1⟩, k4⟩
  | range => exact (Tryz.strconv_ParseInt_10_at64_range s hs hp e2 w h3 h4).mono fun e w' ⟨N, k1, _, _, k4⟩ => ⟨⟨_, _, _, k1⟩, k4⟩

theorem parse_bounds (l : List UInt8) (v : Int) (h : Lib.parseIntB 64 l = .ok v) : -9223372036854775808 ≤ v ∧ v ≤ 9223372036854775807 := by
  have h63 : (2 : Nat) ^ (64 - 1) = 9223372036854775808 := by decide
  unfold Lib.parseIntB at h
  split at h
  · cases h
  · simp only at h
    split at h
    · cases h
    · cases h
    · rename_i u _
      rw [h63] at h
      split at h
      · cases h
      · split at h
        · cases h
        · rename_i k1 k2
          injection h with h
          subst h
          split <;> omega

set_option maxRecDepth 100000 in
set_option maxHeartbeats 2000000 in
theorem parseWhole_ok (s : ByteArray) (hs : s.size ≤ 281474976710656) (hx : ∀ l, s.data.toList ≠ 48 :: 120 :: l) (o : Option Nat) (ho : ParseW s.data.toList o) (w : World) (ht : Tab w) (hp : Pow w) (he : Errs w) : Calls Tryz.prog 101 #[.string s] w fun e w' => e = .returned (readV o) ∧ Below w.heap.size w w' := by
  have hI := parseInt_ok s hs w he
  cases hc : Lib.parseIntB 64 s.data.toList with
  | ok v =>
    rw [hc] at hI
    have hI : Calls Tryz.prog 117 #[.string s, .int .i64 10, .int .i64 64] w fun e w' => e = .returned (.tuple #[.int .i64 v, .nilIface]) ∧ Below w.heap.size w w' := hI
    have hcv : ∀ w, (convert 2 43 (.int .i64 v)).run Tryz.prog w = .ok (.float .f64 (fl v)) w := fun w => run_convert_int_float w 2 43 .i64 .f64 v (by kernel_rfl) Tryz.underlying43
    have hT : ∃ T : ByteArray, (∀ w1, Below w.heap.size w w1 → Calls Tryz.prog 31 #[.float .f64 (fl v)] w1 fun e w' => e = .returned (.string T) ∧ Below w1.heap.size w1 w') ∧ ((T = s ∧ o = some (fl v)) ∨ (T ≠ s ∧ o = none)) := by
      by_cases h15 : v.natAbs < 1000000000000000
      · refine ⟨⟨(Lib.itoa v).toArray⟩, fun w1 hb => text_whole v h15 w1 (below_pow hp hb), ?_⟩
        rcases ho with ⟨v', h1, h2, h3, h4⟩ | ⟨h1, h2⟩
        · rw [hc] at h1
          cases h1
          exact .inl ⟨by apply ByteArray.ext; rw [h3], h4⟩
        · exact .inr ⟨fun e => h1 v hc h15 (by rw [← e]), h2⟩
      · have hb64 : v.natAbs ≤ 9223372036854775808 := by
          obtain ⟨a, b⟩ := parse_bounds _ v hc
          omega
        obtain ⟨f1, f2, f3⟩ := fl_big v (by omega) hb64
        refine ⟨⟨(hexT (fl v)).toArray⟩, fun w1 hb => text_big (fl v) f1 f2 f3 w1 (ht.on hb), ?_⟩
        rcases ho with ⟨v', h1, h2, h3, h4⟩ | ⟨h1, h2⟩
        · rw [hc] at h1
          cases h1
          exact absurd h2 h15
        · exact .inr ⟨fun e => hx _ (by rw [← e]; rfl), h2⟩
    obtain ⟨T, hT1, hT2⟩ := hT
    generalize fl v = b at *
    clear hx hc ho
    rcases hT2 with ⟨rfl, rfl⟩ | ⟨h1, rfl⟩
    · go_enter Tryz.func101, Tryz.ntmps101
      go_wp2_with (first | (go_at_call 117; refine hI.mono ?_; rintro e w1 ⟨rfl, hb1⟩) | (go_at_call 31; refine (hT1 _ hb1).mono ?_; rintro e w2 ⟨rfl, hb2⟩))
      go_ret2
      exact ⟨rfl, below_step hb1 hb2⟩
    · have h2 : (T.toList == s.toList) = false := by
        rw [ByteArray.toList_eq, ByteArray.toList_eq]
        simp only [beq_eq_false_iff_ne]
        exact fun e => h1 (by apply ByteArray.ext; exact Array.toList_inj.1 e)
      clear h1
      go_enter Tryz.func101, Tryz.ntmps101
      go_wp2_with (first | (go_at_call 117; refine hI.mono ?_; rintro e w1 ⟨rfl, hb1⟩) | (go_at_call 31; refine (hT1 _ hb1).mono ?_; rintro e w2 ⟨rfl, hb2⟩))
      go_ret2
      exact ⟨rfl, below_step hb1 hb2⟩
  | «syntax» =>
    rw [hc] at hI
    have hI : Calls Tryz.prog 117 #[.string s, .int .i64 10, .int .i64 64] w fun e w' => (∃ v t p, e = .returned (.tuple #[.int .i64 v, .iface t p])) ∧ Below w.heap.size w w' := hI
    obtain rfl : o = none := by
      rcases ho with ⟨v', h1, _⟩ | ⟨_, h2⟩
      · rw [hc] at h1; cases h1
      · exact h2
    clear hx hc ho
    go_enter Tryz.func101, Tryz.ntmps101
    go_wp2_with (first | (go_at_call 117; refine hI.mono ?_; rintro e w1 ⟨⟨v, t, p, rfl⟩, hb1⟩))
    go_ret2
    exact ⟨rfl, hb1⟩
  | range =>
    rw [hc] at hI
    have hI : Calls Tryz.prog 117 #[.string s, .int .i64 10, .int .i64 64] w fun e w' => (∃ v t p, e = .returned (.tuple #[.int .i64 v, .iface t p])) ∧ Below w.heap.size w w' := hI
    obtain rfl : o = none := by
      rcases ho with ⟨v', h1, _⟩ | ⟨_, h2⟩
      · rw [hc] at h1; cases h1
      · exact h2
    clear hx hc ho
    go_enter Tryz.func101, Tryz.ntmps101
    go_wp2_with (first | (go_at_call 117; refine hI.mono ?_; rintro e w1 ⟨⟨v, t, p, rfl⟩, hb1⟩))
    go_ret2
    exact ⟨rfl, hb1⟩

set_option maxRecDepth 100000 in
theorem parse_nan (w : World) : Calls Tryz.prog 83 #[.string ⟨#[110, 97, 110]⟩] w fun e w' => e = .returned (readV (some 9221120237041090561)) ∧ w' = w := by
  go_enter Tryz.func83, Tryz.ntmps83
  go_wp2_with (go_at_call 32; refine (nan_ok _).mono ?_; rintro e w' ⟨rfl, rfl⟩)
  go_ret2
  exact ⟨rfl, rfl⟩
set_option maxRecDepth 100000 in
theorem parse_inf (w : World) : Calls Tryz.prog 83 #[.string ⟨#[105, 110, 102]⟩] w fun e w' => e = .returned (readV (some 9218868437227405312)) ∧ w' = w := by
  go_enter Tryz.func83, Tryz.ntmps83
  go_wp2_with (go_at_call 99; refine (inf_up _).mono ?_; rintro e w' ⟨rfl, rfl⟩)
  go_ret2
  exact ⟨rfl, rfl⟩
set_option maxRecDepth 100000 in
theorem parse_ninf (w : World) : Calls Tryz.prog 83 #[.string ⟨#[45, 105, 110, 102]⟩] w fun e w' => e = .returned (readV (some 18442240474082181120)) ∧ w' = w := by
  go_enter Tryz.func83, Tryz.ntmps83
  go_wp2_with (go_at_call 99; refine (inf_down _).mono ?_; rintro e w' ⟨rfl, rfl⟩)
  go_ret2
  exact ⟨rfl, rfl⟩
set_option maxRecDepth 100000 in
theorem parse_nought (w : World) : Calls Tryz.prog 83 #[.string ⟨#[45, 48]⟩] w fun e w' => e = .returned (readV (some 9223372036854775808)) ∧ w' = w := by
  go_enter Tryz.func83, Tryz.ntmps83
  go_wp2_with (go_at_call 25; refine (copysign_ok _).mono ?_; rintro e w' ⟨rfl, rfl⟩)
  go_ret2
  exact ⟨rfl, rfl⟩

/-- A text that is no name and opens with no mark of bits. -/
structure Plain (l : List UInt8) : Prop where
  nan : l ≠ [110, 97, 110]
  inf : l ≠ [105, 110, 102]
  ninf : l ≠ [45, 105, 110, 102]
  nought : l ≠ [45, 48]
  bits : ∀ r, l ≠ 48 :: 120 :: r

set_option maxRecDepth 100000 in
set_option maxHeartbeats 1000000 in
theorem parse_plain (s : ByteArray) (hs : s.size ≤ 281474976710656) (h : Plain s.data.toList) (o : Option Nat) (ho : ParseW s.data.toList o) (w : World) (ht : Tab w) (hp : Pow w) (he : Errs w) : Calls Tryz.prog 83 #[.string s] w fun e w' => e = .returned (readV o) ∧ Below w.heap.size w w' := by
  have n1 : (s.toList == [110, 97, 110]) = false := by rw [ByteArray.toList_eq]; simpa using h.nan
  have n2 : (s.toList == [105, 110, 102]) = false := by rw [ByteArray.toList_eq]; simpa using h.inf
  have n3 : (s.toList == [45, 105, 110, 102]) = false := by rw [ByteArray.toList_eq]; simpa using h.ninf
  have n4 : (s.toList == [45, 48]) = false := by rw [ByteArray.toList_eq]; simpa using h.nought
  have hW := parseWhole_ok s hs h.bits o ho w ht hp he
  obtain ⟨x, y, e⟩ : ∃ x y, readV o = .tuple #[.float .f64 x, .int .i64 y] := ⟨_, _, rfl⟩
  rw [e] at hW ⊢
  have hpre : Lib.hasPrefix s.data.toList [48, 120] = false := by
    cases hq : Lib.hasPrefix s.data.toList [48, 120] with
    | false => rfl
    | true =>
      exfalso
      obtain ⟨t, k⟩ := List.isPrefixOf_iff_prefix.1 hq
      exact h.bits t k.symm
  have hcut : ∀ w, Calls Tryz.prog 65 #[.string s, .string ⟨#[48, 120]⟩] w fun e w' => (∃ S, e = .returned (.tuple #[.string S, .bool false])) ∧ w' = w := fun w => by
    have h := Tryz.strings_CutPrefix s ⟨#[48, 120]⟩ w
    rw [show (⟨#[48, 120]⟩ : ByteArray).data.toList = [48, 120] from rfl, hpre] at h
    exact h.mono fun e w' k => ⟨⟨_, k.1⟩, k.2⟩
  clear e h ho hpre
  go_enter Tryz.func83, Tryz.ntmps83
  go_wp2_with (first | (go_at_call 65; refine (hcut _).mono ?_; rintro e w' ⟨⟨S, rfl⟩, rfl⟩) | (go_at_call 101; refine hW.mono ?_; rintro e w2 ⟨rfl, hb2⟩))
  go_ret2
  exact ⟨rfl, hb2⟩
end Go.Proofs.YticflknfkaoejaaGreatDoor
