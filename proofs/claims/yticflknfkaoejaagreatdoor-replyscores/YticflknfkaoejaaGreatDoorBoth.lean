/- Both ways of telling and reading a number, side by side. -/
import Derived.Test.YticflknfkaoejaaGreatDoorParseG
import Derived.Test.YticflknfkaoejaaGreatDoorRefT
namespace Go.Proofs.YticflknfkaoejaaGreatDoor
open Go.RowKit

/-- The world holds what the library's functions look into. -/
structure Lk (w : World) : Prop where
  tab : Tab w
  pow : Pow w
  errs : Errs w
theorem Lk.on {w w' : World} (h : Lk w) (hb : Below w.heap.size w w') : Lk w' := ⟨h.tab.on hb, below_pow h.pow hb, h.errs.on hb⟩

theorem eq_of_list {s : ByteArray} {l : List UInt8} (h : s.data.toList = l) : s = ⟨l.toArray⟩ := by
  apply ByteArray.ext
  rw [← h]

/-- Any text is read alike by num and by the document's own. -/
theorem reads (s : ByteArray) (hs : s.size ≤ 281474976710656) : ∃ o : Option Nat, (∀ b, o = some b → b < 18446744073709551616) ∧ (∀ w, Lk w → Calls Tryz.prog 83 #[.string s] w fun e w' => e = .returned (readV o) ∧ Below w.heap.size w w') ∧ (∀ w, Calls Tryz.prog 19 #[.string s] w fun e w' => e = .returned (refV o) ∧ w' = w) := by
  have still : ∀ {o : Option Nat} {w : World}, (Calls Tryz.prog 83 #[.string s] w fun e w' => e = .returned (readV o) ∧ w' = w) → Calls Tryz.prog 83 #[.string s] w fun e w' => e = .returned (readV o) ∧ Below w.heap.size w w' := fun h => h.mono fun e w' k => ⟨k.1, by rw [k.2]; exact Below.refl _ _⟩
  by_cases h1 : s.data.toList = [110, 97, 110]
  · obtain rfl := eq_of_list h1
    exact ⟨some 9221120237041090561, fun b e => by cases e; decide, fun w _ => still (parse_nan w), refParse_nan⟩
  by_cases h2 : s.data.toList = [105, 110, 102]
  · obtain rfl := eq_of_list h2
    exact ⟨some 9218868437227405312, fun b e => by cases e; decide, fun w _ => still (parse_inf w), refParse_w false _ (by omega) [105, 110, 102] rfl (by intro _; simp) h1 (by intro c l e; cases e) _ (.inl ⟨rfl, rfl⟩)⟩
  by_cases h3 : s.data.toList = [45, 105, 110, 102]
  · obtain rfl := eq_of_list h3
    exact ⟨some 18442240474082181120, fun b e => by cases e; decide, fun w _ => still (parse_ninf w), refParse_w true _ (by omega) [105, 110, 102] rfl (by intro e; cases e) h1 (by intro c l e; cases e) _ (.inl ⟨rfl, rfl⟩)⟩
  by_cases h4 : s.data.toList = [45, 48]
  · obtain rfl := eq_of_list h4
    exact ⟨some 9223372036854775808, fun b e => by cases e; decide, fun w _ => still (parse_nought w), refParse_w true _ (by omega) [48] rfl (by intro e; cases e) h1 (by intro c l e; cases e) _ (.inr (.inl ⟨by decide, ⟨by decide, by decide, by decide, .inr rfl⟩, rfl⟩))⟩
  by_cases h5 : ∃ r, s.data.toList = 48 :: 120 :: r
  · obtain ⟨r, h5⟩ := h5
    have hlt : ∀ b, pHex r = some b → b < 18446744073709551616 := fun b e => by
      unfold pHex at e
      split at e
      · rename_i h16
        cases hu : unh r 0 with
        | none => rw [hu] at e; cases e
        | some u =>
          rw [hu, Option.filter_some] at e
          split at e
          · cases e
            have := unh_lt r 0 b hu
            rw [h16] at this
            simpa using this
          · cases e
      · cases e
    by_cases hr : r = []
    · subst hr
      have hr : ∀ w, Calls Tryz.prog 19 #[.string s] w fun e w' => e = .returned (refV none) ∧ w' = w := refParse_w false s (by omega) [48, 120] h5 (by intro _; simp) h1 (by intro c l e; rw [h5] at e; simp at e) none (.inr (.inr ⟨by decide, fun h => absurd (h.2.1 120 (by simp)).2 (by decide), rfl⟩))
      exact ⟨none, (fun b e => nomatch e), (fun w _ => still (o := none) (parse_x s [] h5 w)), hr⟩
    · exact ⟨pHex r, hlt, fun w _ => still (parse_x s r h5 w), refParse_x s (by omega) r h5 hr⟩
  · have hpl : Plain s.data.toList := ⟨h1, h2, h3, h4, fun r e => h5 ⟨r, e⟩⟩
    obtain ⟨neg, r, e1, e2, e3, e4⟩ : ∃ (neg : Bool) (r : List UInt8), (s.data.toList = if neg then 45 :: r else r) ∧ (neg = false → r[0]? ≠ some 45) ∧ r ≠ [105, 110, 102] ∧ ¬ (neg = true ∧ r = [48]) := by
      match hm : s.data.toList with
      | [] => exact ⟨false, [], rfl, by simp, by simp, by simp⟩
      | c :: r =>
        by_cases hc : c = 45
        · subst hc
          exact ⟨true, r, rfl, by simp, fun e => h3 (by rw [hm, e]), fun e => h4 (by rw [hm, e.2])⟩
        · exact ⟨false, c :: r, rfl, fun _ => by simpa using hc, fun e => h2 (by rw [hm, e]), by simp⟩
    obtain ⟨o, o1, o2⟩ := one_reading neg s.data.toList r e1 e2 e3 e4
    refine ⟨o, fun b e => ?_, fun w hw => parse_plain s hs hpl o o2 w hw.tab hw.pow hw.errs, refParse_w neg s (by omega) r e1 e2 h1 (fun c l e => h5 ⟨c :: l, e⟩) o o1⟩
    subst e
    rcases o2 with ⟨v, _, k2, _, k4⟩ | ⟨_, k⟩
    · cases k4
      rw [fl_small v k2]
      exact (wb_facts _ _ (by omega)).1
    · cases k

theorem plain_itoa (n : Int) (h : n.natAbs < 1000000000000000) : Plain (Lib.itoa n) := by
  have hd := digs_dec n.natAbs h
  have dig : ∀ c ∈ Lib.decDigits n.natAbs, 48 ≤ c.toNat ∧ c.toNat ≤ 57 := hd.2.1
  unfold Lib.itoa
  by_cases hn : n < 0
  · rw [if_pos hn]
    have hh := dec_head n.natAbs (by omega)
    refine ⟨fun e => ?_, fun e => ?_, fun e => ?_, fun e => ?_, fun r e => ?_⟩
    · injection e with e1; exact absurd e1 (by decide)
    · injection e with e1; exact absurd e1 (by decide)
    · injection e with _ e2; exact absurd (dig 105 (by rw [e2]; simp)).2 (by decide)
    · injection e with _ e2; exact hh (by rw [e2]; rfl)
    · injection e with e1; exact absurd e1 (by decide)
  · rw [if_neg hn, show n.toNat = n.natAbs by omega]
    refine ⟨fun e => ?_, fun e => ?_, fun e => ?_, fun e => ?_, fun r e => ?_⟩
    · exact absurd (dig 110 (by rw [e]; simp)).2 (by decide)
    · exact absurd (dig 105 (by rw [e]; simp)).2 (by decide)
    · exact absurd (dig 45 (by rw [e]; simp)).1 (by decide)
    · exact absurd (dig 45 (by rw [e]; simp)).1 (by decide)
    · exact absurd (dig 120 (by rw [e]; simp)).2 (by decide)

set_option maxRecDepth 100000 in
theorem text_nan (b : Nat) (hb : b < 18446744073709551616) (hn : nanB b = true) (w : World) : Calls Tryz.prog 31 #[.float .f64 b] w fun e w' => e = .returned (.string ⟨#[110, 97, 110]⟩) ∧ w' = w := by
  go_enter Tryz.func31, Tryz.ntmps31
  go_wp2_with (go_at_call 55; refine (isNaN_ok _ hb _).mono ?_; rintro e w' ⟨rfl, rfl⟩)
  go_ret
  exact ⟨rfl, rfl⟩
set_option maxRecDepth 100000 in
theorem text_inf (w : World) : Calls Tryz.prog 31 #[.float .f64 9218868437227405312] w fun e w' => e = .returned (.string ⟨#[105, 110, 102]⟩) ∧ w' = w := by
  have hn : nanB 9218868437227405312 = false := by decide
  have hi1 : infS 1 9218868437227405312 = true := by decide
  go_enter Tryz.func31, Tryz.ntmps31
  go_wp2_with (first | (go_at_call 55; refine (isNaN_ok _ (by decide) _).mono ?_; rintro e w' ⟨rfl, rfl⟩) | (go_at_call 56; refine (isInf_s _ (by decide) _ (by decide) _).mono ?_; rintro e w' ⟨rfl, rfl⟩))
  go_ret
  exact ⟨rfl, rfl⟩
set_option maxRecDepth 100000 in
theorem text_ninf (w : World) : Calls Tryz.prog 31 #[.float .f64 18442240474082181120] w fun e w' => e = .returned (.string ⟨#[45, 105, 110, 102]⟩) ∧ w' = w := by
  have hn : nanB 18442240474082181120 = false := by decide
  have hi1 : infS 1 18442240474082181120 = false := by decide
  have hi2 : infS (-1) 18442240474082181120 = true := by decide
  go_enter Tryz.func31, Tryz.ntmps31
  go_wp2_with (first | (go_at_call 55; refine (isNaN_ok _ (by decide) _).mono ?_; rintro e w' ⟨rfl, rfl⟩) | (go_at_call 56; refine (isInf_s _ (by decide) _ (by decide) _).mono ?_; rintro e w' ⟨rfl, rfl⟩))
  go_ret
  exact ⟨rfl, rfl⟩
end Go.Proofs.YticflknfkaoejaaGreatDoor
