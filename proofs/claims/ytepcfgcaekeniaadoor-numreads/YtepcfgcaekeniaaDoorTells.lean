/- What Text tells of a number, and what Parse reads back. -/
import Derived.Test.YtepcfgcaekeniaaDoorBoth
namespace Go.Proofs.YtepcfgcaekeniaaDoor
open Go.RowKit

/-- Text and the document's own tell the number a as T; Parse reads T as y. -/
structure Told (a : Nat) (T : ByteArray) (y : Nat) : Prop where
  lt : y < 18446744073709551616
  small : T.size ≤ 40
  same : a = y ∨ nanB a = true ∧ nanB y = true
  text : ∀ w, Rd w → Calls Tryd.prog 25 #[.float .f64 a] w fun e w' => e = .returned (.string T) ∧ Below w.heap.size w w'
  ref : ∀ w, Calls Tryd.prog 21 #[.float .f64 a] w fun e w' => e = .returned (.string T) ∧ w' = w
  parse : ∀ w, Rd w → Calls Tryd.prog 22 #[.string T] w fun e w' => e = .returned (.tuple #[.float .f64 y, .int .i64 0]) ∧ Below w.heap.size w w'

theorem still {f : Nat} {args : Array Value} {v : Value} {w : World} (h : Calls Tryd.prog f args w fun e w' => e = .returned v ∧ w' = w) : Calls Tryd.prog f args w fun e w' => e = .returned v ∧ Below w.heap.size w w' := h.mono fun e w' k => ⟨k.1, by rw [k.2]; exact Below.refl _ _⟩

theorem whole_or (b : Nat) : NotWhole b ∨ ∃ q, q < 1000000000000000 ∧ b % 9223372036854775808 = wr q := by
  by_cases h : ∃ q, q < 1000000000000000 ∧ b % 9223372036854775808 = wr q
  · exact .inr h
  · exact .inl fun q hq e => h ⟨q, hq, e⟩

theorem told_whole (n : Int) (h : n.natAbs < 1000000000000000) : Told (fl n) ⟨(Lib.itoa n).toArray⟩ (fl n) := by
  have hf := fl_small n h
  have hlen : (Lib.itoa n).length ≤ 16 := by
    have := dec_length 14 n.natAbs (by omega)
    unfold Lib.itoa
    split
    · simp; omega
    · rw [show n.toNat = n.natAbs by omega]; omega
  refine ⟨?_, by show (Lib.itoa n).toArray.size ≤ _; rw [List.size_toArray]; omega, .inl rfl, fun w hw => text_whole n h w hw.pow, fun w => ?_, fun w hw => ?_⟩
  · rw [hf]; exact (wb_facts _ _ (by omega)).1
  · rw [hf]
    have e : sg (decide (n < 0)) ++ Lib.decDigits n.natAbs = Lib.itoa n := by
      unfold Lib.itoa sg
      by_cases hn : n < 0
      · simp [hn]
      · rw [if_neg hn, show n.toNat = n.natAbs by omega]; simp [hn]
    rw [← e]
    exact reftext_whole _ _ h w
  · exact parse_plain ⟨(Lib.itoa n).toArray⟩ (by show (Lib.itoa n).toArray.size ≤ _; rw [List.size_toArray]; omega) (plain_itoa n h) (some (fl n)) (.inl ⟨n, parse_itoa n h, h, rfl, rfl⟩) w hw.tab hw.pow hw.errs

theorem tells (a : Nat) (ha : a < 18446744073709551616) : ∃ T y, Told a T y := by
  by_cases hn : nanB a = true
  · exact ⟨_, 9221120237041090561, by decide, by decide, .inr ⟨hn, by decide⟩, fun w _ => still (text_nan a ha hn w), reftext_nan a ha hn, fun w _ => still (parse_nan w)⟩
  have hr : a % 9223372036854775808 ≤ 9218868437227405312 := by simpa [nanB] using hn
  have hn' : nanB a = false := by simpa using hn
  by_cases hi : a % 9223372036854775808 = 9218868437227405312
  · have : a = 9218868437227405312 ∨ a = 18442240474082181120 := by omega
    rcases this with rfl | rfl
    · exact ⟨_, _, by decide, by decide, .inl rfl, fun w _ => still (text_inf w), reftext_inf false, fun w _ => still (parse_inf w)⟩
    · exact ⟨_, _, by decide, by decide, .inl rfl, fun w _ => still (text_ninf w), reftext_inf true, fun w _ => still (parse_ninf w)⟩
  rcases whole_or a with hno | ⟨q, hq, e⟩
  · exact ⟨_, a, ha, by show (hexT a).toArray.size ≤ _; rw [hexT_N a ha, List.size_toArray]; simp [hexN_length], .inl rfl, fun w hw => text_hex a ha (by omega) hno w hw.tab, reftext_hex a ha (by omega) hno, fun w _ => still (parse_hexT a ha hn' w)⟩
  · by_cases hz : a = 9223372036854775808
    · subst hz
      have h0 := reftext_whole true 0 (by decide)
      rw [show wb true 0 = 9223372036854775808 by decide, show Lib.decDigits 0 = [48] by rw [Lib.decDigits]; rfl] at h0
      exact ⟨_, _, by decide, by decide, .inl rfl, fun w _ => still (text_nought w), h0, fun w _ => still (parse_nought w)⟩
    · have hneg : a = wb (decide (9223372036854775808 ≤ a)) q := by
        unfold wb
        by_cases hs : 9223372036854775808 ≤ a
        · simp [hs]; omega
        · simp [hs]; omega
      have hq0 : 9223372036854775808 ≤ a → q ≠ 0 := fun h1 h2 => by
        subst h2
        have : wr 0 = 0 := by decide
        omega
      obtain ⟨n, hn1, hn2⟩ : ∃ n : Int, n.natAbs = q ∧ decide (n < 0) = decide (9223372036854775808 ≤ a) := by
        by_cases hs : 9223372036854775808 ≤ a
        · exact ⟨-(q : Int), by omega, by have := hq0 hs; simp [hs]; omega⟩
        · exact ⟨(q : Int), by omega, by simp [hs]⟩
      have hfl : fl n = a := by rw [fl_small n (by omega), hn1, hn2]; exact hneg.symm
      exact ⟨_, _, hfl ▸ told_whole n (by omega)⟩
end Go.Proofs.YtepcfgcaekeniaaDoor
