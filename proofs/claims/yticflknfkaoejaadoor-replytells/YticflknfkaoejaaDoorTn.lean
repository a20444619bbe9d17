/- What Text and the document's own say of a number. -/
import Derived.Test.YticflknfkaoejaaDoorRm
namespace Go.Proofs.YticflknfkaoejaaDoor
open Go.RowKit

/-- Text and the document's own say of the number a the text T. -/
structure ToldD (a : Nat) (T : List UInt8) : Prop where
  small : T.length ≤ 40
  text : TextIs a T
  ref : ∀ w, Calls Tryd.prog 44 #[.float .f64 a] w fun e w' => e = .returned (.string (bs T)) ∧ w' = w
theorem bl {f : Nat} {args : Array Value} {v : Value} {w : World} (h : Calls Tryd.prog f args w fun e w' => e = .returned v ∧ w' = w) : Calls Tryd.prog f args w fun e w' => e = .returned v ∧ Below w.heap.size w w' := h.mono fun e w' k => ⟨k.1, by rw [k.2]; exact Below.refl _ _⟩
theorem whole_or (b : Nat) : NotWhole b ∨ ∃ q, q < 1000000000000000 ∧ b % 9223372036854775808 = wr q := by
  by_cases h : ∃ q, q < 1000000000000000 ∧ b % 9223372036854775808 = wr q
  · exact .inr h
  · exact .inl fun q hq e => h ⟨q, hq, e⟩
theorem told_whole (n : Int) (h : n.natAbs < 1000000000000000) : ToldD (fl n) (Lib.itoa n) := by
  have hf := fl_small n h
  have hlen : (Lib.itoa n).length ≤ 16 := by
    have := dec_length 14 n.natAbs (by omega)
    unfold Lib.itoa
    split
    · simp; omega
    · rw [show n.toNat = n.natAbs by omega]; omega
  refine ⟨by omega, fun w hw => text_whole n h w hw.pow, fun w => ?_⟩
  rw [hf]
  have e : sg (decide (n < 0)) ++ Lib.decDigits n.natAbs = Lib.itoa n := by
    unfold Lib.itoa sg
    by_cases hn : n < 0
    · simp [hn]
    · rw [if_neg hn, show n.toNat = n.natAbs by omega]; simp [hn]
  rw [← e]
  exact reftext_whole _ _ h w
theorem tellsD (a : Nat) (ha : a < 18446744073709551616) : ∃ T, ToldD a T := by
  by_cases hn : nanB a = true
  · exact ⟨[110, 97, 110], by decide, fun w _ => bl (text_nan a ha hn w), reftext_nan a ha hn⟩
  have hr : a % 9223372036854775808 ≤ 9218868437227405312 := by simpa [nanB] using hn
  have hn' : nanB a = false := by simpa using hn
  by_cases hi : a % 9223372036854775808 = 9218868437227405312
  · have : a = 9218868437227405312 ∨ a = 18442240474082181120 := by omega
    rcases this with rfl | rfl
    · exact ⟨[105, 110, 102], by decide, fun w _ => bl (text_inf w), reftext_inf false⟩
    · exact ⟨[45, 105, 110, 102], by decide, fun w _ => bl (text_ninf w), reftext_inf true⟩
  rcases whole_or a with hno | ⟨q, hq, e⟩
  · exact ⟨hexT a, by rw [hexT_N a ha]; simp [hexN_length], fun w hw => text_hex a ha (by omega) hno w hw.tab, reftext_hex a ha (by omega) hno⟩
  · by_cases hz : a = 9223372036854775808
    · subst hz
      have h0 := reftext_whole true 0 (by decide)
      rw [show wb true 0 = 9223372036854775808 by decide, show Lib.decDigits 0 = [48] by rw [Lib.decDigits]; rfl] at h0
      exact ⟨[45, 48], by decide, fun w _ => bl (text_nought w), h0⟩
    · have hneg : a = wb (decide (9223372036854775808 ≤ a)) q := by
        unfold wb
        by_cases hs : 9223372036854775808 ≤ a
        · simp [hs]; omega
        · simp [hs]; omega
      have hq0 : 9223372036854775808 ≤ a → q ≠ 0 := fun h1 h2 => by
        subst h2
        have : wr 0 = 0 := by decide
        omega
      obtain ⟨n, hn1, hn2⟩ : ∃ n : Int, n.natAbs = q ∧ decide (n < 0) = decide (9223372036854775808 ≤ a) := by
        by_cases hs : 9223372036854775808 ≤ a
        · exact ⟨-(q : Int), by omega, by have := hq0 hs; simp [hs]; omega⟩
        · exact ⟨(q : Int), by omega, by simp [hs]⟩
      have hfl : fl n = a := by rw [fl_small n (by omega), hn1, hn2]; exact hneg.symm
      exact ⟨_, hfl ▸ told_whole n (by omega)⟩
end Go.Proofs.YticflknfkaoejaaDoor
