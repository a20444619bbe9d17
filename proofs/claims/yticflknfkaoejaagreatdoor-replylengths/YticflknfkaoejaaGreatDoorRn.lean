/- What Text says of a number, byte by byte, and what Parse reads back. -/
import Derived.Test.YticflknfkaoejaaGreatDoorRm
namespace Go.Proofs.YticflknfkaoejaaGreatDoor
open Go.RowKit

/-- Text says of the number a the text T; Parse reads T as y. -/
structure ToldZ (a : Nat) (T : List UInt8) (y : Nat) : Prop where
  lt : y < 18446744073709551616
  small : T.length ≤ 40
  same : a = y ∨ nanB a = true ∧ nanB y = true
  text : TextIs a T
  parse : ∀ w, Lk w → Calls Tryz.prog 83 #[.string (bs T)] w fun e w' => e = .returned (readV (some y)) ∧ Below w.heap.size w w'
  chr : ∀ c ∈ T, 33 ≤ c.toNat ∧ c.toNat ≤ 126
  ne : 1 ≤ T.length
theorem bl {f : Nat} {args : Array Value} {v : Value} {w : World} (h : Calls Tryz.prog f args w fun e w' => e = .returned v ∧ w' = w) : Calls Tryz.prog f args w fun e w' => e = .returned v ∧ Below w.heap.size w w' := h.mono fun e w' k => ⟨k.1, by rw [k.2]; exact Below.refl _ _⟩
theorem whole_or (b : Nat) : NotWhole b ∨ ∃ q, q < 1000000000000000 ∧ b % 9223372036854775808 = wr q := by
  by_cases h : ∃ q, q < 1000000000000000 ∧ b % 9223372036854775808 = wr q
  · exact .inr h
  · exact .inl fun q hq e => h ⟨q, hq, e⟩
theorem itoa_chr (n : Int) : ∀ c ∈ Lib.itoa n, 33 ≤ c.toNat ∧ c.toNat ≤ 126 := fun c hc => by
  unfold Lib.itoa at hc
  split at hc
  · rcases List.mem_cons.1 hc with rfl | h
    · decide
    · have := (dec_props _).1 c h; omega
  · have := (dec_props _).1 c hc; omega
theorem itoa_ne (n : Int) : 1 ≤ (Lib.itoa n).length := by
  unfold Lib.itoa
  split
  · simp
  · exact (dec_props _).2.2.1
theorem hexd_chr (n : Nat) (h : n < 16) : 33 ≤ (hexd n).toNat ∧ (hexd n).toNat ≤ 126 := by
  have key : ∀ n, n < 16 → 33 ≤ (hexd n).toNat ∧ (hexd n).toNat ≤ 126 := by decide
  exact key n h
theorem hexN_chr (k b : Nat) : ∀ c ∈ hexN k b, 33 ≤ c.toNat ∧ c.toNat ≤ 126 := by
  induction k generalizing b with
  | zero => intro c hc; simp [hexN] at hc
  | succ k ih =>
    intro c hc
    simp only [hexN, List.mem_append, List.mem_cons, List.not_mem_nil, or_false] at hc
    rcases hc with h | h
    all_goals first
      | exact ih _ c h
      | (rw [h]; exact hexd_chr _ (by omega))
theorem told_whole (n : Int) (h : n.natAbs < 1000000000000000) : ToldZ (fl n) (Lib.itoa n) (fl n) := by
  have hf := fl_small n h
  have hlen : (Lib.itoa n).length ≤ 16 := by
    have := dec_length 14 n.natAbs (by omega)
    unfold Lib.itoa
    split
    · simp; omega
    · rw [show n.toNat = n.natAbs by omega]; omega
  refine ⟨?_, by omega, .inl rfl, fun w hw => text_whole n h w hw.pow, fun w hw => ?_, itoa_chr n, itoa_ne n⟩
  · rw [hf]; exact (wb_facts _ _ (by omega)).1
  · exact parse_plain ⟨(Lib.itoa n).toArray⟩ (by show (Lib.itoa n).toArray.size ≤ _; rw [List.size_toArray]; omega) (plain_itoa n h) (some (fl n)) (.inl ⟨n, parse_itoa n h, h, rfl, rfl⟩) w hw.tab hw.pow hw.errs
theorem tellsZ (a : Nat) (ha : a < 18446744073709551616) : ∃ T y, ToldZ a T y := by
  by_cases hn : nanB a = true
  · exact ⟨[110, 97, 110], 9221120237041090561, by decide, by decide, .inr ⟨hn, by decide⟩, fun w _ => bl (text_nan a ha hn w), fun w _ => bl (parse_nan w), by decide, by decide⟩
  have hr : a % 9223372036854775808 ≤ 9218868437227405312 := by simpa [nanB] using hn
  have hn' : nanB a = false := by simpa using hn
  by_cases hi : a % 9223372036854775808 = 9218868437227405312
  · have : a = 9218868437227405312 ∨ a = 18442240474082181120 := by omega
    rcases this with rfl | rfl
    · exact ⟨[105, 110, 102], _, by decide, by decide, .inl rfl, fun w _ => bl (text_inf w), fun w _ => bl (parse_inf w), by decide, by decide⟩
    · exact ⟨[45, 105, 110, 102], _, by decide, by decide, .inl rfl, fun w _ => bl (text_ninf w), fun w _ => bl (parse_ninf w), by decide, by decide⟩
  rcases whole_or a with hno | ⟨q, hq, e⟩
  · refine ⟨hexT a, a, ha, by rw [hexT_N a ha]; simp [hexN_length], .inl rfl, fun w hw => text_hex a ha (by omega) hno w hw.tab, fun w _ => bl (parse_hexT a ha hn' w), ?_, by rw [hexT_N a ha]; simp⟩
    rw [hexT_N a ha]
    intro c hc
    rcases List.mem_cons.1 hc with rfl | h
    · decide
    rcases List.mem_cons.1 h with rfl | h
    · decide
    exact hexN_chr _ _ c h
  · by_cases hz : a = 9223372036854775808
    · subst hz
      exact ⟨[45, 48], _, by decide, by decide, .inl rfl, fun w _ => bl (text_nought w), fun w _ => bl (parse_nought w), by decide, by decide⟩
    · have hneg : a = wb (decide (9223372036854775808 ≤ a)) q := by
        unfold wb
        by_cases hs : 9223372036854775808 ≤ a
        · simp [hs]; omega
        · simp [hs]; omega
      have hq0 : 9223372036854775808 ≤ a → q ≠ 0 := fun h1 h2 => by
        subst h2
        have : wr 0 = 0 := by decide
        omega
      obtain ⟨n, hn1, hn2⟩ : ∃ n : Int, n.natAbs = q ∧ decide (n < 0) = decide (9223372036854775808 ≤ a) := by
        by_cases hs : 9223372036854775808 ≤ a
        · exact ⟨-(q : Int), by omega, by have := hq0 hs; simp [hs]; omega⟩
        · exact ⟨(q : Int), by omega, by simp [hs]⟩
      have hfl : fl n = a := by rw [fl_small n (by omega), hn1, hn2]; exact hneg.symm
      exact ⟨_, _, hfl ▸ told_whole n (by omega)⟩
end Go.Proofs.YticflknfkaoejaaGreatDoor
