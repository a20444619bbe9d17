/- The document's own codes. -/
import Derived.Test.YtnfpccmnifhflaaDoorNb
namespace Go.Proofs.YtnfpccmnifhflaaDoor
open Go.RowKit

theorem or_top (b : Nat) (h : b < 9223372036854775808) : b ||| 9223372036854775808 = b + 9223372036854775808 := by
  have := Nat.two_pow_add_eq_or_of_lt (i := 63) (b := b) h 1
  rw [Nat.or_comm]
  simpa [Nat.add_comm] using this.symm
theorem refCode_ok (b : Nat) (hb : b < 18446744073709551616) (w : World) : Calls Tryd.prog 26 #[.float .f64 b] w fun e w' => e = .returned (.int .u64 (codeN b)) ∧ w' = w := by
  have hbit := bits_run
  cases hn : nanB b with
  | true =>
    go_enter Tryd.func26, Tryd.ntmps26
    go_wp2_with (go_at_call 38; refine (refNan_ok b hb _).mono ?_; rintro e w' ⟨rfl, rfl⟩)
    go_ret
    exact ⟨by unfold codeN; rw [hn]; rfl, rfl⟩
  | false =>
    by_cases h : b < 9223372036854775808
    · have h1 : bits .and .u64 (b : Int) 9223372036854775808 = 0 := by rw [iand_top b hb, if_pos h]
      have h2 : bits .or .u64 (b : Int) 9223372036854775808 = ((codeN b : Nat) : Int) := by
        rw [show (9223372036854775808 : Int) = ((9223372036854775808 : Nat) : Int) from rfl, u64_or_nat b _ hb (by decide), or_top b h]
        unfold codeN; rw [if_neg (by rw [hn]; decide), if_pos h]
      go_enter Tryd.func26, Tryd.ntmps26
      go_wp2_with (go_at_call 38; refine (refNan_ok b hb _).mono ?_; rintro e w' ⟨rfl, rfl⟩)
      go_ret
      exact ⟨rfl, rfl⟩
    · have h1 : bits .and .u64 (b : Int) 9223372036854775808 = 9223372036854775808 := by rw [iand_top b hb, if_neg h]
      have h2 : bits .xor .u64 IntKind.u64.max (b : Int) = ((codeN b : Nat) : Int) := by rw [ixor_all b hb]; unfold codeN; rw [if_neg (by rw [hn]; decide), if_neg h]; omega
      go_enter Tryd.func26, Tryd.ntmps26
      go_wp2_with (go_at_call 38; refine (refNan_ok b hb _).mono ?_; rintro e w' ⟨rfl, rfl⟩)
      go_ret
      exact ⟨rfl, rfl⟩
set_option maxRecDepth 100000 in
theorem refBack_ok (c : Nat) (hc : c < 18446744073709551616) (w : World) : Calls Tryd.prog 36 #[.int .u64 c] w fun e w' => e = .returned (.tuple #[.int .u64 (backB c), .bool (!nanB (backB c))]) ∧ w' = w := by
  have hl := backB_lt c hc
  by_cases h : c < 9223372036854775808
  · have h1 : bits .and .u64 (c : Int) 9223372036854775808 = 0 := by rw [iand_top c hc, if_pos h]
    have h2 : bits .xor .u64 IntKind.u64.max (c : Int) = ((backB c : Nat) : Int) := by rw [ixor_all c hc]; unfold backB; rw [if_pos h]; omega
    clear h
    generalize backB c = x at *
    go_enter Tryd.func36, Tryd.ntmps36
    go_wp2_with (go_at_call 38; refine (refNan_ok _ hl _).mono ?_; rintro e w' ⟨rfl, rfl⟩)
    go_ret2
    exact ⟨rfl, rfl⟩
  · have h1 : bits .and .u64 (c : Int) 9223372036854775808 = 9223372036854775808 := by rw [iand_top c hc, if_neg h]
    have h2 : bits .andNot .u64 (c : Int) 9223372036854775808 = ((backB c : Nat) : Int) := by rw [iandNot_top c hc]; unfold backB; rw [if_neg h]; omega
    obtain ⟨y, hy⟩ : ∃ y, bits .xor .u64 IntKind.u64.max (c : Int) = y := ⟨_, rfl⟩
    clear h
    generalize backB c = x at *
    go_enter Tryd.func36, Tryd.ntmps36
    go_wp2_with (go_at_call 38; refine (refNan_ok _ hl _).mono ?_; rintro e w' ⟨rfl, rfl⟩)
    go_ret2
    exact ⟨rfl, rfl⟩
set_option maxRecDepth 100000 in
theorem refCmp_ok (a b : Nat) (ha : a < 18446744073709551616) (hb : b < 18446744073709551616) (w : World) : Calls Tryd.prog 24 #[.float .f64 a, .float .f64 b] w fun e w' => e = .returned (.int .i64 (cmp3 (codeN a) (codeN b))) ∧ w' = w := by
  rcases Nat.lt_trichotomy (codeN a) (codeN b) with h | h | h
  · have h1 : ((codeN a : Int) < codeN b) = True := by simp; omega
    go_enter Tryd.func24, Tryd.ntmps24
    go_wp2_with (go_at_call 26; refine (refCode_ok _ (by assumption) _).mono ?_; rintro e w' ⟨rfl, rfl⟩)
    go_ret
    exact ⟨by unfold cmp3; rw [if_pos h]; rfl, rfl⟩
  · have h1 : ((codeN a : Int) < codeN b) = False := by simp; omega
    have h2 : ((codeN b : Int) < codeN a) = False := by simp; omega
    have h3 := hide h
    clear h
    go_enter Tryd.func24, Tryd.ntmps24
    go_wp2_with (go_at_call 26; refine (refCode_ok _ (by assumption) _).mono ?_; rintro e w' ⟨rfl, rfl⟩)
    go_ret
    exact ⟨by unfold cmp3; rw [unhide h3, if_neg (by omega), if_neg (by omega)]; rfl, rfl⟩
  · have h1 : ((codeN a : Int) < codeN b) = False := by simp; omega
    have h2 : ((codeN b : Int) < codeN a) = True := by simp; omega
    go_enter Tryd.func24, Tryd.ntmps24
    go_wp2_with (go_at_call 26; refine (refCode_ok _ (by assumption) _).mono ?_; rintro e w' ⟨rfl, rfl⟩)
    go_ret
    exact ⟨by unfold cmp3; rw [if_neg (by omega), if_pos h]; rfl, rfl⟩
theorem codeN_lt (a : Nat) (h : a < 18446744073709551616) : codeN a < 18446744073709551616 := by
  unfold codeN; split
  · omega
  · split <;> omega
theorem back_code (a : Nat) (ha : a < 18446744073709551616) : backN (codeN a) = a ∨ nanB (backN (codeN a)) = true ∧ nanB a = true := by
  by_cases h : nanB a = true
  · right
    refine ⟨?_, h⟩
    have e : codeN a = 18446744073709551615 := by unfold codeN; rw [if_pos h]
    rw [e]; decide
  · left
    have h' : nanB a = false := by simpa using h
    have e : backB (codeN a) = a := by
      unfold codeN
      rw [if_neg h]
      by_cases k : a < 9223372036854775808
      · rw [if_pos k]; unfold backB; rw [if_neg (by omega)]; omega
      · rw [if_neg k]; unfold backB; rw [if_pos (by omega)]; omega
    unfold backN
    rw [e, if_neg h]

end Go.Proofs.YtnfpccmnifhflaaDoor
