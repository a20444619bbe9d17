/- NumOrders walked. -/
import Derived.Test.YtepcfgcaekeniaaDoorRefC
namespace Go.Proofs.YtepcfgcaekeniaaDoor
open Go.RowKit

theorem codeN_lt (a : Nat) (h : a < 18446744073709551616) : codeN a < 18446744073709551616 := by
  unfold codeN; split
  · omega
  · split <;> omega
theorem back_code (a : Nat) (ha : a < 18446744073709551616) : backN (codeN a) = a ∨ nanB (backN (codeN a)) = true ∧ nanB a = true := by
  by_cases h : nanB a = true
  · right
    refine ⟨?_, h⟩
    have e : codeN a = 18446744073709551615 := by unfold codeN; rw [if_pos h]
    rw [e]; decide
  · left
    have h' : nanB a = false := by simpa using h
    have e : backB (codeN a) = a := by
      unfold codeN
      rw [if_neg h]
      by_cases k : a < 9223372036854775808
      · rw [if_pos k]; unfold backB; rw [if_neg (by omega)]; omega
      · rw [if_neg k]; unfold backB; rw [if_pos (by omega)]; omega
    unfold backN
    rw [e, if_neg h]

set_option maxRecDepth 100000 in
set_option maxHeartbeats 4000000 in
theorem orders_ok (a b : Nat) (ha : a < 18446744073709551616) (hb : b < 18446744073709551616) (w : World) (ht : Tab w) : Calls Tryd.prog 7 #[.int .u64 a, .int .u64 b] w fun e w' => e = .returned (.bool true) ∧ Below w.heap.size w w' := by
  have hf := from_run
  have hbk := back_ok (codeN a) (codeN_lt a ha)
  have hsame := sameBits_ok (backN (codeN a)) a (backN_lt _ (codeN_lt a ha)) ha (back_code a ha)
  generalize backN (codeN a) = z at *
  have key : (cmp3 (codeN a) (codeN b) = -1 ∧ cmp3 (codeN b) (codeN a) = 1 ∧ ((codeN a : Int) < codeN b) = True ∧ ((codeN a : Int) == codeN b) = false) ∨ (cmp3 (codeN a) (codeN b) = 0 ∧ cmp3 (codeN b) (codeN a) = 0 ∧ ((codeN a : Int) < codeN b) = False ∧ ((codeN a : Int) == codeN b) = true) ∨ (cmp3 (codeN a) (codeN b) = 1 ∧ cmp3 (codeN b) (codeN a) = -1 ∧ ((codeN a : Int) < codeN b) = False ∧ ((codeN a : Int) == codeN b) = false) := by
    rcases Nat.lt_trichotomy (codeN a) (codeN b) with h | h | h
    · exact .inl ⟨by unfold cmp3; rw [if_pos h], by unfold cmp3; rw [if_neg (by omega), if_pos h], by simp; omega, by simp; omega⟩
    · exact .inr (.inl ⟨by rw [h]; unfold cmp3; rw [if_neg (by omega), if_neg (by omega)], by rw [h]; unfold cmp3; rw [if_neg (by omega), if_neg (by omega)], by simp [h], by simp [h]⟩)
    · exact .inr (.inr ⟨by unfold cmp3; rw [if_neg (by omega), if_pos h], by unfold cmp3; rw [if_pos h], by simp; omega, by simp; omega⟩)
  rcases key with ⟨k1, k2, k3, k4⟩ | ⟨k1, k2, k3, k4⟩ | ⟨k1, k2, k3, k4⟩
  all_goals
    go_enter Tryd.func7, Tryd.ntmps7
    go_wp2_with (first | (go_at_call 10; refine (cmp_ok _ _ (by assumption) (by assumption) _).mono ?_; rintro e w' ⟨rfl, rfl⟩) | (go_at_call 11; refine (code_ok _ (by assumption) _).mono ?_; rintro e w' ⟨rfl, rfl⟩) | (go_at_call 27; refine (refCmp_ok _ _ (by assumption) (by assumption) _).mono ?_; rintro e w' ⟨rfl, rfl⟩) | (go_at_call 26; refine (same_ok _ _ (by assumption) (by assumption) _).mono ?_; rintro e w' ⟨rfl, rfl⟩) | (go_at_call 28; refine (refCode_ok _ (by assumption) _).mono ?_; rintro e w' ⟨rfl, rfl⟩) | (go_at_call 16; refine (hbk _).mono ?_; rintro e w' ⟨rfl, rfl⟩) | (go_at_call 24; refine (hsame _).mono ?_; rintro e w' ⟨rfl, rfl⟩) | (go_at_call 14; refine (awake_ok _ (by assumption)).mono ?_; rintro e w2 ⟨rfl, hb2⟩))
    go_ret
    exact ⟨rfl, hb2⟩
end Go.Proofs.YtepcfgcaekeniaaDoor
