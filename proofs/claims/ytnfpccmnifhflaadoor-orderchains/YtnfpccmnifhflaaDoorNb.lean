/- num's Back, and the document's own answers on codes. -/
import Derived.Test.YtnfpccmnifhflaaDoorN1
namespace Go.Proofs.YtnfpccmnifhflaaDoor
open Go.RowKit

/-- The bits whose code a word would be. -/
def backB (c : Nat) : Nat := if c < 9223372036854775808 then 18446744073709551615 - c else c - 9223372036854775808
theorem backB_lt (c : Nat) (h : c < 18446744073709551616) : backB c < 18446744073709551616 := by unfold backB; split <;> omega
/-- What Back tells. -/
def backN (c : Nat) : Nat := if nanB (backB c) then 9221120237041090561 else backB c
theorem backN_lt (c : Nat) (h : c < 18446744073709551616) : backN c < 18446744073709551616 := by
  have := backB_lt c h
  unfold backN; split <;> omega

theorem fromCode_ok (c : Nat) (hc : c < 18446744073709551616) (w : World) : Calls Tryd.prog 44 #[.int .u64 c] w fun e w' => e = .returned (.float .f64 (backB c)) ∧ w' = w := by
  have hf := from_run
  by_cases h : c < 9223372036854775808
  · have h1 : bits .and .u64 (c : Int) 9223372036854775808 = 0 := by rw [iand_top c hc, if_pos h]
    have h2 : bits .xor .u64 IntKind.u64.max (c : Int) = ((backB c : Nat) : Int) := by rw [ixor_all c hc]; unfold backB; rw [if_pos h]; omega
    clear h
    go_enter Tryd.func44, Tryd.ntmps44
    go_wp2
    go_ret
    exact ⟨rfl, rfl⟩
  · have h1 : bits .and .u64 (c : Int) 9223372036854775808 = 9223372036854775808 := by rw [iand_top c hc, if_neg h]
    have h2 : bits .xor .u64 (c : Int) 9223372036854775808 = ((backB c : Nat) : Int) := by rw [ixor_top c hc, if_neg h]; unfold backB; rw [if_neg h]; omega
    clear h
    go_enter Tryd.func44, Tryd.ntmps44
    go_wp2
    go_ret
    exact ⟨rfl, rfl⟩
theorem back_ok (c : Nat) (hc : c < 18446744073709551616) (w : World) : Calls Tryd.prog 35 #[.int .u64 c] w fun e w' => e = .returned (.float .f64 (backN c)) ∧ w' = w := by
  have hl := backB_lt c hc
  have hF := fromCode_ok c hc
  have e1 : nanB (backB c) = true → backN c = 9221120237041090561 := fun hn => by unfold backN; rw [if_pos hn]
  have e2 : nanB (backB c) = false → backN c = backB c := fun hn => by unfold backN; rw [if_neg (by rw [hn]; decide)]
  generalize backB c = x at *
  generalize backN c = y at *
  cases hn : nanB x with
  | true =>
    obtain rfl := e1 hn
    clear e1 e2
    go_enter Tryd.func35, Tryd.ntmps35
    go_wp2_with (first | (go_at_call 44; refine (hF _).mono ?_; rintro e w' ⟨rfl, rfl⟩) | (go_at_call 41; refine (isNaN_ok _ hl _).mono ?_; rintro e w' ⟨rfl, rfl⟩) | (go_at_call 37; refine (nan_ok _).mono ?_; rintro e w' ⟨rfl, rfl⟩))
    go_ret
    exact ⟨rfl, rfl⟩
  | false =>
    obtain rfl := e2 hn
    clear e1 e2
    go_enter Tryd.func35, Tryd.ntmps35
    go_wp2_with (first | (go_at_call 44; refine (hF _).mono ?_; rintro e w' ⟨rfl, rfl⟩) | (go_at_call 41; refine (isNaN_ok _ hl _).mono ?_; rintro e w' ⟨rfl, rfl⟩))
    go_ret
    exact ⟨rfl, rfl⟩

theorem iandNot_top (b : Nat) (hb : b < 18446744073709551616) : bits .andNot .u64 (b : Int) 9223372036854775808 = ((b % 9223372036854775808 : Nat) : Int) := by
  rw [show (9223372036854775808 : Int) = ((9223372036854775808 : Nat) : Int) from rfl, u64_andNot_nat b _ hb (by decide), ← and_low]

theorem refNan_ok (b : Nat) (hb : b < 18446744073709551616) (w : World) : Calls Tryd.prog 38 #[.int .u64 b] w fun e w' => e = .returned (.bool (nanB b)) ∧ w' = w := by
  obtain ⟨x, hx⟩ : ∃ x, x = b % 9223372036854775808 := ⟨_, rfl⟩
  have h1 := iandNot_top b hb
  rw [← hx] at h1
  have h2 : decide ((9218868437227405312 : Int) < (x : Int)) = nanB b := by unfold nanB; rw [← hx]; exact decide_eq_decide.2 (by omega)
  clear hx
  go_enter Tryd.func38, Tryd.ntmps38
  go_wp2
  go_ret
  exact ⟨rfl, rfl⟩
theorem ref16Nan_ok (b : Nat) (hb : b < 18446744073709551616) (w : World) : Calls Tryd.prog 32 #[.float .f64 b] w fun e w' => e = .returned (.bool (nanB b)) ∧ w' = w := by
  have hbit := bits_run
  obtain ⟨x, hx⟩ : ∃ x, x = b % 9223372036854775808 := ⟨_, rfl⟩
  have h1 : bits .and .u64 (b : Int) 9223372036854775807 = (x : Int) := by
    rw [show (9223372036854775807 : Int) = ((9223372036854775807 : Nat) : Int) from rfl, u64_and_nat b _ hb (by decide), and_low, hx]
  have h2 : decide ((9218868437227405312 : Int) < (x : Int)) = nanB b := by unfold nanB; rw [← hx]; exact decide_eq_decide.2 (by omega)
  clear hx
  go_enter Tryd.func32, Tryd.ntmps32
  go_wp2
  go_ret
  exact ⟨rfl, rfl⟩

theorem sameBits_ok (a b : Nat) (ha : a < 18446744073709551616) (hb : b < 18446744073709551616) (h : a = b ∨ nanB a = true ∧ nanB b = true) (w : World) : Calls Tryd.prog 19 #[.float .f64 a, .float .f64 b] w fun e w' => e = .returned (.bool true) ∧ w' = w := by
  have hbit := bits_run
  by_cases e : a = b
  · have h1 : ((a : Int) == (b : Int)) = true := by simp [e]
    clear e
    go_enter Tryd.func19, Tryd.ntmps19
    go_wp2
    go_ret
    exact ⟨rfl, rfl⟩
  · obtain ⟨n1, n2⟩ := h.resolve_left e
    have h1 : ((a : Int) == (b : Int)) = false := by simp; omega
    clear e h
    go_enter Tryd.func19, Tryd.ntmps19
    go_wp2_with (go_at_call 32; refine (ref16Nan_ok _ (by assumption) _).mono ?_; rintro e w' ⟨rfl, rfl⟩)
    go_ret
    exact ⟨rfl, rfl⟩
end Go.Proofs.YtnfpccmnifhflaaDoor
