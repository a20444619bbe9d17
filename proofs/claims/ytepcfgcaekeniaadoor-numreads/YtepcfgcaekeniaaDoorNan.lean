/- The document's own look whether bits are a number's, and whether two numbers are the same to the bit. -/
import Derived.Test.YtepcfgcaekeniaaDoorAwake
namespace Go.Proofs.YtepcfgcaekeniaaDoor
open Go.RowKit

theorem iandNot_top (b : Nat) (hb : b < 18446744073709551616) : bits .andNot .u64 (b : Int) 9223372036854775808 = ((b % 9223372036854775808 : Nat) : Int) := by
  rw [show (9223372036854775808 : Int) = ((9223372036854775808 : Nat) : Int) from rfl, u64_andNot_nat b _ hb (by decide), ← and_low]

theorem refNan_ok (b : Nat) (hb : b < 18446744073709551616) (w : World) : Calls Tryd.prog 36 #[.int .u64 b] w fun e w' => e = .returned (.bool (nanB b)) ∧ w' = w := by
  obtain ⟨x, hx⟩ : ∃ x, x = b % 9223372036854775808 := ⟨_, rfl⟩
  have h1 := iandNot_top b hb
  rw [← hx] at h1
  have h2 : decide ((9218868437227405312 : Int) < (x : Int)) = nanB b := by unfold nanB; rw [← hx]; exact decide_eq_decide.2 (by omega)
  clear hx
  go_enter Tryd.func36, Tryd.ntmps36
  go_wp2
  go_ret
  exact ⟨rfl, rfl⟩
theorem ref16Nan_ok (b : Nat) (hb : b < 18446744073709551616) (w : World) : Calls Tryd.prog 45 #[.float .f64 b] w fun e w' => e = .returned (.bool (nanB b)) ∧ w' = w := by
  have hbit := bits_run
  obtain ⟨x, hx⟩ : ∃ x, x = b % 9223372036854775808 := ⟨_, rfl⟩
  have h1 : bits .and .u64 (b : Int) 9223372036854775807 = (x : Int) := by
    rw [show (9223372036854775807 : Int) = ((9223372036854775807 : Nat) : Int) from rfl, u64_and_nat b _ hb (by decide), and_low, hx]
  have h2 : decide ((9218868437227405312 : Int) < (x : Int)) = nanB b := by unfold nanB; rw [← hx]; exact decide_eq_decide.2 (by omega)
  clear hx
  go_enter Tryd.func45, Tryd.ntmps45
  go_wp2
  go_ret
  exact ⟨rfl, rfl⟩

theorem sameBits_ok (a b : Nat) (ha : a < 18446744073709551616) (hb : b < 18446744073709551616) (h : a = b ∨ nanB a = true ∧ nanB b = true) (w : World) : Calls Tryd.prog 24 #[.float .f64 a, .float .f64 b] w fun e w' => e = .returned (.bool true) ∧ w' = w := by
  have hbit := bits_run
  by_cases e : a = b
  · have h1 : ((a : Int) == (b : Int)) = true := by simp [e]
    clear e
    go_enter Tryd.func24, Tryd.ntmps24
    go_wp2
    go_ret
    exact ⟨rfl, rfl⟩
  · obtain ⟨n1, n2⟩ := h.resolve_left e
    have h1 : ((a : Int) == (b : Int)) = false := by simp; omega
    clear e h
    go_enter Tryd.func24, Tryd.ntmps24
    go_wp2_with (go_at_call 45; refine (ref16Nan_ok _ (by assumption) _).mono ?_; rintro e w' ⟨rfl, rfl⟩)
    go_ret
    exact ⟨rfl, rfl⟩
end Go.Proofs.YtepcfgcaekeniaaDoor
