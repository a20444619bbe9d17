/- num's Code, Cmp, Same, Add and the functions of math that they call. -/
import Derived.Test.YticflknfkaoejaaDoorBt
import Derived.Laws.Externs
namespace Go.Proofs.YticflknfkaoejaaDoor
open Go.RowKit

theorem bits_run (b : Nat) (w : World) : (callFunc 32 #[.float .f64 b]).run Tryd.prog w = .ok (.value (.int .u64 b)) w := by
  rw [run_callFunc_extern Tryd.func32 (by kernel_rfl) (by kernel_rfl) (by kernel_rfl) (e := Extern.MathFloatBits.float64bits) (by kernel_rfl)]
  rfl
theorem from_run (n : Int) (w : World) : (callFunc 5 #[.int .u64 n]).run Tryd.prog w = .ok (.value (.float .f64 n.toNat)) w := by
  rw [run_callFunc_extern Tryd.func5 (by kernel_rfl) (by kernel_rfl) (by kernel_rfl) (e := Extern.MathFloatBits.float64frombits) (by kernel_rfl)]
  rfl

theorem isNaN_ok (b : Nat) (hb : b < 18446744073709551616) (w : World) : Calls Tryd.prog 50 #[.float .f64 b] w fun e w' => e = .returned (.bool (nanB b)) ∧ w' = w := by
  go_enter Tryd.func50, Tryd.ntmps50
  go_wp2
  go_ret
  exact ⟨congrArg (fun x => Ending.returned (Value.bool x)) (ord_self b hb), rfl⟩

theorem signbit_ok (b : Nat) (hb : b < 18446744073709551616) (w : World) : Calls Tryd.prog 62 #[.float .f64 b] w fun e w' => e = .returned (.bool (decide (9223372036854775808 ≤ b))) ∧ w' = w := by
  have hbit := bits_run
  by_cases hs : 9223372036854775808 ≤ b
  · have e : IntKind.i64.wrap (b : Int) = (b : Int) - 18446744073709551616 := by
      rw [IntKind.wrap_i64]; omega
    have e2 : decide ((b : Int) - 18446744073709551616 < 0) = true := by simp; omega
    go_enter Tryd.func62, Tryd.ntmps62
    go_wp2
    go_ret
    exact ⟨by simp only [hs, decide_true]; rfl, rfl⟩
  · have e : IntKind.i64.wrap (b : Int) = (b : Int) := by
      rw [IntKind.wrap_i64]; omega
    have e2 : decide ((b : Int) < 0) = false := by simp
    go_enter Tryd.func62, Tryd.ntmps62
    go_wp2
    go_ret
    exact ⟨by simp only [hs, decide_false]; rfl, rfl⟩

/-- How two codes stand. -/
def cmp3 (p q : Nat) : Int := if p < q then -1 else if q < p then 1 else 0

theorem inf_up (w : World) : Calls Tryd.prog 30 #[.int .i64 1] w fun e w' => e = .returned (.float .f64 9218868437227405312) ∧ w' = w := by
  have hf := from_run
  go_enter Tryd.func30, Tryd.ntmps30
  go_wp2
  go_ret
  exact ⟨rfl, rfl⟩
theorem inf_down (w : World) : Calls Tryd.prog 30 #[.int .i64 (-1)] w fun e w' => e = .returned (.float .f64 18442240474082181120) ∧ w' = w := by
  have hf := from_run
  go_enter Tryd.func30, Tryd.ntmps30
  go_wp2
  go_ret
  exact ⟨rfl, rfl⟩
theorem nan_ok (w : World) : Calls Tryd.prog 33 #[] w fun e w' => e = .returned (.float .f64 9221120237041090561) ∧ w' = w := by
  have hf := from_run
  go_enter Tryd.func33, Tryd.ntmps33
  go_wp2
  go_ret
  exact ⟨rfl, rfl⟩
/-- Minus nought. -/
theorem copysign_ok (w : World) : Calls Tryd.prog 27 #[.float .f64 0, .float .f64 13830554455654793216] w fun e w' => e = .returned (.float .f64 9223372036854775808) ∧ w' = w := by
  have hf := from_run
  have hbit := bits_run
  go_enter Tryd.func27, Tryd.ntmps27
  go_wp2
  go_ret
  exact ⟨rfl, rfl⟩
theorem abs_ok (b : Nat) (hb : b < 18446744073709551616) (w : World) : Calls Tryd.prog 60 #[.float .f64 b] w fun e w' => e = .returned (.float .f64 (b % 9223372036854775808)) ∧ w' = w := by
  have hf := from_run
  have hbit := bits_run
  have e1 : bits .andNot .u64 (b : Int) 9223372036854775808 = ((b % 9223372036854775808 : Nat) : Int) := by
    rw [show (9223372036854775808 : Int) = ((9223372036854775808 : Nat) : Int) from rfl, u64_andNot_nat b _ hb (by decide), ← and_low]
  go_enter Tryd.func60, Tryd.ntmps60
  go_wp2
  go_ret
  exact ⟨by simp, rfl⟩
end Go.Proofs.YticflknfkaoejaaDoor
