/- num's Text at three, at minus nought and at a half; what the document fixes. -/
import Derived.Test.YticflknfkaoejaaDoorInf
namespace Go.Proofs.YticflknfkaoejaaDoor
open Go.RowKit

set_option maxRecDepth 100000 in
set_option maxHeartbeats 1000000 in
theorem text_three (w : World) : Calls Tryd.prog 43 #[.float .f64 4613937818241073152] w fun e w' => e = .returned (.string ⟨#[51]⟩) ∧ w' = w := by
  have hn : nanB 4613937818241073152 = false := by decide
  have hi1 : infS 1 4613937818241073152 = false := by decide
  have hi2 : infS (-1) 4613937818241073152 = false := by decide
  have h3 : (FloatKind.f64.format.order 4613937818241073152 4831355200913801216 == some Ordering.lt) = true := by decide +kernel
  have h4 : (FloatKind.f64.format.order 4613937818241073152 4613937818241073152 == some Ordering.eq) = true := by decide +kernel
  have h5 : (FloatKind.f64.format.order 4613937818241073152 0 == some Ordering.eq) = false := by decide +kernel
  have hcv : ∀ w, (convert 35 2 (.float .f64 4613937818241073152)).run Tryd.prog w = .ok (.int .i64 3) w := fun w => run_convert_float_int w 35 2 .f64 .i64 _ 3 (by kernel_rfl) Tryd.underlying2 (by decide +kernel)
  go_enter Tryd.func43, Tryd.ntmps43
  go_wp2_with (first | (go_at_call 50; refine (isNaN_ok _ (by decide) _).mono ?_; rintro e w' ⟨rfl, rfl⟩) | (go_at_call 63; refine (Tryd.strconv_FormatInt_10_small 3 (by decide) _).mono ?_; rintro e w' ⟨rfl, rfl⟩) | (go_at_call 51; refine (isInf_s _ (by decide) _ (by decide) _).mono ?_; rintro e w' ⟨rfl, rfl⟩) | (go_at_call 52; go_in) | (go_at_call 53; go_in) | (go_at_call 61; refine (trunc_ok _ 4613937818241073152 (by decide) (by decide +kernel) _).mono ?_; rintro e w' ⟨rfl, rfl⟩) | (go_at_call 60; refine (abs_ok _ (by decide) _).mono ?_; rintro e w' ⟨rfl, rfl⟩))
  go_ret
  exact ⟨congrArg (fun l => Ending.returned (Value.string ⟨List.toArray l⟩)) (show Lib.decDigits 3 = [51] by decide +kernel), rfl⟩

set_option maxRecDepth 100000 in
set_option maxHeartbeats 1000000 in
theorem text_nought (w : World) : Calls Tryd.prog 43 #[.float .f64 9223372036854775808] w fun e w' => e = .returned (.string ⟨#[45, 48]⟩) ∧ w' = w := by
  have hn : nanB 9223372036854775808 = false := by decide
  have hi1 : infS 1 9223372036854775808 = false := by decide
  have hi2 : infS (-1) 9223372036854775808 = false := by decide
  have h3 : (FloatKind.f64.format.order 0 4831355200913801216 == some Ordering.lt) = true := by decide +kernel
  have h4 : (FloatKind.f64.format.order 9223372036854775808 9223372036854775808 == some Ordering.eq) = true := by decide +kernel
  have h5 : (FloatKind.f64.format.order 9223372036854775808 0 == some Ordering.eq) = true := by decide +kernel
  go_enter Tryd.func43, Tryd.ntmps43
  go_wp2_with (first | (go_at_call 50; refine (isNaN_ok _ (by decide) _).mono ?_; rintro e w' ⟨rfl, rfl⟩) | (go_at_call 51; refine (isInf_s _ (by decide) _ (by decide) _).mono ?_; rintro e w' ⟨rfl, rfl⟩) | (go_at_call 52; go_in) | (go_at_call 53; go_in) | (go_at_call 61; refine (trunc_ok _ 9223372036854775808 (by decide) (by decide +kernel) _).mono ?_; rintro e w' ⟨rfl, rfl⟩) | (go_at_call 60; refine (abs_ok _ (by decide) _).mono ?_; rintro e w' ⟨rfl, rfl⟩) | (go_at_call 62; refine (signbit_ok _ (by decide) _).mono ?_; rintro e w' ⟨rfl, rfl⟩))
  go_ret
  exact ⟨rfl, rfl⟩

set_option maxRecDepth 100000 in
set_option maxHeartbeats 1000000 in
theorem text_half (w : World) (ht : Tab w) : Calls Tryd.prog 43 #[.float .f64 4602678819172646912] w fun e w' => e = .returned (.string ⟨#[48, 120, 51, 102, 101, 48, 48, 48, 48, 48, 48, 48, 48, 48, 48, 48, 48, 48]⟩) ∧ Below w.heap.size w w' := by
  have hn : nanB 4602678819172646912 = false := by decide
  have hi1 : infS 1 4602678819172646912 = false := by decide
  have hi2 : infS (-1) 4602678819172646912 = false := by decide
  have hb := bits_run
  have h3 : (FloatKind.f64.format.order 4602678819172646912 4831355200913801216 == some Ordering.lt) = true := by decide +kernel
  have h4 : (FloatKind.f64.format.order 0 4602678819172646912 == some Ordering.eq) = false := by decide +kernel
  have e : hexT 4602678819172646912 = [48, 120, 51, 102, 101, 48, 48, 48, 48, 48, 48, 48, 48, 48, 48, 48, 48, 48] := by decide +kernel
  have hx := hexText_ok 4602678819172646912 (by decide) w ht
  rw [e] at hx
  go_enter Tryd.func43, Tryd.ntmps43
  go_wp2_with (first | (go_at_call 50; refine (isNaN_ok _ (by decide) _).mono ?_; rintro e w' ⟨rfl, rfl⟩) | (go_at_call 54; refine hx.mono ?_; rintro e w2 ⟨rfl, hb2⟩) | (go_at_call 51; refine (isInf_s _ (by decide) _ (by decide) _).mono ?_; rintro e w' ⟨rfl, rfl⟩) | (go_at_call 52; go_in) | (go_at_call 61; refine (trunc_ok _ 0 (by decide) (by decide +kernel) _).mono ?_; rintro e w' ⟨rfl, rfl⟩) | (go_at_call 60; refine (abs_ok _ (by decide) _).mono ?_; rintro e w' ⟨rfl, rfl⟩))
  go_ret
  exact ⟨rfl, hb2⟩
end Go.Proofs.YticflknfkaoejaaDoor
