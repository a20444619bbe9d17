/- num's Code, Cmp, Same, Add and the functions of math that they call. -/
import Derived.Test.YtnfpccmnifhflabDoorBt
import Derived.Laws.Externs
namespace Go.Proofs.YtnfpccmnifhflabDoor
open Go.RowKit

theorem hide {p : Prop} (h : p) : Hid p := h
theorem unhide {p : Prop} (h : Hid p) : p := h
theorem bits_run (b : Nat) (w : World) : (callFunc 13 #[.float .f64 b]).run Tryd.prog w = .ok (.value (.int .u64 b)) w := by
  rw [run_callFunc_extern Tryd.func13 (by kernel_rfl) (by kernel_rfl) (by kernel_rfl) (e := Extern.MathFloatBits.float64bits) (by kernel_rfl)]
  rfl
theorem isNaN_ok (b : Nat) (hb : b < 18446744073709551616) (w : World) : Calls Tryd.prog 12 #[.float .f64 b] w fun e w' => e = .returned (.bool (nanB b)) ∧ w' = w := by
  go_enter Tryd.func12, Tryd.ntmps12
  go_wp2
  go_ret
  exact ⟨congrArg (fun x => Ending.returned (Value.bool x)) (ord_self b hb), rfl⟩

theorem signbit_ok (b : Nat) (hb : b < 18446744073709551616) (w : World) : Calls Tryd.prog 14 #[.float .f64 b] w fun e w' => e = .returned (.bool (decide (9223372036854775808 ≤ b))) ∧ w' = w := by
  have hbit := bits_run
  by_cases hs : 9223372036854775808 ≤ b
  · have e : IntKind.i64.wrap (b : Int) = (b : Int) - 18446744073709551616 := by
      rw [IntKind.wrap_i64]; omega
    have e2 : decide ((b : Int) - 18446744073709551616 < 0) = true := by simp; omega
    go_enter Tryd.func14, Tryd.ntmps14
    go_wp2
    go_ret
    exact ⟨by simp only [hs, decide_true]; rfl, rfl⟩
  · have e : IntKind.i64.wrap (b : Int) = (b : Int) := by
      rw [IntKind.wrap_i64]; omega
    have e2 : decide ((b : Int) < 0) = false := by simp
    go_enter Tryd.func14, Tryd.ntmps14
    go_wp2
    go_ret
    exact ⟨by simp only [hs, decide_false]; rfl, rfl⟩

set_option maxRecDepth 100000 in
theorem code_ok (b : Nat) (hb : b < 18446744073709551616) (w : World) : Calls Tryd.prog 10 #[.float .f64 b] w fun e w' => e = .returned (.int .u64 (codeN b)) ∧ w' = w := by
  have hbit := bits_run
  by_cases hn : nanB b = true
  · go_enter Tryd.func10, Tryd.ntmps10
    go_wp2_with (go_at_call 12; refine (isNaN_ok b hb _).mono ?_; rintro e w' ⟨rfl, rfl⟩; simp only [hn])
    go_ret
    exact ⟨by unfold codeN; rw [if_pos hn]; rfl, rfl⟩
  · have hn' : nanB b = false := by simpa using hn
    by_cases hs : 9223372036854775808 ≤ b
    · go_enter Tryd.func10, Tryd.ntmps10
      go_wp2_with (first | (go_at_call 12; refine (isNaN_ok b hb _).mono ?_; rintro e w' ⟨rfl, rfl⟩; simp only [hn']) | (go_at_call 14; refine (signbit_ok b hb _).mono ?_; rintro e w' ⟨rfl, rfl⟩; simp only [hs, decide_true]))
      go_ret
      refine ⟨congrArg (fun x => Ending.returned (Value.int .u64 x)) ?_, rfl⟩
      rw [ixor_all b hb]
      unfold codeN
      rw [if_neg hn, if_neg (by omega)]
      omega
    · go_enter Tryd.func10, Tryd.ntmps10
      go_wp2_with (first | (go_at_call 12; refine (isNaN_ok b hb _).mono ?_; rintro e w' ⟨rfl, rfl⟩; simp only [hn']) | (go_at_call 14; refine (signbit_ok b hb _).mono ?_; rintro e w' ⟨rfl, rfl⟩; simp only [hs, decide_false]))
      go_ret
      refine ⟨congrArg (fun x => Ending.returned (Value.int .u64 x)) ?_, rfl⟩
      rw [ixor_top b hb]
      unfold codeN
      rw [if_neg hn, if_pos (by omega), if_pos (by omega)]
      omega

/-- How two codes stand. -/
def cmp3 (p q : Nat) : Int := if p < q then -1 else if q < p then 1 else 0

end Go.Proofs.YtnfpccmnifhflabDoor
