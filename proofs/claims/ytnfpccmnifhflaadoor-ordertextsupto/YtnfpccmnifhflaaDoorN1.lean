/- num's Code, Cmp, Same, Add and the functions of math that they call. -/
import Derived.Test.YtnfpccmnifhflaaDoorBt
import Derived.Laws.Externs
namespace Go.Proofs.YtnfpccmnifhflaaDoor
open Go.RowKit

theorem hide {p : Prop} (h : p) : Hid p := h
theorem unhide {p : Prop} (h : Hid p) : p := h
theorem bits_run (b : Nat) (w : World) : (callFunc 27 #[.float .f64 b]).run Tryd.prog w = .ok (.value (.int .u64 b)) w := by
  rw [run_callFunc_extern Tryd.func27 (by kernel_rfl) (by kernel_rfl) (by kernel_rfl) (e := Extern.MathFloatBits.float64bits) (by kernel_rfl)]
  rfl
theorem from_run (n : Int) (w : World) : (callFunc 12 #[.int .u64 n]).run Tryd.prog w = .ok (.value (.float .f64 n.toNat)) w := by
  rw [run_callFunc_extern Tryd.func12 (by kernel_rfl) (by kernel_rfl) (by kernel_rfl) (e := Extern.MathFloatBits.float64frombits) (by kernel_rfl)]
  rfl

theorem isNaN_ok (b : Nat) (hb : b < 18446744073709551616) (w : World) : Calls Tryd.prog 41 #[.float .f64 b] w fun e w' => e = .returned (.bool (nanB b)) ∧ w' = w := by
  go_enter Tryd.func41, Tryd.ntmps41
  go_wp2
  go_ret
  exact ⟨congrArg (fun x => Ending.returned (Value.bool x)) (ord_self b hb), rfl⟩

theorem signbit_ok (b : Nat) (hb : b < 18446744073709551616) (w : World) : Calls Tryd.prog 42 #[.float .f64 b] w fun e w' => e = .returned (.bool (decide (9223372036854775808 ≤ b))) ∧ w' = w := by
  have hbit := bits_run
  by_cases hs : 9223372036854775808 ≤ b
  · have e : IntKind.i64.wrap (b : Int) = (b : Int) - 18446744073709551616 := by
      rw [IntKind.wrap_i64]; omega
    have e2 : decide ((b : Int) - 18446744073709551616 < 0) = true := by simp; omega
    go_enter Tryd.func42, Tryd.ntmps42
    go_wp2
    go_ret
    exact ⟨by simp only [hs, decide_true]; rfl, rfl⟩
  · have e : IntKind.i64.wrap (b : Int) = (b : Int) := by
      rw [IntKind.wrap_i64]; omega
    have e2 : decide ((b : Int) < 0) = false := by simp
    go_enter Tryd.func42, Tryd.ntmps42
    go_wp2
    go_ret
    exact ⟨by simp only [hs, decide_false]; rfl, rfl⟩

set_option maxRecDepth 100000 in
theorem code_ok (b : Nat) (hb : b < 18446744073709551616) (w : World) : Calls Tryd.prog 30 #[.float .f64 b] w fun e w' => e = .returned (.int .u64 (codeN b)) ∧ w' = w := by
  have hbit := bits_run
  by_cases hn : nanB b = true
  · go_enter Tryd.func30, Tryd.ntmps30
    go_wp2_with (go_at_call 41; refine (isNaN_ok b hb _).mono ?_; rintro e w' ⟨rfl, rfl⟩; simp only [hn])
    go_ret
    exact ⟨by unfold codeN; rw [if_pos hn]; rfl, rfl⟩
  · have hn' : nanB b = false := by simpa using hn
    by_cases hs : 9223372036854775808 ≤ b
    · go_enter Tryd.func30, Tryd.ntmps30
      go_wp2_with (first | (go_at_call 41; refine (isNaN_ok b hb _).mono ?_; rintro e w' ⟨rfl, rfl⟩; simp only [hn']) | (go_at_call 42; refine (signbit_ok b hb _).mono ?_; rintro e w' ⟨rfl, rfl⟩; simp only [hs, decide_true]))
      go_ret
      refine ⟨congrArg (fun x => Ending.returned (Value.int .u64 x)) ?_, rfl⟩
      rw [ixor_all b hb]
      unfold codeN
      rw [if_neg hn, if_neg (by omega)]
      omega
    · go_enter Tryd.func30, Tryd.ntmps30
      go_wp2_with (first | (go_at_call 41; refine (isNaN_ok b hb _).mono ?_; rintro e w' ⟨rfl, rfl⟩; simp only [hn']) | (go_at_call 42; refine (signbit_ok b hb _).mono ?_; rintro e w' ⟨rfl, rfl⟩; simp only [hs, decide_false]))
      go_ret
      refine ⟨congrArg (fun x => Ending.returned (Value.int .u64 x)) ?_, rfl⟩
      rw [ixor_top b hb]
      unfold codeN
      rw [if_neg hn, if_pos (by omega), if_pos (by omega)]
      omega

/-- How two codes stand. -/
def cmp3 (p q : Nat) : Int := if p < q then -1 else if q < p then 1 else 0

theorem compare_ok (p q : Nat) (w : World) : Calls Tryd.prog 31 #[.int .u64 p, .int .u64 q] w fun e w' => e = .returned (.int .i64 (cmp3 p q)) ∧ w' = w := by
  rcases Nat.lt_trichotomy p q with h | h | h
  · have h1 : ((p : Int) < q) = True := by simp; omega
    go_enter Tryd.func31, Tryd.ntmps31
    go_wp2
    go_ret
    exact ⟨by unfold cmp3; rw [if_pos h]; rfl, rfl⟩
  · subst h
    go_enter Tryd.func31, Tryd.ntmps31
    go_wp2
    go_ret
    exact ⟨by unfold cmp3; rw [if_neg (by omega), if_neg (by omega)]; rfl, rfl⟩
  · have h1 : ((p : Int) < q) = False := by simp; omega
    have h2 : ((q : Int) < p) = True := by simp; omega
    go_enter Tryd.func31, Tryd.ntmps31
    go_wp2
    go_ret
    exact ⟨by unfold cmp3; rw [if_neg (by omega), if_pos h]; rfl, rfl⟩

set_option maxRecDepth 100000 in
theorem cmp_ok (a b : Nat) (ha : a < 18446744073709551616) (hb : b < 18446744073709551616) (w : World) : Calls Tryd.prog 17 #[.float .f64 a, .float .f64 b] w fun e w' => e = .returned (.int .i64 (cmp3 (codeN a) (codeN b))) ∧ w' = w := by
  go_enter Tryd.func17, Tryd.ntmps17
  go_wp2_with (first | (go_at_call 31; refine (compare_ok _ _ _).mono ?_; rintro e w' ⟨rfl, rfl⟩) | (go_at_call 30; refine (code_ok _ (by first | exact ha | exact hb) _).mono ?_; rintro e w' ⟨rfl, rfl⟩))
  go_ret
  exact ⟨rfl, rfl⟩

theorem same_ok (a b : Nat) (ha : a < 18446744073709551616) (hb : b < 18446744073709551616) (w : World) : Calls Tryd.prog 13 #[.float .f64 a, .float .f64 b] w fun e w' => e = .returned (.bool (cmp3 (codeN a) (codeN b) == 0)) ∧ w' = w := by
  go_enter Tryd.func13, Tryd.ntmps13
  go_wp2_with (go_at_call 17; refine (cmp_ok a b ha hb _).mono ?_; rintro e w' ⟨rfl, rfl⟩)
  go_ret
  exact ⟨rfl, rfl⟩

theorem nan_ok (w : World) : Calls Tryd.prog 37 #[] w fun e w' => e = .returned (.float .f64 9221120237041090561) ∧ w' = w := by
  have hf := from_run
  go_enter Tryd.func37, Tryd.ntmps37
  go_wp2
  go_ret
  exact ⟨rfl, rfl⟩
end Go.Proofs.YtnfpccmnifhflaaDoor
