/- NumSums walked. -/
import Derived.Test.YtepcfgcaekeniaaDoorSumF
import Derived.Test.YtepcfgcaekeniaaDoorAwake
namespace Go.Proofs.YtepcfgcaekeniaaDoor
open Go.RowKit

/-- What Add tells: the sum's bits (nought where there is none) and the error's number. -/
def addV (o : Option Nat) : Nat := o.getD 0
def addE (o : Option Nat) : Int := if o.isSome then 0 else 6
theorem add_any (x y : Nat) (w : World) : Calls Tryd.prog 20 #[.float .f64 x, .float .f64 y] w fun e w' => e = .returned (.tuple #[.float .f64 (addV (sumB x y)), .int .i64 (addE (sumB x y))]) ∧ ∃ n, w' = w.drewN n := by
  cases h : sumB x y with
  | none => exact (add_none x y h w).mono fun e w' ⟨h1, h2⟩ => ⟨h1, 1, h2⟩
  | some r => exact (add_some x y r h w).mono fun e w' ⟨h1, h2⟩ => ⟨h1, 0, h2⟩

theorem tab_drewN {w : World} (h : Tab w) (n : Nat) : Tab (w.drewN n) := h
theorem below_drewN (w : World) (n : Nat) : Below w.heap.size w (w.drewN n) := ⟨rfl, rfl, rfl, Nat.le_refl _, fun _ _ => rfl⟩

set_option maxRecDepth 100000 in
set_option maxHeartbeats 1000000 in
theorem sums_ok (a b : Nat) (ha : a < 18446744073709551616) (w : World) (ht : Tab w) : Calls Tryd.prog 5 #[.int .u64 a, .int .u64 b] w fun e w' => e = .returned (.bool true) ∧ Below w.heap.size w w' := by
  have hf := from_run
  have hbit := bits_run
  have hneg := neg_run a ha
  have hs := ord_self a ha
  have fV : addV (sumB b a) = addV (sumB a b) := by rw [sumB_comm]
  have fE : addE (sumB b a) = addE (sumB a b) := by rw [sumB_comm]
  have hI := isInf_any a ha
  cases hn : nanB a with
  | true =>
    rw [hn] at hs
    have g1 : addE (sumB a b) = 6 := by rw [add_nan a b hn]; rfl
    have g2 : addE (sumB a 0) = 6 := by rw [add_nan a 0 hn]; rfl
    have g3 : addE (sumB a (negB a)) = 6 := by rw [add_nan a _ hn]; rfl
    go_enter Tryd.func5, Tryd.ntmps5
    go_wp2_with (first | (go_at_call 20; refine (add_any _ _ _).mono ?_; rintro e w' ⟨rfl, n, rfl⟩) | (go_at_call 14; refine (awake_ok _ (tab_drewN ht _)).mono ?_; rintro e w2 ⟨rfl, hb2⟩))
    go_ret
    exact ⟨rfl, below_step (below_drewN w _) hb2⟩
  | false =>
    rw [hn] at hs
    have hz := add_zero a ha hn
    have g2 : addE (sumB a 0) = 0 := by rw [hz]; rfl
    have hx : addV (sumB a 0) = a ∨ a = 9223372036854775808 := by
      by_cases k : a = 9223372036854775808
      · exact .inr k
      · left
        rw [hz, if_neg k]; rfl
    clear hz
    have hy : (decide (a % 9223372036854775808 = 9218868437227405312) = true ∧ addE (sumB a (negB a)) = 6) ∨ (decide (a % 9223372036854775808 = 9218868437227405312) = false ∧ addE (sumB a (negB a)) = 0 ∧ addV (sumB a (negB a)) = 0) := by
      by_cases k : a % 9223372036854775808 = 9218868437227405312
      · exact .inl ⟨decide_eq_true k, by rw [add_neg_inf a ha k]; rfl⟩
      · have k2 : a % 9223372036854775808 < 9218868437227405312 := by
          simp only [nanB, decide_eq_false_iff_not, Nat.not_lt] at hn
          omega
        exact .inr ⟨decide_eq_false k, by rw [add_neg a ha k2]; rfl, by rw [add_neg a ha k2]; rfl⟩
    rcases hx with x1 | x1
    · rcases hy with ⟨y1, y2⟩ | ⟨y1, y2, y3⟩
      · rw [y1] at hI
        clear y1
        go_enter Tryd.func5, Tryd.ntmps5
        go_wp2_with (first | (go_at_call 20; refine (add_any _ _ _).mono ?_; rintro e w' ⟨rfl, n, rfl⟩) | (go_at_call 15; refine (hI _).mono ?_; rintro e w' ⟨rfl, rfl⟩) | (go_at_call 14; refine (awake_ok _ (tab_drewN ht _)).mono ?_; rintro e w2 ⟨rfl, hb2⟩))
        go_ret
        exact ⟨rfl, below_step (below_drewN w _) hb2⟩
      · rw [y1] at hI
        clear y1
        go_enter Tryd.func5, Tryd.ntmps5
        go_wp2_with (first | (go_at_call 20; refine (add_any _ _ _).mono ?_; rintro e w' ⟨rfl, n, rfl⟩) | (go_at_call 15; refine (hI _).mono ?_; rintro e w' ⟨rfl, rfl⟩) | (go_at_call 14; refine (awake_ok _ (tab_drewN ht _)).mono ?_; rintro e w2 ⟨rfl, hb2⟩))
        go_ret
        exact ⟨rfl, below_step (below_drewN w _) hb2⟩
    · subst x1
      have y4 : addE (sumB 9223372036854775808 (negB 9223372036854775808)) = 0 := by decide +kernel
      have y5 : addV (sumB 9223372036854775808 (negB 9223372036854775808)) = 0 := by decide +kernel
      have y6 : addV (sumB 9223372036854775808 0) = 0 := by decide +kernel
      have y7 : (FloatKind.f64.format.order 9223372036854775808 0 != some Ordering.eq) = false := by decide +kernel
      rw [show decide (9223372036854775808 % 9223372036854775808 = 9218868437227405312) = false by decide] at hI
      clear hy
      go_enter Tryd.func5, Tryd.ntmps5
      go_wp2_with (first | (go_at_call 20; refine (add_any _ _ _).mono ?_; rintro e w' ⟨rfl, n, rfl⟩) | (go_at_call 15; refine (hI _).mono ?_; rintro e w' ⟨rfl, rfl⟩) | (go_at_call 14; refine (awake_ok _ (tab_drewN ht _)).mono ?_; rintro e w2 ⟨rfl, hb2⟩))
      go_ret
      exact ⟨rfl, below_step (below_drewN w _) hb2⟩
end Go.Proofs.YtepcfgcaekeniaaDoor
