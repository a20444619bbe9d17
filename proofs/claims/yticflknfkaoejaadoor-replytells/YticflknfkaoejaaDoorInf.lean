/- math's IsInf and Trunc; a number with its sign turned. -/
import Derived.Test.YticflknfkaoejaaDoorHex
namespace Go.Proofs.YticflknfkaoejaaDoor
open Go.RowKit

/-- The sign turned. -/
def negB (b : Nat) : Nat := if b < 9223372036854775808 then b + 9223372036854775808 else b - 9223372036854775808
theorem negB_lt (b : Nat) (h : b < 18446744073709551616) : negB b < 18446744073709551616 := by unfold negB; split <;> omega
theorem neg_run (b : Nat) (h : b < 18446744073709551616) (w : World) : (Op.unary .neg (.float .f64 b)).run Tryd.prog w = .ok (.float .f64 (negB b)) w := by
  have e : negB b = b ^^^ 9223372036854775808 := by
    unfold negB
    split
    · rename_i h1; rw [xor_top_lo b h1]
    · rename_i h1; rw [xor_top_hi b (by omega) h]
  rw [e]; rfl

theorem gt_max (c : Nat) (hc : c < 18446744073709551616) : (FloatKind.f64.format.order c 9218868437227405311 == some Ordering.gt) = decide (c = 9218868437227405312) := by
  by_cases hn : nanB c = true
  · rw [show FloatKind.f64.format.order c 9218868437227405311 = none from ord_nan_l c _ hn]
    have : c ≠ 9218868437227405312 := by rintro rfl; exact absurd hn (by decide)
    rw [decide_eq_false this]; rfl
  · have hn' : nanB c = false := by simpa using hn
    rw [show FloatKind.f64.format.order c 9218868437227405311 = _ from ord_eq c _ hc (by decide) hn' (by decide)]
    have hv : val 9218868437227405311 = (sz 9218868437227405311 : Int) := rfl
    by_cases h : c = 9218868437227405312
    · subst h
      have h1 := sz_lt (show 9218868437227405311 < 9218868437227405312 by decide)
      have hw : val 9218868437227405312 = (sz 9218868437227405312 : Int) := rfl
      unfold cmpI
      rw [hv, hw, if_neg (by omega), if_neg (by omega)]; rfl
    · rw [decide_eq_false h]
      have hle : val c ≤ val 9218868437227405311 := by
        rw [hv]
        unfold val
        split
        · have : c % 9223372036854775808 ≤ 9218868437227405311 := by
            simp only [nanB, decide_eq_false_iff_not, Nat.not_lt] at hn'
            omega
          rcases Nat.lt_or_eq_of_le this with h1 | h1
          · have := sz_lt h1; omega
          · rw [h1]; exact Int.le_refl _
        · omega
      unfold cmpI
      by_cases h1 : val c < val 9218868437227405311
      · rw [if_pos h1]; rfl
      · rw [if_neg h1, if_pos (by omega)]; rfl

theorem isInf_up (b : Nat) (hb : b < 18446744073709551616) (w : World) : Calls Tryd.prog 51 #[.float .f64 b, .int .i64 1] w fun e w' => e = .returned (.bool (decide (b = 9218868437227405312))) ∧ w' = w := by
  go_enter Tryd.func51, Tryd.ntmps51
  go_wp2
  go_ret
  exact ⟨congrArg (fun x => Ending.returned (Value.bool x)) (gt_max b hb), rfl⟩
theorem isInf_down (b : Nat) (hb : b < 18446744073709551616) (w : World) : Calls Tryd.prog 51 #[.float .f64 b, .int .i64 (-1)] w fun e w' => e = .returned (.bool (decide (b = 18442240474082181120))) ∧ w' = w := by
  have hneg := neg_run b hb
  go_enter Tryd.func51, Tryd.ntmps51
  go_wp2
  go_ret
  refine ⟨congrArg (fun x => Ending.returned (Value.bool x)) ((gt_max (negB b) (negB_lt b hb)).trans ?_), rfl⟩
  exact decide_eq_decide.2 (by unfold negB; split <;> omega)
/-- The infinity of a sign. -/
def infS (s : Int) (b : Nat) : Bool := if s = 1 then decide (b = 9218868437227405312) else decide (b = 18442240474082181120)
theorem isInf_s (b : Nat) (hb : b < 18446744073709551616) (s : Int) (hs : s = 1 ∨ s = -1) (w : World) : Calls Tryd.prog 51 #[.float .f64 b, .int .i64 s] w fun e w' => e = .returned (.bool (infS s b)) ∧ w' = w := by
  rcases hs with rfl | rfl
  · exact isInf_up b hb w
  · exact isInf_down b hb w
theorem isInf_any (b : Nat) (hb : b < 18446744073709551616) (w : World) : Calls Tryd.prog 51 #[.float .f64 b, .int .i64 0] w fun e w' => e = .returned (.bool (decide (b % 9223372036854775808 = 9218868437227405312))) ∧ w' = w := by
  go_enter Tryd.func51, Tryd.ntmps51
  go_wp2_with (go_at_call 60; refine (abs_ok b hb _).mono ?_; rintro e w' ⟨rfl, rfl⟩)
  go_ret
  exact ⟨congrArg (fun x => Ending.returned (Value.bool x)) (gt_max (b % 9223372036854775808) (by omega)), rfl⟩

theorem trunc_run (b : Nat) (hn : nanB b = false) (w : World) : (callFunc 71 #[.float .f64 b]).run Tryd.prog w = .ok (.value (.float .f64 (FloatKind.f64.encode ((FloatKind.f64.decode b).integral .zero)))) w := by
  rw [run_callFunc_extern Tryd.func71 (by kernel_rfl) (by kernel_rfl) (by kernel_rfl) (e := Extern.MathFloor.toIntegral "math.archTrunc" .zero) (by kernel_rfl)]
  have hd : ∀ s t, FloatKind.f64.decode b ≠ .nan s t := by
    intro s t h
    have h' : Ieee.double.read b = .nan s t := h
    simp only [nanB, decide_eq_false_iff_not, Nat.not_lt] at hn
    rcases Nat.lt_or_eq_of_le hn with h1 | h1
    · obtain ⟨m, p, e, _⟩ := read_num b h1
      rw [e] at h'; cases h'
    · rw [read_inf b h1] at h'; cases h'
  conv in (Extern.MathFloor.toIntegral _ _ _) => whnf
  revert hd
  generalize FloatKind.f64.decode b = d
  intro hd
  cases d with
  | nan s t => exact absurd rfl (hd s t)
  | number s m e => rfl
  | infinity s => rfl

theorem trunc_ok (b c : Nat) (hn : nanB b = false) (hc : FloatKind.f64.encode ((FloatKind.f64.decode b).integral .zero) = c) (w : World) : Calls Tryd.prog 61 #[.float .f64 b] w fun e w' => e = .returned (.float .f64 c) ∧ w' = w := by
  have ht := trunc_run b hn
  rw [hc] at ht
  go_enter Tryd.func61, Tryd.ntmps61
  go_wp2
  go_ret
  exact ⟨rfl, rfl⟩
end Go.Proofs.YticflknfkaoejaaDoor
