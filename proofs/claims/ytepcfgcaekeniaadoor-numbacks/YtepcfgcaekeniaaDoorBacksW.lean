/- NumBacks walked. -/
import Derived.Test.YtepcfgcaekeniaaDoorRefC
namespace Go.Proofs.YtepcfgcaekeniaaDoor
open Go.RowKit

theorem code_back (c : Nat) (hc : c < 18446744073709551616) (h : nanB (backB c) = false) : codeN (backB c) = c := by
  unfold codeN
  rw [if_neg (by rw [h]; decide)]
  unfold backB
  by_cases k : c < 9223372036854775808
  · rw [if_pos k, if_neg (by omega)]; omega
  · rw [if_neg k, if_pos (by omega)]; omega

set_option maxRecDepth 100000 in
set_option maxHeartbeats 1000000 in
theorem backs_ok (c : Nat) (hc : c < 18446744073709551616) (w : World) (ht : Tab w) : Calls Tryd.prog 8 #[.int .u64 c] w fun e w' => e = .returned (.bool true) ∧ Below w.heap.size w w' := by
  have hbit := bits_run
  have hl := backB_lt c hc
  have hR := refBack_ok c hc
  have hB := back_ok c hc
  have e1 : nanB (backB c) = true → backN c = 9221120237041090561 := fun hn => by unfold backN; rw [if_pos hn]
  have e2 : nanB (backB c) = false → backN c = backB c := fun hn => by unfold backN; rw [if_neg (by rw [hn]; decide)]
  have e3 := code_back c hc
  generalize backB c = x at *
  generalize backN c = y at *
  cases hn : nanB x with
  | true =>
    obtain rfl := e1 hn
    clear e1 e2 e3
    have h1 : (FloatKind.f64.format.order 9221120237041090561 9221120237041090561 != some Ordering.eq) = true := by decide +kernel
    go_enter Tryd.func8, Tryd.ntmps8
    go_wp2_with (first | (go_at_call 29; refine (hR _).mono ?_; rintro e w' ⟨rfl, rfl⟩) | (go_at_call 16; refine (hB _).mono ?_; rintro e w' ⟨rfl, rfl⟩) | (go_at_call 14; refine (awake_ok _ (by assumption)).mono ?_; rintro e w2 ⟨rfl, hb2⟩))
    go_ret
    exact ⟨rfl, hb2⟩
  | false =>
    obtain rfl := e2 hn
    have e4 := e3 hn
    clear e1 e2 e3
    have hC := code_ok y hl
    rw [e4] at hC
    clear e4
    go_enter Tryd.func8, Tryd.ntmps8
    go_wp2_with (first | (go_at_call 29; refine (hR _).mono ?_; rintro e w' ⟨rfl, rfl⟩) | (go_at_call 16; refine (hB _).mono ?_; rintro e w' ⟨rfl, rfl⟩) | (go_at_call 11; refine (hC _).mono ?_; rintro e w' ⟨rfl, rfl⟩) | (go_at_call 14; refine (awake_ok _ (by assumption)).mono ?_; rintro e w2 ⟨rfl, hb2⟩))
    go_ret
    exact ⟨rfl, hb2⟩
end Go.Proofs.YtepcfgcaekeniaaDoor
