/- The guards: call, Try, Only, Errno, each said of whatever function value it is handed. -/
import Derived.Test.YtebfocfofoajkaaBase
namespace Go.Proofs.Ytebfocfofoajkaa
open Go.RowKit

theorem mf (fn : Fn) (first cap : Array Value) (w : World) : (Instr.makeFunc fn first cap).run Try.prog w = .ok (.func fn first cap) w := rfl
theorem nn_some (fn : Fn) (first cap : Array Value) (w : World) : (binOp .neq 1 (.func fn first cap) .nilFunc).run Try.prog w = .ok (.bool true) w := by kernel_rfl
theorem nn_nil (w : World) : (binOp .neq 1 .nilFunc .nilFunc).run Try.prog w = .ok (.bool false) w := by kernel_rfl

set_option maxHeartbeats 400000 in
theorem call_nil (w : World) : Calls Try.prog 34 #[.nilFunc] w fun e w' => e = .returned (.tuple #[]) ∧ w' = w := by
  have h1 := nn_nil
  go_enter Try.func34, Try.ntmps34
  go_wp2
  go_end0
  exact ⟨rfl, rfl⟩

set_option maxHeartbeats 400000 in
theorem call_some {g : Nat} (hg : Enters g) {first cap : Array Value} {w : World} {R : How → World → Prop} (hf : Calls Try.prog g (first ++ cap) w fun e w' => ∃ h, h.ended e ∧ R h w') :
    Calls Try.prog 34 #[.func (.func g) first cap] w fun e w' => ∃ h, h.ended e ∧ R h w' := by
  have HF := hide hf; clear hf
  have h1 := nn_some
  unfold Enters at hg
  go_enter Try.func34, Try.ntmps34
  go_wp2_with fail
  refine (unhide HF).mono ?_
  rintro e w1 ⟨h, he, hR⟩
  have HR := hide hR; clear hR HF
  cases h using How.byCases with
  | well =>
    cases he
    go_wp2
    go_end0
    exact ⟨.well, rfl, unhide HR⟩
  | bad t x =>
    obtain ⟨older, ho, rfl⟩ := he
    exact ⟨rfl, .bad t x, ⟨older, ho, rfl⟩, unhide HR⟩

theorem call_runs {f : Value} {w : World} {R : How → World → Prop} (h : Runs f w R) : Calls Try.prog 34 #[f] w fun e w' => ∃ h, h.ended e ∧ R h w' := by
  rcases h with ⟨rfl, h⟩ | ⟨g, first, cap, rfl, he, h⟩
  · exact (call_nil w).mono fun e w' ⟨h1, h2⟩ => ⟨.well, h1, h2 ▸ h⟩
  · exact call_some he h
end Go.Proofs.Ytebfocfofoajkaa
