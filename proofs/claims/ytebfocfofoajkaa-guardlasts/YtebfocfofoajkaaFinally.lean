/- Finally: two function values, the second one however the first one ended. -/
import Derived.Test.YtebfocfofoajkaaOnly2
namespace Go.Proofs.Ytebfocfofoajkaa
open Go.RowKit

set_option maxHeartbeats 400000 in
theorem callD_nil (u : FrameMode) (w : World) : CallsD Try.prog 34 #[.nilFunc] u w fun e u' w' => u' = u ∧ (e = .returned (.tuple #[]) ∧ w' = w) := by
  have h1 := nn_nil
  go_enter_d Try.func34, Try.ntmps34
  go_wp2
  go_end0
  exact ⟨rfl, rfl⟩

set_option maxHeartbeats 400000 in
theorem callD_some {g : Nat} (hg : Enters g) {first cap : Array Value} (u : FrameMode) {w : World} {R : How → World → Prop} (hf : Calls Try.prog g (first ++ cap) w fun e w' => ∃ h, h.ended e ∧ R h w') :
    CallsD Try.prog 34 #[.func (.func g) first cap] u w fun e u' w' => u' = u ∧ ∃ h, h.ended e ∧ R h w' := by
  have HF := hide hf; clear hf
  have h1 := nn_some
  unfold Enters at hg
  go_enter_d Try.func34, Try.ntmps34
  go_wp2_with fail
  refine (unhide HF).mono ?_
  rintro e w1 ⟨h, he, hR⟩
  have HR := hide hR; clear hR HF
  cases h using How.byCases with
  | well =>
    cases he
    go_wp2
    go_end0
    exact ⟨.well, rfl, unhide HR⟩
  | bad t x =>
    obtain ⟨older, ho, rfl⟩ := he
    exact ⟨rfl, .bad t x, ⟨older, ho, rfl⟩, unhide HR⟩

theorem callD_runs {f : Value} (u : FrameMode) {w : World} {R : How → World → Prop} (h : Runs f w R) : CallsD Try.prog 34 #[f] u w fun e u' w' => u' = u ∧ ∃ h, h.ended e ∧ R h w' := by
  rcases h with ⟨rfl, h⟩ | ⟨g, first, cap, rfl, he, h⟩
  · exact (callD_nil u w).mono fun e u' w' ⟨h0, h1, h2⟩ => ⟨h0, .well, h1, h2 ▸ h⟩
  · exact callD_some he u h

/-- What goes on of two ends: the second one's panic takes the first one's place. -/
def How.behind (h1 h2 : How) : How :=
  match h2.o with
  | none => h1
  | some (t, x) => .bad t x

set_option maxHeartbeats 800000 in
theorem finally_raw {f g : Value} {w : World} {R1 : How → World → Prop} {R2 : How → How → World → Prop} (hf : Runs f w R1) (hg : ∀ h w1, R1 h w1 → Runs g w1 (R2 h)) :
    Calls Try.prog 15 #[f, g] w fun e w' => ∃ h1 h2 : How, (h1.behind h2).ended e ∧ R2 h1 h2 w' := by
  have K := hide (call_runs hf); have G := hide hg
  clear hf hg
  go_enter_defers Try.func15, Try.ntmps15
  go_wp2_with fail
  refine (unhide K).mono ?_
  rintro e w1 ⟨h1, he, hR⟩
  have D : ∀ u, CallsD Try.prog 34 #[g] u w1 fun e u' w' => u' = u ∧ ∃ h, h.ended e ∧ R2 h1 h w' := fun u => callD_runs u (unhide G _ _ hR)
  have HD := hide D
  clear K G hR D
  cases h1 using How.byCases with
  | well =>
    cases he
    go_wp2
    refine leaves_cons (f := 34) (args := #[g]) (by simp) (by simp [go_sem]) ?_
    refine (unhide HD .returning).mono ?_
    rintro e u' w' ⟨rfl, h2, he, hR⟩
    cases h2 using How.byCases with
    | well =>
      cases he
      exact ⟨.tuple #[], results_none rfl _ _ _, .well, .well, rfl, hR⟩
    | bad t x =>
      obtain ⟨older, ho, rfl⟩ := he
      exact ⟨.well, .bad t x, ⟨older, ho, rfl⟩, hR⟩
  | bad t x =>
    obtain ⟨older, ho, rfl⟩ := he
    go_wp2
    refine leaves_cons (f := 34) (args := #[g]) (by simp) (by simp [go_sem]) ?_
    refine (unhide HD _).mono ?_
    rintro e u' w' ⟨rfl, h2, he, hR⟩
    cases h2 using How.byCases with
    | well =>
      cases he
      exact ⟨.bad t x, .well, ⟨older, ho, rfl⟩, hR⟩
    | bad t2 x2 =>
      obtain ⟨older2, ho2, rfl⟩ := he
      refine ⟨.bad t x, .bad t2 x2, ⟨older2 ++ { v := .iface t x, recovered := false } :: older, ?_, rfl⟩, hR⟩
      intro y hy
      rcases List.mem_append.1 hy with hy | hy
      · exact ho2 y hy
      · rcases List.mem_cons.1 hy with rfl | hy
        · rfl
        · exact ho y hy
end Go.Proofs.Ytebfocfofoajkaa
