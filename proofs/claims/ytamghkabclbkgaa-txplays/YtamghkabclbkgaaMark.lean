/- mark: the one word that decides. -/
import Derived.Test.YtamghkabclbkgaaDm
import Derived.BigQuiet
namespace Go.Proofs.Ytamghkabclbkgaa
open Go.RowKit

section
variable {w0 w : World} {b : Nat} {L0 L : Lay} {N : Nat} {free : Prop} {A : Ab} {s : Int} {f : Nat → Int} {lg at_ ws : Nat}

set_option maxHeartbeats 1000000 in
theorem mark_ok (o : On w0 b L0 w L A) (hl : LogAt w0 lg b at_ ws) (hlg : ¬ foot b L0 lg) (h : Calm N free A s f) (hs : s + 3 < 4294967296) (hat : at_ < N * 8) (m : Int) :
    Calls Try.prog 63 #[ptr lg, u64 m] w (Ends w0 b L0 (fun A' => Calm N free A' (s + 3) (upd f at_ m)) (fun A' => ¬ free ∧ ∃ g, (g = f ∨ g = upd f at_ m) ∧ Torn N A' (s + 3) f g)) := by
  have c0 := (o.log hl hlg).c0
  have c1 := (o.log hl hlg).c1
  have HO := hide o; have HL := hide hl; have HG := hide hlg; have HC := hide h
  clear o hl hlg h
  go_enter Try.func63, Try.ntmps63
  go_wp2_with fail
  refine region_tailP 9 (by kernel_rfl) (by kernel_rfl) ?_
  simp only [List.take_succ_cons, List.take_zero, List.drop_succ_cons, List.drop_zero]
  repeat (go_big_quiet_step (fail))
  refine wpQuiet_nil ?_
  rintro _ ⟨nq, rfl⟩
  go_wp2_with fail
  refine (o_store ((unhide HO).drewN nq) (unhide HC) (by omega) _ at_ rfl hat m).mono ?_
  rintro e w1 (⟨rfl, D⟩ | ⟨rfl, D⟩)
  rotate_left
  · exact ⟨rfl, .inr ⟨rfl, D.mono fun A' t => ⟨t.1, f, .inl rfl, t.2.more (by omega)⟩⟩⟩
  obtain ⟨L1, A1, o1, h1⟩ := D.on
  have c0 := (o1.log (unhide HL) (unhide HG)).c0
  have c1 := (o1.log (unhide HL) (unhide HG)).c1
  have H1 := hide o1; have K1 := hide h1
  clear o1 h1 D HO HC
  go_wp2_with fail
  refine region_tailP 8 (by kernel_rfl) (by kernel_rfl) ?_
  simp only [List.take_succ_cons, List.take_zero, List.drop_succ_cons, List.drop_zero]
  repeat (go_big_quiet_step (fail))
  refine wpQuiet_nil ?_
  rintro _ ⟨nq2, rfl⟩
  go_wp2_with fail
  refine (o_flush ((unhide H1).drewN nq2) (unhide K1) (by omega) _ at_ rfl hat).mono ?_
  rintro e w2 (⟨rfl, D⟩ | ⟨rfl, D⟩)
  rotate_left
  · exact ⟨rfl, .inr ⟨rfl, D.mono fun A' t => ⟨t.1, _, .inr rfl, t.2.more (by omega)⟩⟩⟩
  obtain ⟨L2, A2, o2, h2⟩ := D.on
  have c0 := (o2.log (unhide HL) (unhide HG)).c0
  have H2 := hide o2; have K2 := hide h2
  clear o2 h2 D H1 K1
  go_wp2_with fail
  refine (o_fence (unhide H2) (unhide K2) (by omega) ?_).mono ?_
  · intro j hj
    by_cases e : j = at_
    · subst e; simp
    · exact absurd (upd_other _ _ e) hj
  rintro e w3 (⟨rfl, D⟩ | ⟨rfl, D⟩)
  rotate_left
  · exact ⟨rfl, .inr ⟨rfl, D.mono fun A' t => ⟨t.1, _, .inr rfl, t.2.more (by omega)⟩⟩⟩
  have DD := hide D
  clear D H2 K2
  go_wp2
  go_end0
  exact .inl ⟨rfl, (unhide DD).mono fun A' t => t.more (by omega)⟩
end
end Go.Proofs.Ytamghkabclbkgaa
