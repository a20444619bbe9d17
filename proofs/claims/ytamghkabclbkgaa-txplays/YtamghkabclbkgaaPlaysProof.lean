/- For every script of changes, TxPlays returns true; no condition. -/
import Derived.Test.YtamghkabclbkgaaRows
import Derived.WalkKit
import Derived.ProofKit
import Derived.OpenShut
import Derived.ShutString
import Derived.ChangeOld
import Derived.Below
import Derived.SizedLaws
import Derived.Test.YtamghkabclbkgaaFin
import Derived.Test.YtamghkabclbkgaaPlaysW
namespace Go.Proofs.Ytamghkabclbkgaa.txPlays
open Go.ChangeShapes Go.WideShapes Go.ChangeAt Go.RowKit
set_option linter.unusedVariables false

theorem own : ownKnob Try.prog.godebug = none := by kernel_rfl
theorem laidOut : laidOutB Try.prog = true := by kernel_rfl

set_option maxRecDepth 100000 in
theorem lifted (os : Os) (started : os.Started) (H : Type) (enc : TypeId × Value → H) :
    ReturnsInHanded {} Try.checked os 6 .any (Rows.txPlaysSpec.pre6 enc Try.prog Try.f6 Rows.txPlaysRow.domain false) (Rows.txPlaysSpec.post enc Try.prog Try.f6 false true false false) := by
  refine returnsInHanded_of_change_sized (C := Try.checked) own started (by kernel_rfl) Try.func6
    (ChangeSpec.witness6 (enc := enc) (C := Try.checked) false ⟨#[], #[.slice none 0 0], []⟩ 8 (by kernel_rfl) (by kernel_rfl) (by kernel_rfl) (by kernel_rfl)) ?_
  intro W base args ds gs before hval0 hW hcnd hsz _
  have hval : ∀ (j : Nat) t v, Try.f6.params[j]? = some t → args[j]? = some v → Value.okWide Try.prog W .any base t v := hval0
  have hW' := hW
  obtain ⟨p, q, hA0, hV, rfl, hfz, hnd⟩ := hW
  have hA : DataW.TrodAll enc Try.prog W 0 (fun _ => true) true Try.f6.params.toList args.toList ds p := hA0
  rw [Try.params6] at hA hval
  obtain ⟨v0, vs0, d0, ds0, p0, q0, hargs, rfl, rfl, h0, r0⟩ := trodAll_cons hA
  obtain ⟨rfl, rfl, rfl⟩ := trodAll_nil r0
  obtain rfl : args = #[v0] := by cases args; simp_all
  obtain ⟨rfl, rfl⟩ := trodVars_none hV
  obtain ⟨a0, len0, cap0, rfl⟩ := okWide_slice Try.underlying22 (hval 0 22 v0 rfl rfl)
  have k0 := h0
  have lt0 : ∀ x ∈ p0, x.block < W.heap.size := by obtain ⟨m, hm⟩ := k0; exact DataW.trod_lt m _ _ _ hm
  obtain ⟨fu0, hf0⟩ := h0
  simp only [Value.cells] at hf0
  obtain ⟨zs0, t0⟩ := in_ops hf0
  clear hA0 hval0
  have hb0 : len0 * 24 ≤ 140737488351232 := by
    rcases t0.2.2 with ⟨e, _⟩ | ⟨es, sp, e, el⟩
    · rw [e]; omega
    · have e' : d0 = .slice es sp := e
      have h1 := sized_slice hsz (j := 0) (t := 22) (e := 31) (elems := es) (spare := sp) (by rw [Try.params6]; rfl) (by rw [e']; rfl) Try.underlying22
      have h2 : Try.checked.prog.bytesOf 31 = 24 := by kernel_rfl
      have h3 : reachBytes = 140737488351232 := by decide
      rw [h2, h3, el] at h1
      omega
  refine (plays_ok a0 len0 cap0 W zs0 t0.1 hb0).mono fun e W' ⟨he, bel⟩ => ?_
  subst he
  exact ⟨_, rfl, _, _, _, [], _, [], hW', trodAll_mk1 (shut_bool Try.underlying4 _), (trodAll_cons_mk (Below.trod laidOut (by kernel_rfl) (of_decide_eq_true (by kernel_rfl)) k0 bel lt0) trodAll_mk0), rfl, bel.frame _, fun h => by cases h⟩

theorem over : Rows.txPlaysRow.holds Try.pinned (OpenSpec.ofChange Rows.txPlaysSpec) :=
  OpenClaim.holds_of_wide 6 Try.f6 rfl rfl rfl rfl rfl rfl rfl ⟨rfl, rfl, rfl, rfl, rfl⟩ rfl rfl rfl rfl rfl (by kernel_rfl) Try.func6 (by kernel_rfl)
    (of_decide_eq_true (by kernel_rfl)) (by unfold Func.isWrapper; first | (rw [if_pos (by decide +kernel)]; kernel_rfl) | (rw [if_neg (by decide +kernel)]; exact ⟨rfl, rfl⟩))
    (fun os started H enc _ => lifted os started H enc)

theorem proved : Rows.TxPlaysSaid := over
end Go.Proofs.Ytamghkabclbkgaa.txPlays

namespace Go.Proofs.Ytamghkabclbkgaa
/-- The given statement. -/
theorem txPlays_holds : Rows.TxPlaysSaid := txPlays.proved
#print axioms txPlays_holds
end Go.Proofs.Ytamghkabclbkgaa
