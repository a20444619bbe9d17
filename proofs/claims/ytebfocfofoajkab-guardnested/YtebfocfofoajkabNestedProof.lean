/- GuardNested answers true at every two acts, whatever their kinds, numbers and texts, and leaves them as they were; no condition. -/
import Derived.Test.YtebfocfofoajkabRows
import Derived.WalkKit
import Derived.ProofKit
import Derived.OpenShut
import Derived.ChangeOld
import Derived.Below
import Derived.Lib.SmallJoins
import Derived.Test.YtebfocfofoajkabNestedW
namespace Go.Proofs.Ytebfocfofoajkab.guardNested
open Go.ChangeShapes Go.WideShapes Go.ChangeAt Go.RowKit Go.Joins
set_option linter.unusedVariables false

theorem own : ownKnob Try.prog.godebug = none := by kernel_rfl
theorem cellsA : Try.prog.cellsOf 25 = 3 := by kernel_rfl

set_option maxRecDepth 100000 in
theorem lifted (os : Os) (started : os.Started) (H : Type) (enc : TypeId × Value → H) :
    ReturnsInHanded {} Try.checked os 5 .any (Rows.guardNestedSpec.pre6 enc Try.prog Try.f5 Rows.guardNestedRow.domain false) (Rows.guardNestedSpec.post enc Try.prog Try.f5 false true false false) := by
  refine returnsInHanded_of_change (C := Try.checked) own started (by kernel_rfl) Try.func5
    (ChangeSpec.witness6 (enc := enc) (C := Try.checked) false ⟨#[], #[.agg #[.int .i64 0, .int .i64 0, .string ByteArray.empty], .agg #[.int .i64 0, .int .i64 0, .string ByteArray.empty]], []⟩ 8 (by kernel_rfl) (by kernel_rfl) (by kernel_rfl) (by kernel_rfl)) ?_
  intro W base args ds gs before hval0 hW hcnd _
  have hval : ∀ (j : Nat) t v, Try.f5.params[j]? = some t → args[j]? = some v → Value.okWide Try.prog W .any base t v := hval0
  have hW' := hW
  obtain ⟨p, q, hA0, hV, rfl, hfz, hnd⟩ := hW
  have hA : DataW.TrodAll enc Try.prog W 0 (fun _ => true) true Try.f5.params.toList args.toList ds p := hA0
  rw [Try.params5] at hA hval
  obtain ⟨v0, vs0, d0, ds0, p0, q0, hargs, rfl, rfl, h0, r0⟩ := trodAll_cons hA
  obtain ⟨v1, vs1, d1, ds1, p1, q1, rfl, rfl, rfl, h1, r1⟩ := trodAll_cons r0
  obtain ⟨rfl, rfl, rfl⟩ := trodAll_nil r1
  obtain rfl : args = #[v0, v1] := by cases args; simp_all
  obtain ⟨rfl, rfl⟩ := trodVars_none hV
  obtain ⟨c0a, c0b, c0c, y0a, y0b, y0c, m0, rfl, rfl, rfl, hy0a, hy0b, hy0c⟩ := open_agg3 Try.underlying25 (by kernel_rfl) cellsA (hval 0 25 v0 rfl rfl) h0
  obtain ⟨k0, e0a, rfl, wk0⟩ := DataW.trod_int Try.underlying3 hy0a
  obtain ⟨n0, e0b, rfl, wn0⟩ := DataW.trod_int Try.underlying3 hy0b
  obtain ⟨s0, e0c, rfl, ws0⟩ := DataW.trod_string Try.underlying9 hy0c
  simp at e0a e0b e0c
  subst e0a e0b e0c
  obtain ⟨c1a, c1b, c1c, y1a, y1b, y1c, m1, rfl, rfl, rfl, hy1a, hy1b, hy1c⟩ := open_agg3 Try.underlying25 (by kernel_rfl) cellsA (hval 1 25 v1 rfl rfl) h1
  obtain ⟨k1, e1a, rfl, wk1⟩ := DataW.trod_int Try.underlying3 hy1a
  obtain ⟨n1, e1b, rfl, wn1⟩ := DataW.trod_int Try.underlying3 hy1b
  obtain ⟨s1, e1c, rfl, ws1⟩ := DataW.trod_string Try.underlying9 hy1c
  simp at e1a e1b e1c
  subst e1a e1b e1c
  clear hA0 hval0
  simp only [List.append_nil] at hW'
  have reads0 : ∀ (W' : World) (sp : Nat → Bool), DataW.Trod enc Try.prog W' 0 sp true 25 (.agg #[.int .i64 k0, .int .i64 n0, .string s0]) (.agg [.lit (.int .i64 k0), .lit (.int .i64 n0), .lit (.string s0.data.toList)]) [] := fun W' sp =>
    shut_agg3 (y0 := (.lit (.int .i64 k0), [])) (y1 := (.lit (.int .i64 n0), [])) (y2 := (.lit (.string s0.data.toList), [])) Try.underlying25 (by kernel_rfl) cellsA ⟨1, by simp [DataW.trod, Try.underlying3, wk0]⟩ ⟨1, by simp [DataW.trod, Try.underlying3, wn0]⟩ ⟨1, by simp [DataW.trod, Try.underlying9, ws0]⟩
  have reads1 : ∀ (W' : World) (sp : Nat → Bool), DataW.Trod enc Try.prog W' 0 sp true 25 (.agg #[.int .i64 k1, .int .i64 n1, .string s1]) (.agg [.lit (.int .i64 k1), .lit (.int .i64 n1), .lit (.string s1.data.toList)]) [] := fun W' sp =>
    shut_agg3 (y0 := (.lit (.int .i64 k1), [])) (y1 := (.lit (.int .i64 n1), [])) (y2 := (.lit (.string s1.data.toList), [])) Try.underlying25 (by kernel_rfl) cellsA ⟨1, by simp [DataW.trod, Try.underlying3, wk1]⟩ ⟨1, by simp [DataW.trod, Try.underlying3, wn1]⟩ ⟨1, by simp [DataW.trod, Try.underlying9, ws1]⟩
  refine (nested_walk ⟨k0, n0, s0⟩ ⟨k1, n1, s1⟩ W).mono fun e W' ⟨he, fr⟩ => ?_
  have bel : Below W.heap.size W W' := fr.below (Nat.le_refl _) (fun _ h => h.elim)
  subst he
  exact ⟨_, rfl, _, _, _, [], [], [], hW', trodAll_mk1 (shut_bool Try.underlying4 _), (trodAll_cons_mk (reads0 _ _) (trodAll_cons_mk (reads1 _ _) trodAll_mk0)), rfl, bel.frame _, fun h => by cases h⟩

theorem over : Rows.guardNestedRow.holds Try.pinned (OpenSpec.ofChange Rows.guardNestedSpec) :=
  OpenClaim.holds_of_wide 5 Try.f5 rfl rfl rfl rfl rfl rfl rfl ⟨rfl, rfl, rfl, rfl, rfl⟩ rfl rfl rfl rfl rfl (by kernel_rfl) Try.func5 (by kernel_rfl)
    (of_decide_eq_true (by kernel_rfl)) (by unfold Func.isWrapper; first | (rw [if_pos (by decide +kernel)]; kernel_rfl) | (rw [if_neg (by decide +kernel)]; exact ⟨rfl, rfl⟩))
    (fun os started H enc _ => lifted os started H enc)

theorem proved : Rows.GuardNestedSaid :=
  over
end Go.Proofs.Ytebfocfofoajkab.guardNested

namespace Go.Proofs.Ytebfocfofoajkab
/-- The given statement. -/
theorem guardNested_holds : Rows.GuardNestedSaid := guardNested.proved
#print axioms guardNested_holds
end Go.Proofs.Ytebfocfofoajkab
