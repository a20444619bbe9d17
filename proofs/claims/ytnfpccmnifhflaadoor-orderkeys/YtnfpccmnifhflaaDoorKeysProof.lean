/- OrderKeys (keys of a number and a name stand by the number, then by the name, and are parted again). For every input the call returns true, and each argument reads afterwards as it read before; no condition but the row's own. -/
import Derived.Test.YtnfpccmnifhflaaDoorCards
import Derived.Test.YtnfpccmnifhflaaDoorTie
import Derived.WalkKit
import Derived.ProofKit
import Derived.OpenShut
import Derived.ChangeOld
import Derived.Below
import Derived.Lib.SmallJoins
import Derived.Lib.LaidTab
import Derived.LaidMore
import Derived.Stop.Joined
import Derived.Stop.LaidErr
import Derived.SevenTiedAt
import Derived.SizedLaws
import Derived.Lay
import Derived.Test.YtnfpccmnifhflaaDoorFin
import Derived.Test.YtnfpccmnifhflaaDoorKeysW
namespace Go.Proofs.YtnfpccmnifhflaaDoor.orderKeys
open Go.ChangeShapes Go.WideShapes Go.ChangeAt Go.RowKit Go.Joins
set_option linter.unusedVariables false

theorem own : ownKnob Tryd.prog.godebug = none := by kernel_rfl


set_option maxRecDepth 100000 in
theorem lifted (os : Os) (started : os.Started) (H : Type) (enc : TypeId × Value → H) :
    ReturnsInHanded {} Tryd.checked os 8 .any (fun w args => (Rows.orderKeysSpec.pre enc Tryd.prog Tryd.f8 [] false w args ∧ laidMetH Tryd.prog Rows.orderKeysRow.laid w) ∧ sizedMet enc Tryd.prog Tryd.f8 (OpenSpec.ofChange Rows.orderKeysSpec) false w args)
      (Rows.orderKeysSpec.post enc Tryd.prog Tryd.f8 false true false false) := by
  refine returnsInHanded_of_change_and (C := Tryd.checked) (X := fun w _ => laidMetH Tryd.prog Rows.orderKeysRow.laid w) (fun _ _ _ hh h => h.of_heap hh) own started (by kernel_rfl) Tryd.func8
    (ChangeSpec.witness_shaped (enc := enc) (C := Tryd.checked) (os := os) (X := fun w _ => laidMetH Tryd.prog Rows.orderKeysRow.laid w) false (World.laidAll Tryd.prog os Rows.orderKeysRow.laid) #[.int .u64 0, .string ByteArray.empty, .int .u64 0, .string ByteArray.empty, .string ByteArray.empty] 8 (World.laidAll_os _ _ _) (World.shaped_of_ZipB (by kernel_rfl) (by kernel_rfl)) (by kernel_rfl) (by kernel_rfl) (by kernel_rfl) (by rw [MakeChecks.laidMetH_plain _ _ _ (by kernel_rfl)]; exact laidMet_laidAll _ (by kernel_rfl) (by kernel_rfl))) ?_
  intro W base args ds gs before hval0 hW _ hsized hL _
  have hval : ∀ (j : Nat) t v, Tryd.f8.params[j]? = some t → args[j]? = some v → Value.okWide Tryd.prog W .any base t v := hval0
  have hW' := hW
  obtain ⟨p, q, hA0, hV, rfl, hfz, hnd⟩ := hW
  have hA : DataW.TrodAll enc Tryd.prog W 0 (fun _ => true) true Tryd.f8.params.toList args.toList ds p := hA0
  rw [Tryd.params8] at hA hval
  obtain ⟨v0, vs0, d0, ds0, p0, q0, hargs, rfl, rfl, h0, r0⟩ := trodAll_cons hA
  obtain ⟨v1, vs1, d1, ds1, p1, q1, rfl, rfl, rfl, h1, r1⟩ := trodAll_cons r0
  obtain ⟨v2, vs2, d2, ds2, p2, q2, rfl, rfl, rfl, h2, r2⟩ := trodAll_cons r1
  obtain ⟨v3, vs3, d3, ds3, p3, q3, rfl, rfl, rfl, h3, r3⟩ := trodAll_cons r2
  obtain ⟨v4, vs4, d4, ds4, p4, q4, rfl, rfl, rfl, h4, r4⟩ := trodAll_cons r3
  obtain ⟨rfl, rfl, rfl⟩ := trodAll_nil r4
  obtain rfl : args = #[v0, v1, v2, v3, v4] := by cases args; simp_all
  obtain ⟨rfl, rfl⟩ := trodVars_none hV
  obtain ⟨a0, rfl, rfl, rfl, w0⟩ := open_int Tryd.underlying29 (hval 0 29 v0 rfl rfl) h0
  obtain ⟨n0, rfl, b0⟩ := wf_u64 a0 w0
  obtain ⟨s1, rfl, rfl, rfl, z1⟩ := Go.ChangeMaps.open_string Tryd.underlying9 (hval 1 9 v1 rfl rfl) h1
  have b1 : s1.size ≤ 140737488355328 := by
    have hz := sized_string hsized (j := 1) (t := 9) (by rw [Tryd.params8]; rfl) rfl
    have hz2 : s1.size ≤ reachBytes := hz
    exact Nat.le_trans hz2 (by decide)
  obtain ⟨l1, rfl⟩ := bs_of s1
  rw [bs_size] at b1
  obtain ⟨a2, rfl, rfl, rfl, w2⟩ := open_int Tryd.underlying29 (hval 2 29 v2 rfl rfl) h2
  obtain ⟨n2, rfl, b2⟩ := wf_u64 a2 w2
  obtain ⟨s3, rfl, rfl, rfl, z3⟩ := Go.ChangeMaps.open_string Tryd.underlying9 (hval 3 9 v3 rfl rfl) h3
  have b3 : s3.size ≤ 140737488355328 := by
    have hz := sized_string hsized (j := 3) (t := 9) (by rw [Tryd.params8]; rfl) rfl
    have hz2 : s3.size ≤ reachBytes := hz
    exact Nat.le_trans hz2 (by decide)
  obtain ⟨l3, rfl⟩ := bs_of s3
  rw [bs_size] at b3
  obtain ⟨s4, rfl, rfl, rfl, z4⟩ := Go.ChangeMaps.open_string Tryd.underlying9 (hval 4 9 v4 rfl rfl) h4
  have b4 : s4.size ≤ 140737488355328 := by
    have hz := sized_string hsized (j := 4) (t := 9) (by rw [Tryd.params8]; rfl) rfl
    have hz2 : s4.size ≤ reachBytes := hz
    exact Nat.le_trans hz2 (by decide)
  obtain ⟨l4, rfl⟩ := bs_of s4
  rw [bs_size] at b4
  clear hA0 hval0
  simp only [List.append_nil] at hW'
  refine (keys_ok n0 l1 n2 l3 l4 b0 b1 b2 b3 b4 W).mono fun e W' ⟨he, bel⟩ => ?_
  subst he
  exact ⟨_, rfl, _, _, _, [], [], [], hW', trodAll_mk1 (shut_bool Tryd.underlying4 _), (trodAll_cons_mk (shut_int Tryd.underlying29 w0) (trodAll_cons_mk (Go.ChangeMaps.shut_string Tryd.underlying9 z1) (trodAll_cons_mk (shut_int Tryd.underlying29 w2) (trodAll_cons_mk (Go.ChangeMaps.shut_string Tryd.underlying9 z3) (trodAll_cons_mk (Go.ChangeMaps.shut_string Tryd.underlying9 z4) trodAll_mk0))))), rfl, bel.frame _, fun h => by cases h⟩

theorem over : Rows.OrderKeysSaid :=
  OpenClaim.holds_of_wide 8 Tryd.f8 rfl rfl rfl rfl rfl rfl rfl ⟨rfl, rfl, rfl, rfl, rfl⟩ rfl rfl rfl rfl rfl (by kernel_rfl) Tryd.func8 (by kernel_rfl)
    (of_decide_eq_true (by kernel_rfl)) (by unfold Func.isWrapper; first | (rw [if_pos (by decide +kernel)]; kernel_rfl) | (rw [if_neg (by decide +kernel)]; exact ⟨rfl, rfl⟩))
    (fun os started H enc _ => lifted os started H enc)

theorem proved : Rows.OrderKeysCardSaid :=
  Claim7.holds_tied_plain_at .later [] [.data, .pinned] true (true, "c17aed079ec54408e119b5da4eeb91514a36c7165c8677ac60a1e35682a4cff5") false
    over (fun _ h => by cases h) (by kernel_rfl) (fun _ h => by cases h) orderKeys_row_tie rfl ⟨rfl, rfl⟩ (by kernel_rfl) rfl
    (fun f fn hf hfn => by
      obtain rfl : f = 8 := Option.some.inj ((show Tryd.prog.funcNamed Rows.orderKeysRow.func = some 8 by kernel_rfl).symm.trans hf) |>.symm
      obtain rfl : fn = Tryd.f8 := (Option.some.inj (Tryd.func8.symm.trans hfn)).symm
      exact ⟨by kernel_rfl, fun j t ht => by
        rw [Tryd.params8] at ht
        have hm : t ∈ [29, 9, 29, 9, 9] := by simpa using Array.mem_of_getElem? ht
        have hall : ([29, 9, 29, 9, 9].all fun u => !Tryd.prog.wantsStandIn u) = true := by kernel_rfl
        exact (show Tryd.prog.wantsStandIn t = false by simpa using List.all_eq_true.1 hall t hm)⟩)
    (by kernel_rfl)
end Go.Proofs.YtnfpccmnifhflaaDoor.orderKeys

namespace Go.Proofs.YtnfpccmnifhflaaDoor
/-- The given statement. -/
theorem orderKeys_holds : Rows.OrderKeysCardSaid := orderKeys.proved
#print axioms orderKeys_holds
end Go.Proofs.YtnfpccmnifhflaaDoor
