/- GuardFirst's closure. -/
import Derived.Test.YtebfocfofoajkaaEachW0
import Derived.Test.YtebfocfofoajkaaNums
import Derived.OwnWalk
import Derived.Laws.OwnMore
import Derived.Laws.EntriesVeiled
namespace Go.Proofs.Ytebfocfofoajkaa
open Go.RowKit

theorem owns_fr {w w' : World} {base size n : Nat} {e : TypeId} {v : Value} {xs : List Value} {F : Nat → Prop} (h : w.ownsRow base e size v n xs) (f : Fr F w w') (hF : ∀ g, v.ownBlock = some g → ¬ F g) : w'.ownsRow base e size v n xs := by
  refine ⟨h.1, ?_⟩
  rcases h.2 with h | ⟨g, cap, cur, hv, hb, hg, rest⟩
  · exact .inl h
  · exact .inr ⟨g, cap, cur, hv, hb, f.obj hg (hF g (by rw [hv]; rfl)), rest⟩

theorem info1 : (Try.prog.info? 1).map (fun i => (i.zero, i.size, i.bytes)) = some (some .nilFunc, 1, 8) := by kernel_rfl
theorem info3 : (Try.prog.info? 3).map (fun i => (i.zero, i.size, i.bytes)) = some (some (.int .i64 0), 1, 8) := by kernel_rfl
theorem set_one {w : World} {c : Nat} {v : Value} {t : Nat} (u : Value) (hc : w.heap[c]? = some (.cells #[v] t)) : (w.setCell ⟨c, 0, none⟩ u).heap[c]? = some (.cells #[u] t) := by
  have := heap_setCell_same w c 0 #[v] t u hc
  simpa using this

theorem enters19 : Enters 19 := fun _ _ => by kernel_rfl

/-- The numbers below k, as values. -/
def natVals (k : Nat) : List Value := (List.range k).map fun (j : Nat) => .int .i64 j
theorem natVals_succ (k : Nat) : natVals (k + 1) = natVals k ++ [.int .i64 (k : Int)] := by simp [natVals, List.range_succ]

set_option maxHeartbeats 1000000 in
/-- At its place or behind it the closure panics. -/
theorem first1_bad {pi pt pe pd : Nat} {i at_ e : Int} {w : World} (hi : w.heap[pi]? = some (.cells #[.int .i64 i] 3)) (ht : w.heap[pt]? = some (.cells #[.int .i64 at_] 3)) (he : w.heap[pe]? = some (.cells #[.int .i64 e] 3))
    (hle : at_ ≤ i) : Calls Try.prog 19 #[ptr pi, ptr pt, ptr pe, ptr pd] w fun x w' => ∃ h : How, h.ended x ∧ Still w w' ∧ h = .bad 25 (.int .i64 (wrap64 (wrap64 (e + i) - at_))) := by
  have c1 := cell_of_obj hi 0; have c2 := cell_of_obj ht 0; have c3 := cell_of_obj he 0
  clear hi ht he
  go_enter Try.func19, Try.ntmps19
  go_wp2
  exact ⟨rfl, .bad _ _, How.ended_one _ _, Fr.refl _ w, rfl⟩

set_option maxHeartbeats 2000000 in
/-- Ahead of it, it puts its number at the end of the list. -/
theorem first1_well {base pi pt pe pd k : Nat} {at_ : Int} {sv : Value} {w : World} (hi : w.heap[pi]? = some (.cells #[.int .i64 k] 3)) (ht : w.heap[pt]? = some (.cells #[.int .i64 at_] 3))
    (hd : w.heap[pd]? = some (.cells #[sv] 22)) (own : w.ownsRow base 3 1 sv k (natVals k)) (hb : base ≤ w.heap.size) (hpd : pd < base) (hlt : (k : Int) < at_) (hk : k < 1000) :
    Calls Try.prog 19 #[ptr pi, ptr pt, ptr pe, ptr pd] w fun x w' => ∃ h : How, h.ended x ∧ Fr (fun j => j = pd ∨ some j = sv.ownBlock) w w' ∧ h = .well ∧ ∃ sv', w'.heap[pd]? = some (.cells #[sv'] 22) ∧ w'.ownsRow base 3 1 sv' (k + 1) (natVals (k + 1)) := by
  have hi3 := info3
  obtain ⟨i0, hi0⟩ : ∃ i, Try.prog.info? 3 = some i := by
    cases h : Try.prog.info? 3 with
    | none => rw [h] at hi3; simp at hi3
    | some i => exact ⟨i, rfl⟩
  rw [hi0] at hi3
  simp only [Option.map_some, Option.some.injEq, Prod.mk.injEq] at hi3
  have HI := hide (And.intro hi0 hi3)
  have c1 := cell_of_obj hi 0; have c2 := cell_of_obj ht 0; have c3 := cell_of_obj hd 0
  have sh : ∃ a l c, sv = .slice a l c := by
    rcases own.2 with ⟨h, _⟩ | ⟨g, cap, cur, h, _⟩
    · exact ⟨_, _, _, h⟩
    · exact ⟨_, _, _, h⟩
  obtain ⟨sa, sl, sc, rfl⟩ := sh
  have f1 : Still w (w.alloc (.cells #[.int .i64 k] 3)) := (Fr.refl _ w).alloc _
  have own1 := owns_fr own f1 (fun _ _ h => h)
  have hd1 := f1.obj hd (fun h => h)
  have OWN1 := hide own1; have F1 := hide f1; have HD1 := hide hd1; have OWN := hide own
  clear hi ht hd own own1 f1 hd1 hi3 hi0
  have fl : (natVals k).length = k := by simp [natVals]
  generalize hnv : natVals k = vals at OWN1 fl
  have HNV := hide hnv
  clear hnv
  go_enter Try.func19, Try.ntmps19
  go_wp2_with (at_builtin; refine wpList_append_own _ rfl _ _ 22 rfl base 3 i0 (.int .i64 0) 1 8 Try.underlying22 (unhide HI).1 (unhide HI).2.1 (unhide HI).2.2.1 (unhide HI).2.2.2 rfl (by decide) _ k vals rfl (unhide OWN1) _ 1 1 [.int .i64 (k : Int)] rfl rfl ?c1 ?c2 ?c3 ?c4 ?c5 ?_)
  case c1 => exact cell_one_new _ _ _
  case c2 => intro u hu; simp at hu; subst hu; rfl
  case c3 => unfold maxLen; omega
  case c4 => omega
  case c5 => simp; omega
  intro v' w2 hown' hgrow' _
  have sh : ∃ a l c, v' = .slice a l c := by
    rcases hown'.2 with ⟨h, _⟩ | ⟨g, cap, cur, h, _⟩
    · exact ⟨_, _, _, h⟩
    · exact ⟨_, _, _, h⟩
  obtain ⟨va, vl, vc, rfl⟩ := sh
  have f2 : Fr (fun j => some j = (Value.slice sa sl sc).ownBlock) (w.alloc (.cells #[.int .i64 k] 3)) w2 := ⟨hgrow'.os, hgrow'.tape, hgrow'.output, hgrow'.size, fun j hj hn => hgrow'.block j hj hn⟩
  have npd : ¬ some pd = (Value.slice sa sl sc).ownBlock := fun e => by have := ((unhide OWN1).lt pd e.symm).1; omega
  have hd2 := f2.obj (unhide HD1) npd
  have d2 := cell_of_obj hd2 0; have z2 := frozen_of_obj hd2 0
  have HD2 := hide hd2; have F2 := hide f2; have OW2 := hide hown'
  clear hd2 f2 hown' hgrow' npd
  go_wp2
  go_end0
  have f3 : Fr (fun j => j = pd) w2 (w2.setCell ⟨pd, 0, none⟩ (.slice va vl vc)) := (Fr.refl (fun j => j = pd) w2).setCell (.inl rfl) _
  refine ⟨.well, rfl, (((unhide F1).mono (fun _ h => h.elim)).trans ((unhide F2).mono fun j e => .inl (.inr e))).trans (f3.mono fun j e => .inl (.inl e)), rfl, _, set_one _ (unhide HD2), ?_⟩
  rw [natVals_succ, unhide HNV]
  exact owns_fr (unhide OW2) f3 (fun g hg e => by have := ((unhide OW2).lt g hg).1; omega)
end Go.Proofs.Ytebfocfofoajkaa
