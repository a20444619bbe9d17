/- MarkFrom: rows put together; steps of a region that draws. -/
import Derived.Test.YtkdehhmmcchgfaaFf
import Derived.Test.YtkdehhmmcchgfaaRi
import Derived.Deep.RegionHeld
import Derived.Laws.EntriesVeiled
namespace Go.Proofs.Ytkdehhmmcchgfaa
open Go.RowKit

theorem take_l {P : Program} {Q : Exit → Act → World → Prop} {md : Region.Mode} {S : World → Prop} {os : List Oper} (i : Nat) {oi : Oper} {v : Value} {fuel : Nat} {listed : Array Bool} {a : Act} {w : World} (hi : os[i]? = some oi)
    (hs : Region.noSelect os.toArray = true) (hf : Region.free md os.toArray listed i = true) (hr : (Region.ready md os.toArray listed).contains i = true)
    (hQ : ∀ c a w, Q (.panic c) (a.put oi.dst v) w → Q (.panic c) a w) (hy : YieldsIf P os.toArray S oi v a) (hS : S w)
    (h : wpAnyH P md os.toArray Q S fuel (listed.setIfInBounds i true) (a.put oi.dst v) w) : wpAnyH P md os.toArray Q S (fuel + 1) listed a w :=
  wpAnyH_take (i := i) (oi := oi) (by simpa using hi) hs hf hr hQ hy hS h

/-- A row put behind another one. -/
theorem Own.cat {st : TypeId} (hun : Try.prog.underlying st = some (.slice 3)) (ty : TypeId) (w : World) (lo lo2 : Nat) (v u : Value) (l m : List Int) (hv : Own w lo v l) (hu : Own w lo2 u m) (hl : l.length + m.length ≤ 1000000) (hlo : lo ≤ w.heap.size) :
    ∃ v' w', (Builtin.append_ #[st, st] ty #[v, u]).run Try.prog w = .ok v' w' ∧ Own w' lo v' (l ++ m) ∧ Fr (fun k => v.ownBlock = some k) w w' ∧ (v'.ownBlock = v.ownBlock ∨ v'.ownBlock = some w.heap.size) := by
  obtain ⟨i, hi, hzz⟩ := Option.map_eq_some_iff.1 infoN
  simp only [Prod.mk.injEq] at hzz
  obtain ⟨hz, hsize, hby⟩ := hzz
  rcases hu.form with ⟨rfl, rfl⟩ | ⟨g, cap, rfl, hc, _, _, hcell, _⟩
  · exact ⟨v, w, run_append_owned_none (P := Try.prog) (w := w) lo st ty 3 i 1 hun hi v _ _ hv, by simpa using hv, Fr.refl _ _, .inl rfl⟩
  · obtain ⟨v', w', hr, h2, h3, _, h5⟩ := run_append_own_at (P := Try.prog) w lo st ty 3 i _ 1 8 hun hi hz hsize hby rfl (by decide) v l.length (l.map iv) hv ⟨g, 0, none⟩ m.length cap (m.map iv) (by simp) (fun j x hx => by
      rw [List.getElem?_map] at hx
      obtain ⟨y, hy, rfl⟩ := Option.map_eq_some_iff.1 hx
      have hj := (List.getElem?_eq_some_iff.1 hy).1
      have := hcell j hj
      rw [show (⟨g, 0, none⟩ : Addr).add j = ⟨g, j, none⟩ by unfold Addr.add; split <;> simp_all]
      rw [this, List.getD_eq_getElem?_getD, hy]; rfl) (fun x hx => by
      obtain ⟨y, _, rfl⟩ := List.mem_map.1 hx
      rfl) (by unfold maxLen; omega) (by omega) hlo
    refine ⟨v', w', hr, ?_, (Fr.refl _ w).grown h3 (fun r e => .inl e), h5⟩
    unfold Own
    simpa using h2
/-- An empty row, made. -/
theorem Own.empty (w : World) (lo : Nat) (h : lo ≤ w.heap.size) : Own (w.alloc (.cells #[] 3)) lo (.slice (some ⟨w.heap.size, 0, none⟩) 0 0) [] :=
  World.ownsRow_made w #[] 0 h (by decide) rfl
theorem Own.rds {w : World} {base : Nat} {sa : Option Addr} {sn sc : Nat} {l : List Int} (h : Own w base (.slice sa sn sc) l) : Rd w sa l ∧ ∀ b o, sa = some ⟨b, o, none⟩ → base ≤ b ∧ b < w.heap.size ∧ Value.ownBlock (.slice sa sn sc) = some b := by
  obtain ⟨a, cap, e, _, hr, hb⟩ := h.rd
  injection e with e1 e2 e3
  subst e1
  exact ⟨hr, fun b o e => ⟨(hb b o e).1, (h.lt b (hb b o e).2.1).2, (hb b o e).2.1⟩⟩
theorem run_none (of : OfF) (most : Int) (k : Nat) (F d : List Int) (R : List Int × List Int × Int) (h : run of most k F d = R) (hR : R.2.2 ≠ -1) (hn : nxt F d = none) : R = (F, d, 0) := by
  cases k with
  | zero => exact absurd (by rw [← h]; rfl) hR
  | succ k => unfold run at h; rw [hn] at h; exact h.symm
theorem run_some (of : OfF) (most : Int) (k : Nat) (F d : List Int) (R : List Int × List Int × Int) (x : Int) (h : run of most k F d = R) (hR : R.2.2 ≠ -1) (hn : nxt F d = some x) :
    ∃ k', R = if most < F.length then (F, d, 5) else if (of x).2 = 0 then run of most k' (rise (F ++ (of x).1)) (d ++ [x]) else (F, d ++ [x], (of x).2) := by
  cases k with
  | zero => exact absurd (by rw [← h]; rfl) hR
  | succ k => unfold run at h; rw [hn] at h; exact ⟨k, h.symm⟩
end Go.Proofs.Ytkdehhmmcchgfaa
