/- GuardFirst: its loop's row of closures, called by Each. -/
import Derived.Test.YtebfocfofoajkaaFirstC
namespace Go.Proofs.Ytebfocfofoajkaa
open Go.RowKit

/-- The closure whose number lies at p. -/
abbrev clo (s p : Nat) : Value := .func (.func 19) #[] #[ptr p, ptr s, ptr (s + 1), ptr (s + 2)]
def cvals (s : Nat) (pi : Nat → Nat) (k : Nat) : List Value := (List.range k).map fun j => clo s (pi j)
theorem cvals_succ (s : Nat) (pi : Nat → Nat) (k : Nat) : cvals s pi (k + 1) = cvals s pi k ++ [clo s (pi k)] := by simp [cvals, List.range_succ]
theorem cvals_get (s : Nat) (pi : Nat → Nat) (k j : Nat) (h : j < k) : (cvals s pi k)[j]? = some (clo s (pi j)) := by simp [cvals, h]
theorem cvals_congr (s : Nat) (pi pi' : Nat → Nat) (k : Nat) (h : ∀ j, j < k → pi j = pi' j) : cvals s pi k = cvals s pi' k := by
  refine List.map_congr_left fun j hj => ?_
  rw [h j (List.mem_range.1 hj)]

/-- What the law's first loop has laid behind k rounds: at, e, done from s on; the row of closures; where their numbers lie. -/
structure FSt (w : World) (A E : Int) (k : Nat) (sv : Value) (pi : Nat → Nat) (wr : World) : Prop where
  fr : Still w wr
  sz : w.heap.size + 3 ≤ wr.heap.size
  ot : wr.heap[w.heap.size]? = some (.cells #[.int .i64 A] 3)
  oe : wr.heap[w.heap.size + 1]? = some (.cells #[.int .i64 E] 3)
  od : wr.heap[w.heap.size + 2]? = some (.cells #[.slice none 0 0] 22)
  own : wr.ownsRow (w.heap.size + 3) 1 1 sv k (cvals w.heap.size pi k)
  is : ∀ j, j ≤ k → wr.heap[pi j]? = some (.cells #[.int .i64 j] 3) ∧ w.heap.size + 3 ≤ pi j

section
variable {w : World} {A E : Int} {k : Nat} {sv : Value} {pi : Nat → Nat} {wr w' : World}
theorem FSt.keep (h : FSt w A E k sv pi wr) (f : Still wr w') : FSt w A E k sv pi w' :=
  ⟨h.fr.trans f, Nat.le_trans h.sz f.size, f.obj h.ot (fun h => h), f.obj h.oe (fun h => h), f.obj h.od (fun h => h), owns_fr h.own f (fun _ _ h => h), fun j hj => ⟨f.obj (h.is j hj).1 (fun h => h), (h.is j hj).2⟩⟩

theorem FSt.push (h : FSt w A E k sv pi wr) {sv' : Value} (own : w'.ownsRow (w.heap.size + 3) 1 1 sv' (k + 1) (cvals w.heap.size pi k ++ [clo w.heap.size (pi k)])) (gr : wr.grownBy w' sv.ownBlock) :
    FSt w A E (k + 1) sv' (fun j => if j = k + 1 then w'.heap.size else pi j) (w'.alloc (.cells #[.int .i64 ((k : Int) + 1)] 3)) := by
  have f : Fr (fun j => some j = sv.ownBlock) wr w' := ⟨gr.os, gr.tape, gr.output, gr.size, fun j hj hn => gr.block j hj hn⟩
  have ge : ∀ j, some j = sv.ownBlock → w.heap.size + 3 ≤ j := fun j e => (h.own.lt j e.symm).1
  have kind : ∀ j, some j = sv.ownBlock → ∃ cur, wr.heap[j]? = some (.cells cur 1) := by
    intro j e
    rcases h.own.2 with ⟨hv, _⟩ | ⟨g, cap, cur, hv, _, hg, _⟩
    · rw [hv] at e; cases e
    · rw [hv] at e; cases e; exact ⟨cur, hg⟩
  have fa : Still w' (w'.alloc (.cells #[.int .i64 ((k : Int) + 1)] 3)) := (Fr.refl _ _).alloc _
  have sz := h.sz; have sz' := gr.size
  refine ⟨(h.fr.trans' f (fun j e => .inr (by have := ge j e; omega))).trans fa, by simp; omega, fa.obj (f.obj h.ot (fun e => by have := ge _ e; omega)) (fun h => h), fa.obj (f.obj h.oe (fun e => by have := ge _ e; omega)) (fun h => h), fa.obj (f.obj h.od (fun e => by have := ge _ e; omega)) (fun h => h), ?_, fun j hj => ?_⟩
  · rw [cvals_succ, cvals_congr w.heap.size _ pi k (fun j hj => by rw [if_neg (by omega)]), if_neg (by omega)]
    exact owns_fr own fa (fun _ _ h => h)
  · by_cases e : j = k + 1
    · subst e
      simp only [if_true]
      refine ⟨?_, by omega⟩
      have := obj_alloc_new w' (.cells #[.int .i64 ((k : Int) + 1)] 3)
      rw [this]; simp
    · simp only [if_neg e]
      obtain ⟨h1, h2⟩ := h.is j (by omega)
      exact ⟨fa.obj (f.obj h1 (fun e => by obtain ⟨cur, hc⟩ := kind _ e; rw [h1] at hc; simp at hc)) (fun h => h), h2⟩
end

/-- What done holds behind j calls. -/
def Done (w : World) (B j : Nat) (w' : World) : Prop := ∃ dv, w'.heap[w.heap.size + 2]? = some (.cells #[dv] 22) ∧ w'.ownsRow B 3 1 dv j (natVals j)

theorem Done.keep {w : World} {B j : Nat} {w1 w2 : World} {F : Nat → Prop} (d : Done w B j w1) (f : Fr F w1 w2) (h1 : ¬ F (w.heap.size + 2)) (h2 : ∀ g cur, w1.heap[g]? = some (.cells cur 3) → ¬ F g) : Done w B j w2 := by
  obtain ⟨dv, hd, ho⟩ := d
  refine ⟨dv, f.obj hd h1, owns_fr ho f fun g hg => ?_⟩
  rcases ho.2 with ⟨hv, _⟩ | ⟨g', cap, cur, hv, _, hg', _⟩
  · rw [hv] at hg; cases hg
  · rw [hv] at hg; cases hg; exact h2 _ cur hg'

theorem first_each {w : World} {E : Int} {k p : Nat} {sv : Value} {pi : Nat → Nat} {wr : World} (h : FSt w p E k sv pi wr) (hk : k ≤ 16) (hp : p < k) :
    Calls Try.prog 20 #[sv] wr fun e w' => ∃ v, e = .returned (.tuple #[.int .i64 p, .iface 25 (.int .i64 v)]) ∧ v = wrap64 (wrap64 (E + p) - p) ∧ Still w w' ∧ w'.heap[w.heap.size]? = some (.cells #[.int .i64 p] 3) ∧ w'.heap[w.heap.size + 1]? = some (.cells #[.int .i64 E] 3) ∧ Done w wr.heap.size p w' := by
  rcases h.own.2 with ⟨_, rfl⟩ | ⟨g, cap, cur, rfl, hg, hb, hc, hm, hs, ht⟩
  · omega
  have gl : g < wr.heap.size := lt_of_obj hb
  have cells : ∀ j, j < k → wr.cell? ⟨g, 0 + j, none⟩ = some (clo w.heap.size (pi j)) := by
    intro j hj
    rw [Nat.zero_add, h.own.cellAt j (by omega)]
    exact cvals_get _ pi k j hj
  have sz := h.sz
  refine (each_ok (fs := fun j => clo w.heap.size (pi j)) (cap := cap)
    (I := fun j w' => Fr (fun b => b = w.heap.size + 2 ∨ wr.heap.size ≤ b) wr w' ∧ j ≤ p ∧ Done w wr.heap.size j w')
    (S := fun j g w' => Fr (fun b => b = w.heap.size + 2 ∨ wr.heap.size ≤ b) wr w' ∧ j = p ∧ g = .bad 25 (.int .i64 (wrap64 (wrap64 (E + p) - p))) ∧ Done w wr.heap.size p w')
    (by omega) (fun j w' hj ⟨f, _, _⟩ => f.cell' (cells j hj) (by show ¬ (g = _ ∨ _ ≤ g); omega)) ?_ ⟨Fr.refl _ _, Nat.zero_le _, _, h.od, World.ownsRow_nil _ _ _ _⟩).mono ?_
  · rintro j w' hj ⟨f, hjp, hD⟩
    obtain ⟨i1, i2⟩ := h.is j (by omega)
    have il := lt_of_obj i1
    have fb : Still w' (w'.alloc box) := (Fr.refl _ w').alloc box
    have ff := f.trans' fb (fun _ h => h.elim)
    have hi' := ff.obj i1 (by show ¬ (pi j = _ ∨ _ ≤ pi j); rintro (e | e); · rw [e, h.od] at i1; simp at i1
                              · omega)
    have ht' := ff.obj h.ot (by show ¬ (w.heap.size = _ ∨ _ ≤ w.heap.size); omega)
    have he' := ff.obj h.oe (by show ¬ (w.heap.size + 1 = _ ∨ _ ≤ w.heap.size + 1); omega)
    have fs := f.size
    have bx := obj_alloc_new w' box
    by_cases hlt : j < p
    · obtain ⟨dv, hd, ho⟩ := hD
      have dl : ¬ some w'.heap.size = dv.ownBlock := fun e => by have := (ho.lt _ e.symm).2; omega
      refine try_raw (R := fun h w2 => (h = .well ∧ Fr (fun b => b = w.heap.size + 2 ∨ wr.heap.size ≤ b) wr w2 ∧ j + 1 ≤ p ∧ Done w wr.heap.size (j + 1) w2) ∨ _) (runs_of enters19 (first := #[]) (cap := #[ptr (pi j), ptr w.heap.size, ptr (w.heap.size + 1), ptr (w.heap.size + 2)])
        ((first1_well (pe := w.heap.size + 1) hi' ht' (fb.obj hd (fun h => h)) (owns_fr ho fb (fun _ _ h => h)) (by simp; omega) (by omega) (by omega) (by omega)).mono ?_))
      rintro e w1 ⟨g1, he1, f1, rfl, dv', hd1, ho1⟩
      have bx1 := f1.obj bx (by show ¬ (w'.heap.size = _ ∨ _); rintro (e | e); · omega
                                · exact dl e)
      refine ⟨.well, he1, bx1, fun w2 f2 => .inl ⟨rfl, ?_, by omega, ?_⟩⟩
      · refine (ff.trans' f1 (fun b hb => .inl ?_)).trans' f2 (fun b hb => .inl (.inr (by omega)))
        rcases hb with hb | hb
        · exact .inl hb
        · exact .inr (ho.lt b hb.symm).1
      · exact Done.keep ⟨dv', hd1, ho1⟩ f2 (by omega) (fun g cur hg e => by rw [e, bx1] at hg; simp at hg)
    · obtain rfl : j = p := by omega
      refine try_raw (R := fun h w2 => _ ∨ (h.is = true ∧ Fr (fun b => b = w.heap.size + 2 ∨ wr.heap.size ≤ b) wr w2 ∧ j = j ∧ h = .bad 25 (.int .i64 (wrap64 (wrap64 (E + j) - j))) ∧ Done w wr.heap.size j w2)) (runs_of enters19 (first := #[]) (cap := #[ptr (pi j), ptr w.heap.size, ptr (w.heap.size + 1), ptr (w.heap.size + 2)])
        ((first1_bad (pd := w.heap.size + 2) hi' ht' he' (Int.le_refl _)).mono ?_))
      rintro e w1 ⟨g1, he1, f1, rfl⟩
      have bx1 := f1.obj bx (fun h => h)
      refine ⟨_, he1, bx1, fun w2 f2 => .inr ⟨rfl, ?_, rfl, rfl, ?_⟩⟩
      · exact (ff.trans' f1 (fun _ h => h.elim)).trans' f2 (fun b hb => .inl (.inr (by omega)))
      · exact (hD.keep (fb.trans f1) (fun h => h) (fun _ _ _ h => h)).keep f2 (by omega) (fun g cur hg e => by rw [e, bx1] at hg; simp at hg)
  · rintro e w' (⟨rfl, f, hkp, _⟩ | ⟨j, g2, hj, rfl, f, rfl, rfl, hD⟩)
    · omega
    · exact ⟨_, rfl, rfl, h.fr.trans' f (fun b hb => .inr (by omega)), f.obj h.ot (by omega), f.obj h.oe (by omega), hD⟩
end Go.Proofs.Ytebfocfofoajkaa
