/- HeapSweeps: its closures; a row of pieces. -/
import Derived.Test.YtacfmmbdeajjbaaGreatDoorSw
import Derived.Test.YtacfmmbdeajjbaaGreatDoorLa
namespace Go.Proofs.YtacfmmbdeajjbaaGreatDoor
open Go.RowKit

/-- The cells of a row of pieces. -/
def pcells : List (Nat × Nat) → List Value
  | [] => []
  | y :: ls => .int .i64 (160 + (y.1 : Int) * 8) :: .int .i64 (y.2 : Nat) :: pcells ls
theorem pcells_at {ls : List (Nat × Nat)} : ∀ {k : Nat} {y : Nat × Nat}, ls[k]? = some y → (pcells ls)[k * 2]? = some (.int .i64 (160 + (y.1 : Int) * 8)) ∧ (pcells ls)[k * 2 + 1]? = some (.int .i64 (y.2 : Nat)) := by
  induction ls with
  | nil => intro k y h; simp at h
  | cons z ls ih =>
    intro k y h
    cases k with
    | zero => simp at h; subst h; simp [pcells]
    | succ k =>
      have := ih (k := k) (y := y) (by simpa using h)
      rw [show (k + 1) * 2 = k * 2 + 1 + 1 by omega]
      simpa [pcells] using this
theorem pcells_app (a b : List (Nat × Nat)) : pcells (a ++ b) = pcells a ++ pcells b := by
  induction a with
  | nil => rfl
  | cons z a ih => simp [pcells, ih]
theorem pcells_len (a : List (Nat × Nat)) : (pcells a).length = 2 * a.length := by
  induction a with
  | nil => rfl
  | cons z a ih => simp [pcells, ih]; omega

theorem piece_news (w : World) (x y : Int) (t : TypeId) (j : Nat) (u : Value) (h : ([.int .i64 x, .int .i64 y] : List Value)[j]? = some u) : (w.alloc (.cells #[.int .i64 x, .int .i64 y] t)).cell? ((⟨w.heap.size, 0, none⟩ : Addr).add j) = some u := by
  have hadd : (⟨w.heap.size, 0, none⟩ : Addr).add j = ⟨w.heap.size, j, none⟩ := by unfold Addr.add; split <;> simp_all
  rw [hadd, cell_of_obj (heap_alloc_new w _) j]
  simpa using h
theorem info_piece : (Tryz.prog.info? 39).map (fun i => (i.zero, i.size, i.bytes)) = some (some (.agg #[.int .i64 0, .int .i64 0]), 2, 16) := by kernel_rfl

/-- Two lists without repeats that have the same things are one list in two orders. -/
theorem perm_same : ∀ (a b : List (Nat × Nat)), a.Nodup → b.Nodup → (∀ x, x ∈ a ↔ x ∈ b) → a.Perm b := by
  intro a
  induction a with
  | nil =>
    intro b _ _ h
    cases b with
    | nil => exact .nil
    | cons y b => exact absurd ((h y).2 (by simp)) (by simp)
  | cons x a ih =>
    intro b ha hb h
    have hx : x ∈ b := (h x).1 (by simp)
    have ha' := List.nodup_cons.1 ha
    refine .trans ?_ (List.perm_cons_erase hx).symm
    refine .cons x (ih _ ha'.2 (hb.erase x) fun y => ?_)
    rw [hb.mem_erase_iff]
    constructor
    · intro hy
      exact ⟨fun e => ha'.1 (e ▸ hy), (h y).1 (List.mem_cons_of_mem _ hy)⟩
    · rintro ⟨hne, hy⟩
      rcases List.mem_cons.1 ((h y).2 hy) with e | e
      · exact absurd e hne
      · exact e

theorem nodup_of_fst {l : List (Nat × Nat)} (h : (l.map Prod.fst).Nodup) : l.Nodup := by
  induction l with
  | nil => simp
  | cons y l ih =>
    simp only [List.map_cons, List.nodup_cons] at h
    exact List.nodup_cons.2 ⟨fun hy => h.1 (List.mem_map_of_mem hy), ih h.2⟩

/-- Another list of the same pieces. -/
theorem Lists.other {K : Nat → Nat} {lr st : List (Nat × Nat)} (h : Lists K lr) (nd : (st.map Prod.fst).Nodup) (only : ∀ y ∈ st, K y.1 = y.2 ∧ y.2 ≠ 0) (all : ∀ u, K u ≠ 0 → (u, K u) ∈ st) : Lists K st := by
  refine h.same (perm_same _ _ (nodup_of_fst h.nodup) (nodup_of_fst nd) fun y => ⟨fun hy => ?_, fun hy => ?_⟩)
  · have o := h.only y hy
    have := all y.1 (by rw [o.1]; exact o.2)
    rw [o.1] at this
    exact this
  · have o := only y hy
    have := h.all y.1 (by rw [o.1]; exact o.2)
    rw [o.1] at this
    exact this

/-- What stays of the pieces behind a sweep. -/
theorem Lists.swept {K K' : Nat → Nat} {ls lr st : List (Nat × Nat)} (h : Lists K ls) (hi : ∀ u, K u ≠ 0 → u < 478) (h' : Lists K' lr) (nd : (st.map Prod.fst).Nodup) (sub : ∀ y ∈ st, y ∈ ls)
    (ak : ∀ u, K' u = if u ∈ goneU (fun u => decide (∃ y ∈ st, y.1 = u)) (plU K 478) then 0 else K u) : Lists K' st := by
  have gm : ∀ u, u ∈ goneU (fun u => decide (∃ y ∈ st, y.1 = u)) (plU K 478) ↔ (K u ≠ 0 ∧ ¬ ∃ y ∈ st, y.1 = u) := fun u => by
    unfold goneU
    rw [List.mem_filter, plU_mem]
    constructor
    · rintro ⟨⟨_, h2⟩, h3⟩
      refine ⟨h2, ?_⟩
      simpa using h3
    · rintro ⟨h1, h2⟩
      refine ⟨⟨hi u h1, h1⟩, ?_⟩
      simpa using h2
  refine h'.other nd (fun y hy => ?_) fun u hu => ?_
  · have o := h.only y (sub y hy)
    rw [ak, if_neg (fun hg => ((gm _).1 hg).2 ⟨y, hy, rfl⟩)]
    exact o
  · have e := ak u
    by_cases hg : u ∈ goneU (fun u => decide (∃ y ∈ st, y.1 = u)) (plU K 478)
    · rw [if_pos hg] at e
      exact absurd e hu
    · rw [if_neg hg] at e
      have hk : K u ≠ 0 := by rw [← e]; exact hu
      obtain ⟨y, hy, ey⟩ := Classical.byContradiction fun hn => hg ((gm u).2 ⟨hk, hn⟩)
      have o := h.only y (sub y hy)
      rw [ey] at o
      rw [e, o.1, ← ey]
      exact hy

section
variable {w w' w0 : World} {hb sb b bh bw ba bl bn : Nat} {T : Tay} {A : Ab} {P : List (Int × Int)} {v : Value}

/-- What a sweep leaves behind. -/
structure SwAt (kp : Nat → Bool) (f : Nat → Int) (len : Nat) (A : Ab) (bn : Nat) (P' : List (Int × Int)) (w' : World) : Prop where
  n : Box w' bn (.int .i64 ((goneU kp (plU (ask f) 478)).length : Nat))
  st : HpS (says P' A)
  ak : ∀ u, ask (says P' A) u = if u ∈ goneU kp (plU (ask f) 478) then 0 else ask f u
  lr : ∃ lr, Lists (ask (says P' A)) lr ∧ lr.length + (goneU kp (plU (ask f) 478)).length = len

end
end Go.Proofs.YtacfmmbdeajjbaaGreatDoor
