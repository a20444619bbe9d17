/- What From does, as the document says it. -/
import Derived.Test.YtkdehhmmcchgfaaBh
namespace Go.Proofs.Ytkdehhmmcchgfaa
open Go.RowKit

/-- The same numbers, rising, each once, without nought. -/
def rise (l : List Int) : List Int := srt (fnd [] l)
theorem fnd1_nodup {acc : List Int} (h : acc.Nodup) (x : Int) : (fnd1 acc x).Nodup := by
  unfold fnd1
  split
  · exact h
  · rename_i e
    rw [List.nodup_append]
    exact ⟨h, by simp, fun y hy z hz e2 => by simp at hz; subst hz; subst e2; exact e (.inr hy)⟩
theorem fnd_nodup {acc : List Int} (h : acc.Nodup) (l : List Int) : (fnd acc l).Nodup := by
  induction l generalizing acc with
  | nil => exact h
  | cons x l ih => exact ih (fnd1_nodup h x)
theorem srt_nodup {l : List Int} (h : l.Nodup) : (srt l).Nodup := (srt_perm l).nodup_iff.2 h
theorem srt_lt {l : List Int} (h : l.Nodup) : (srt l).Pairwise (· < ·) := by
  have h1 := srt_le l
  have h2 := srt_nodup h
  exact (h1.and h2).imp fun h => by omega
theorem lt_nodup {l : List Int} (h : l.Pairwise (· < ·)) : l.Nodup := h.imp fun h => by omega
/-- A rising list is told by what it has. -/
theorem rise_unique {l m : List Int} (hl : l.Pairwise (· < ·)) (hm : m.Pairwise (· < ·)) (h : ∀ x, x ∈ l ↔ x ∈ m) : l = m := by
  have hp : l.Perm m := (List.perm_ext_iff_of_nodup (lt_nodup hl) (lt_nodup hm)).2 h
  exact List.Perm.eq_of_pairwise (le := (· < ·)) (fun a b _ _ h1 h2 => by omega) hl hm hp
theorem rise_lt (l : List Int) : (rise l).Pairwise (· < ·) := srt_lt (fnd_nodup (by simp) l)
theorem rise_mem (l : List Int) (x : Int) : x ∈ rise l ↔ x ∈ l ∧ x ≠ 0 := by
  unfold rise; rw [srt_mem, fnd_mem]; simp
/-- What was found, found by itself. -/
theorem rise_fnd {acc : List Int} (h : acc.Nodup) (h0 : ∀ x ∈ acc, x ≠ 0) (l : List Int) : srt (fnd acc l) = rise (srt acc ++ l) := by
  refine rise_unique (srt_lt (fnd_nodup h l)) (rise_lt _) fun x => ?_
  rw [srt_mem, fnd_mem, rise_mem, List.mem_append, srt_mem]
  constructor
  · rintro (h1 | h1)
    · exact ⟨.inl h1, h0 x h1⟩
    · exact ⟨.inr h1.1, h1.2⟩
  · rintro ⟨h1 | h1, h2⟩
    · exact .inl h1
    · exact .inr ⟨h1, h2⟩

/-- What hangs on a number, and the error. -/
abbrev OfF := Int → List Int × Int
/-- The least that was found and not asked for. -/
def nxt (found done : List Int) : Option Int := found.find? fun x => !done.contains x
/-- From here on: what was found, what was asked for, the error; -1: no end within so many. -/
def run (of : OfF) (most : Int) : Nat → List Int → List Int → List Int × List Int × Int
  | 0, found, done => (found, done, -1)
  | k + 1, found, done =>
    match nxt found done with
    | none => (found, done, 0)
    | some x => if most < found.length then (found, done, 5) else if (of x).2 = 0 then run of most k (rise (found ++ (of x).1)) (done ++ [x]) else (found, done ++ [x], (of x).2)
theorem nxt_some {found done : List Int} {x : Int} (h : nxt found done = some x) (hr : found.Pairwise (· < ·)) : x ∈ found ∧ x ∉ done ∧ ∀ y, y ∈ found → y ∉ done → x ≤ y := by
  unfold nxt at h
  obtain ⟨h1, p1, p2, h2, h3⟩ := List.find?_eq_some_iff_append.1 h
  refine ⟨by rw [h2]; simp, by simpa using h1, fun y hy hyd => ?_⟩
  rw [h2] at hy hr
  rcases List.mem_append.1 hy with hy | hy
  · have := h3 y hy
    simp at this
    exact absurd this hyd
  · rcases List.mem_cons.1 hy with e | hy
    · omega
    · have := (List.pairwise_cons.1 (List.pairwise_append.1 hr).2.1).1 y hy
      omega
theorem nxt_none {found done : List Int} (h : nxt found done = none) : ∀ y ∈ found, y ∈ done := fun y hy => by
  unfold nxt at h
  have := List.find?_eq_none.1 h y hy
  simpa using this
/-- It is told by those that wait. -/
theorem nxt_of {found done q : List Int} (hr : found.Pairwise (· < ·)) (hq : ∀ x, x ∈ q ↔ x ∈ found ∧ x ∉ done) (hh : IsHeap q) : nxt found done = q.head? := by
  cases e : nxt found done with
  | none =>
    cases q with
    | nil => rfl
    | cons y t =>
      have := (hq y).1 (by simp)
      exact absurd (nxt_none e y this.1) this.2
  | some x =>
    obtain ⟨h1, h2, h3⟩ := nxt_some e hr
    have hx := (hq x).2 ⟨h1, h2⟩
    cases q with
    | nil => simp at hx
    | cons y t =>
      have hy := (hq y).1 (by simp)
      have h4 := h3 y hy.1 hy.2
      obtain ⟨i, hi, e2⟩ := List.mem_iff_getElem.1 hx
      have h5 := hh.least i hi
      have e3 : (y :: t).getD i 0 = x := by rw [← e2, List.getD_eq_getElem?_getD, List.getElem?_eq_getElem hi]; rfl
      have e4 : (y :: t).getD 0 0 = y := rfl
      rw [e3, e4] at h5
      simp only [List.head?_cons, Option.some.injEq]
      omega

theorem addKeys (acc : List Int) : ∀ L : List Int, (L ++ acc).Nodup → (acc.map (Lit.int .i64)).foldl Maps.addKey (L.map (Lit.int .i64)) = (L ++ acc).map (Lit.int .i64) := by
  induction acc with
  | nil => intro L _; simp
  | cons x t ih =>
    intro L h
    have hx : x ∉ L := fun e => by
      have := (List.nodup_append.1 h).2.2 x e x (by simp)
      exact this rfl
    have e : Maps.addKey (L.map (Lit.int .i64)) (.int .i64 x) = (L ++ [x]).map (Lit.int .i64) := by
      unfold Maps.addKey
      rw [if_neg]
      · simp
      · rw [List.any_eq_true]
        rintro ⟨y, hy, e⟩
        obtain ⟨v, hv, rfl⟩ := List.mem_map.1 hy
        simp [Lit.sameKey] at e
        exact hx (e ▸ hv)
    simp only [List.map_cons, List.foldl_cons]
    rw [e, ih (L ++ [x]) (by simpa using h)]
    simp
theorem setD_size (acc : List Int) (h : acc.Nodup) : Maps.size (setD acc) = acc.length := by
  unfold setD
  rw [Maps.size_setOf _ _ (by intro y hy; obtain ⟨v, _, rfl⟩ := List.mem_map.1 hy; trivial)]
  have := addKeys acc [] (by simpa using h)
  simp only [List.map_nil, List.nil_append] at this
  rw [this]; simp
/-- How many entries a map has. -/
def mapN (w : World) (b : Nat) : Nat := match w.heap[b]? with | some (.map es _) => es.size | _ => 0
theorem mapN_of {w : World} {b n : Nat} {acc : List Int} (h : w.ownsMap Try.prog 3 (unitElem (H := Unit)) b n (setD acc)) (hn : acc.Nodup) : mapN w b = acc.length := by
  rw [← setD_size acc hn]
  obtain ⟨es, cl, h1, F, _, hD⟩ := h
  rw [hD]
  simp only [mapN, h1, Maps.size, length_sorted]
  simp
end Go.Proofs.Ytkdehhmmcchgfaa
