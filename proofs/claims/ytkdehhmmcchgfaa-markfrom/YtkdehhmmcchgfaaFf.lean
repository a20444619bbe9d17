/- MarkFrom: the document's walk ends. -/
import Derived.Test.YtkdehhmmcchgfaaFe
namespace Go.Proofs.Ytkdehhmmcchgfaa
open Go.RowKit

/-- The walk ends within so many rounds as there are numbers, with a fault or without. -/
theorem run_end (of : OfF) (most : Int) (U : List Int) (he : ∀ x, (of x).2 ≠ -1) (hU : ∀ x ∈ U, ∀ y ∈ (of x).1, y ∈ U) :
    ∀ (k : Nat) (found done : List Int), found.Pairwise (· < ·) → (∀ x ∈ found, x ∈ U) → done.Nodup → (∀ x ∈ done, x ∈ found) → (∀ x ∈ found, x ≠ 0) → U.length < k + done.length →
    ∃ F d e, run of most k found done = (F, d, e) ∧ e ≠ -1 ∧ F.Pairwise (· < ·) ∧ (∀ x ∈ F, x ∈ U) ∧ (∀ x ∈ d, x ∈ F) ∧ d.Nodup
  | 0, found, done, hr, hsU, hd, hdf, _, hk => by
    have h1 := nodup_len done found hd hdf
    have h2 := nodup_len found U (lt_nodup hr) hsU
    omega
  | k + 1, found, done, hr, hsU, hd, hdf, h0, hk => by
    unfold run
    cases e : nxt found done with
    | none => exact ⟨found, done, 0, rfl, by omega, hr, hsU, hdf, hd⟩
    | some x =>
      obtain ⟨hx, hxd, _⟩ := nxt_some e hr
      have hd2 : (done ++ [x]).Nodup := by
        rw [List.nodup_append]
        exact ⟨hd, by simp, fun y hy z hz e2 => by simp at hz; subst hz; subst e2; exact hxd hy⟩
      have hdf2 : ∀ y ∈ done ++ [x], y ∈ found := fun y hy => by
        rcases List.mem_append.1 hy with h | h
        · exact hdf y h
        · simp at h; rw [h]; exact hx
      simp only
      by_cases hm : most < found.length
      · rw [if_pos hm]
        exact ⟨found, done, 5, rfl, by omega, hr, hsU, hdf, hd⟩
      · rw [if_neg hm]
        by_cases hx0 : (of x).2 = 0
        · rw [if_pos hx0]
          have sub : ∀ y ∈ found, y ∈ rise (found ++ (of x).1) := fun y hy => (rise_mem _ y).2 ⟨List.mem_append.2 (.inl hy), h0 y hy⟩
          exact run_end of most U he hU k (rise (found ++ (of x).1)) (done ++ [x]) (rise_lt _) (fun y hy => by
              rcases List.mem_append.1 ((rise_mem _ y).1 hy).1 with h | h
              · exact hsU y h
              · exact hU x (hsU x hx) y h) hd2 (fun y hy => sub y (hdf2 y hy)) (fun y hy => ((rise_mem _ y).1 hy).2) (by simp only [List.length_append, List.length_singleton]; omega)
        · rw [if_neg hx0]
          exact ⟨found, done ++ [x], (of x).2, rfl, he x, hr, hsU, hdf2, hd2⟩

section
variable {len : Nat} {bad : Int} {L : Nat → Nat} {Z : Nat → List Int}
theorem webF_err (x : Int) : (webF bad len L Z x).2 = 0 ∨ (webF bad len L Z x).2 = 3 := by
  unfold webF
  split
  · exact .inr rfl
  · exact .inl rfl
/-- MarkFrom's own walk, from a list of numbers below 41. -/
theorem web_run (most : Int) (roots : List Int) (h : ∀ x ∈ roots, x ∈ wU) : ∃ F d e, run (webF bad len L Z) most 300 (rise roots) [] = (F, d, e) ∧ e ≠ -1 ∧ F.Pairwise (· < ·) ∧ (∀ x ∈ F, x ∈ wU) ∧ (∀ x ∈ d, x ∈ F) ∧ d.Nodup :=
  run_end _ most wU (fun x => by rcases webF_err (bad := bad) (len := len) (L := L) (Z := Z) x with e | e <;> rw [e] <;> omega) (fun x _ y hy => by
      unfold webF at hy
      split at hy
      · simp at hy; exact (wU_mem _).2 (by omega)
      · exact webOf_mem _ _ _ _ _ hy) 300 (rise roots) [] (rise_lt _) (fun x hx => h x ((rise_mem _ x).1 hx).1) (by simp) (fun x hx => by simp at hx) (fun x hx => ((rise_mem _ x).1 hx).2) (by simp [wU])
end

/-- The law's search for the next number: the first t looked at. -/
theorem nxt_skip {found done : List Int} (t : Nat) (h : ∀ i, i < t → found.getD i 0 ∈ done) (ht : t ≤ found.length) : nxt found done = nxt (found.drop t) done := by
  induction t generalizing found with
  | zero => rfl
  | succ t ih =>
    cases found with
    | nil => simp at ht
    | cons x l =>
      have h0 : x ∈ done := by simpa using h 0 (by omega)
      have h1 : nxt (x :: l) done = nxt l done := by unfold nxt; simp [h0]
      rw [h1, ih (fun i hi => by simpa using h (i + 1) (by omega)) (by simpa using ht)]
      rfl
theorem nxt_at {found done : List Int} (t : Nat) (h : ∀ i, i < t → found.getD i 0 ∈ done) (ht : t < found.length) (hn : found.getD t 0 ∉ done) : nxt found done = some (found.getD t 0) := by
  rw [nxt_skip t h (by omega)]
  have e : found.drop t = found.getD t 0 :: found.drop (t + 1) := by
    rw [List.drop_eq_getElem_cons ht]
    simp [ht]
  rw [e]
  unfold nxt
  rw [List.find?_cons_of_pos (by simpa using hn)]
theorem nxt_no {found done : List Int} (h : ∀ i, i < found.length → found.getD i 0 ∈ done) : nxt found done = none := by
  rw [nxt_skip found.length h (by omega)]
  simp [nxt]
end Go.Proofs.Ytkdehhmmcchgfaa
