/- A list of numbers of which the least stands first. -/
import Derived.Test.YtkdehhmmcchgfaaBc
namespace Go.Proofs.Ytkdehhmmcchgfaa

/-- Two of a list change places. -/
def sw (l : List Int) (i j : Nat) : List Int := (l.set i (l.getD j 0)).set j (l.getD i 0)
theorem sw_len (l : List Int) (i j : Nat) : (sw l i j).length = l.length := by simp [sw]
theorem set_getD (l : List Int) (i k : Nat) (x : Int) (hi : i < l.length) : (l.set i x).getD k 0 = if k = i then x else l.getD k 0 := by
  simp only [List.getD_eq_getElem?_getD, List.getElem?_set]
  by_cases h : k = i
  · subst h; simp [hi]
  · rw [if_neg h, if_neg (fun e => h e.symm)]
theorem sw_get (l : List Int) (i j k : Nat) (hi : i < l.length) (hj : j < l.length) : (sw l i j).getD k 0 = if k = j then l.getD i 0 else if k = i then l.getD j 0 else l.getD k 0 := by
  unfold sw
  rw [set_getD _ _ _ _ (by simpa using hj), set_getD _ _ _ _ hi]
theorem sw_perm (l : List Int) (i j : Nat) (hi : i < l.length) (hj : j < l.length) : (sw l i j).Perm l := by
  unfold sw
  have e1 : l.getD i 0 = l[i] := by simp [hi]
  have e2 : l.getD j 0 = l[j] := by simp [hj]
  rw [e1, e2]
  exact List.set_set_perm hi hj

/-- Each stands not below the one above it. -/
def IsHeap (l : List Int) : Prop := ∀ i, 0 < i → i < l.length → l.getD ((i - 1) / 2) 0 ≤ l.getD i 0
theorem IsHeap.least {l : List Int} (h : IsHeap l) : ∀ i, i < l.length → l.getD 0 0 ≤ l.getD i 0 := by
  intro i
  induction i using Nat.strongRecOn with
  | ind i ih =>
    intro hi
    rcases Nat.eq_zero_or_pos i with rfl | h0
    · exact Int.le_refl _
    · have h1 := h i h0 hi
      have h2 := ih ((i - 1) / 2) (by omega) (by omega)
      omega
theorem IsHeap.nil : IsHeap [] := fun i _ h => by simp at h

/-- But for the one at i, which may stand below the one above it. -/
structure Up (l : List Int) (i : Nat) : Prop where
  lt : i < l.length
  rest : ∀ j, 0 < j → j < l.length → j ≠ i → l.getD ((j - 1) / 2) 0 ≤ l.getD j 0
  kids : ∀ j, 0 < j → j < l.length → (j - 1) / 2 = i → 0 < i → l.getD ((i - 1) / 2) 0 ≤ l.getD j 0
theorem Up.start {l : List Int} (h : IsHeap l) (x : Int) : Up (l ++ [x]) l.length := by
  have g : ∀ j, j < l.length → (l ++ [x]).getD j 0 = l.getD j 0 := fun j hj => by rw [List.getD_eq_getElem?_getD, List.getD_eq_getElem?_getD, List.getElem?_append_left hj]
  refine ⟨by simp, fun j h0 hj hne => ?_, fun j h0 hj he hi => ?_⟩
  · simp at hj
    rw [g j (by omega), g _ (by omega)]
    exact h j h0 (by omega)
  · simp at hj; omega
theorem Up.top {l : List Int} (h : Up l 0) : IsHeap l := fun j h0 hj => h.rest j h0 hj (by omega)
theorem Up.stop {l : List Int} {i : Nat} (h : Up l i) (hle : l.getD ((i - 1) / 2) 0 ≤ l.getD i 0) : IsHeap l := fun j h0 hj => by
  by_cases e : j = i
  · subst e; exact hle
  · exact h.rest j h0 hj e
theorem Up.step {l : List Int} {i : Nat} (h : Up l i) (h0 : 0 < i) (hlt : ¬ l.getD ((i - 1) / 2) 0 ≤ l.getD i 0) : Up (sw l ((i - 1) / 2) i) ((i - 1) / 2) := by
  have hi := h.lt
  have hp : (i - 1) / 2 < l.length := by omega
  have hne : (i - 1) / 2 ≠ i := by omega
  refine ⟨by rw [sw_len]; exact hp, fun j j0 hj hjp => ?_, fun j j0 hj hjp hpp => ?_⟩
  · rw [sw_len] at hj
    rw [sw_get _ _ _ _ hp hi, sw_get _ _ _ _ hp hi]
    by_cases e : j = i
    · subst e
      rw [if_pos rfl, if_neg hne, if_pos rfl]
      omega
    · rw [if_neg e, if_neg hjp]
      by_cases e2 : (j - 1) / 2 = i
      · rw [if_pos e2]; exact h.kids j j0 hj e2 h0
      · rw [if_neg e2]
        by_cases e3 : (j - 1) / 2 = (i - 1) / 2
        · rw [if_pos e3]
          have := h.rest j j0 hj e
          rw [e3] at this
          omega
        · rw [if_neg e3]; exact h.rest j j0 hj e
  · rw [sw_len] at hj
    rw [sw_get _ _ _ _ hp hi, sw_get _ _ _ _ hp hi]
    have q := h.rest ((i - 1) / 2) hpp hp hne
    rw [if_neg (by omega), if_neg (by omega)]
    by_cases e : j = i
    · rw [if_pos e]; exact q
    · rw [if_neg e, if_neg (by omega)]
      have := h.rest j j0 hj e
      rw [hjp] at this
      omega

/-- But for those under i, which may stand below it. -/
structure Dn (l : List Int) (i : Nat) : Prop where
  rest : ∀ j, 0 < j → j < l.length → (j - 1) / 2 ≠ i → l.getD ((j - 1) / 2) 0 ≤ l.getD j 0
  kids : ∀ j, 0 < j → j < l.length → (j - 1) / 2 = i → 0 < i → l.getD ((i - 1) / 2) 0 ≤ l.getD j 0
theorem Dn.start {l : List Int} (h : IsHeap l) (h0 : 0 < l.length) : Dn ((l.set 0 (l.getD (l.length - 1) 0)).take (l.length - 1)) 0 := by
  have g : ∀ j, 0 < j → j < l.length - 1 → ((l.set 0 (l.getD (l.length - 1) 0)).take (l.length - 1)).getD j 0 = l.getD j 0 := fun j j0 hj => by
    rw [List.getD_eq_getElem?_getD, List.getElem?_take, if_pos hj, ← List.getD_eq_getElem?_getD, set_getD _ _ _ _ h0, if_neg (by omega)]
  refine ⟨fun j j0 hj hne => ?_, fun j j0 hj he hi => absurd hi (by omega)⟩
  simp at hj
  rw [g j j0 (by omega), g _ (by omega) (by omega)]
  exact h j j0 (by omega)
/-- Where the least of the one at i and its two stands. -/
def Lst (l : List Int) (i m : Nat) : Prop := (m = i ∨ m = 2 * i + 1 ∨ m = 2 * i + 2) ∧ (m = i ∨ m < l.length) ∧ l.getD m 0 ≤ l.getD i 0 ∧ (2 * i + 1 < l.length → l.getD m 0 ≤ l.getD (2 * i + 1) 0) ∧ (2 * i + 2 < l.length → l.getD m 0 ≤ l.getD (2 * i + 2) 0)
theorem Dn.stop {l : List Int} {i : Nat} (h : Dn l i) (hl : Lst l i i) : IsHeap l := fun j j0 hj => by
  by_cases e : (j - 1) / 2 = i
  · rw [e]
    rcases (show j = 2 * i + 1 ∨ j = 2 * i + 2 by omega) with rfl | rfl
    · exact hl.2.2.2.1 hj
    · exact hl.2.2.2.2 hj
  · exact h.rest j j0 hj e
theorem Dn.step {l : List Int} {i m : Nat} (h : Dn l i) (hl : Lst l i m) (hne : m ≠ i) (hi : i < l.length) : Dn (sw l i m) m := by
  have hm : m < l.length := by rcases hl.2.1 with e | e; exact absurd e hne; exact e
  have hpm : (m - 1) / 2 = i := by have := hl.1; omega
  have hm0 : 0 < m := by have := hl.1; omega
  have him : i ≠ m := fun e => hne e.symm
  refine ⟨fun j j0 hj hjm => ?_, fun j j0 hj hjm hpp => ?_⟩
  · rw [sw_len] at hj
    rw [sw_get _ _ _ _ hi hm, sw_get _ _ _ _ hi hm]
    rw [if_neg hjm]
    by_cases e1 : j = m
    · subst e1
      rw [if_pos hpm, if_pos rfl]
      exact hl.2.2.1
    · rw [if_neg e1]
      by_cases e2 : (j - 1) / 2 = i
      · rw [if_pos e2, if_neg (by omega)]
        rcases (show j = 2 * i + 1 ∨ j = 2 * i + 2 by omega) with rfl | rfl
        · exact hl.2.2.2.1 hj
        · exact hl.2.2.2.2 hj
      · rw [if_neg e2]
        by_cases e3 : j = i
        · rw [if_pos e3]
          subst e3
          exact h.kids m hm0 hm hpm (by omega)
        · rw [if_neg e3]; exact h.rest j j0 hj e2
  · rw [sw_len] at hj
    rw [sw_get _ _ _ _ hi hm, sw_get _ _ _ _ hi hm, hpm, if_neg him, if_pos rfl, if_neg (by omega), if_neg (by omega)]
    have := h.rest j j0 hj (by omega)
    rw [hjm] at this
    exact this
end Go.Proofs.Ytkdehhmmcchgfaa
