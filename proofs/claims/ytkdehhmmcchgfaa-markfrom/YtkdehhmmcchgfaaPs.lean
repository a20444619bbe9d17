/- Lists in order, each number once. -/
import Derived.Test.YtkdehhmmcchgfaaAw
import Derived.Lib.SlicesCompact
namespace Go.Proofs.Ytkdehhmmcchgfaa
open Go.RowKit

theorem get_le {d : Array Int} (h : d.toList.Pairwise (· ≤ ·)) {i j : Nat} (hij : i ≤ j) (hj : j < d.size) : d[i]! ≤ d[j]! := by
  rw [getElem!_pos d i (by omega), getElem!_pos d j hj]
  rcases Nat.eq_or_lt_of_le hij with rfl | hlt
  · exact Int.le_refl _
  · have := List.pairwise_iff_getElem.1 h i j (by simpa using by omega) (by simpa using hj) hlt
    simpa using this
theorem keeps_lt {d : Array Int} (h : d.toList.Pairwise (· ≤ ·)) {m : Nat} (hm : m < d.size) (h0 : 0 < m) (hk : Lib.keeps d m = true) : d[m - 1]! < d[m]! := by
  have h1 := get_le h (show m - 1 ≤ m by omega) hm
  have h2 : d[m]! ≠ d[m - 1]! := fun e => by rw [Lib.keeps_neg h0 e] at hk; cases hk
  omega
theorem upto_rise {d : Array Int} (h : d.toList.Pairwise (· ≤ ·)) : ∀ m, m ≤ d.size → (Lib.compactUpTo d m).Pairwise (· < ·) ∧ ∀ x ∈ Lib.compactUpTo d m, 0 < m ∧ x ≤ d[m - 1]! ∧ ∃ j, j < m ∧ d[j]! = x
  | 0, _ => by simp [Lib.compactUpTo]
  | m + 1, hm => by
    obtain ⟨h1, h2⟩ := upto_rise h m (by omega)
    rw [Lib.compactUpTo_succ]
    have step : ∀ x ∈ Lib.compactUpTo d m, 0 < m + 1 ∧ x ≤ d[m + 1 - 1]! ∧ ∃ j, j < m + 1 ∧ d[j]! = x := fun x hx => by
      obtain ⟨a, b, j, c, e⟩ := h2 x hx
      have := get_le h (show m - 1 ≤ m by omega) (by omega)
      exact ⟨by omega, by simpa using by omega, j, by omega, e⟩
    cases hk : Lib.keeps d m with
    | false => simpa [hk] using And.intro h1 step
    | true =>
      simp only [if_true]
      refine ⟨?_, fun x hx => ?_⟩
      · rw [List.pairwise_append]
        refine ⟨h1, by simp, fun x hx y hy => ?_⟩
        simp at hy
        subst hy
        obtain ⟨a, b, _⟩ := h2 x hx
        have := keeps_lt h (by omega) a hk
        omega
      · rcases List.mem_append.1 hx with hx | hx
        · exact step x hx
        · simp at hx
          subst hx
          exact ⟨by omega, by simp, m, by omega, rfl⟩
theorem upto_mem {d : Array Int} (h : d.toList.Pairwise (· ≤ ·)) : ∀ m, m ≤ d.size → ∀ j, j < m → d[j]! ∈ Lib.compactUpTo d m
  | 0, _, j, hj => by omega
  | m + 1, hm, j, hj => by
    rw [Lib.compactUpTo_succ]
    by_cases e : j < m
    · exact List.mem_append.2 (.inl (upto_mem h m (by omega) j e))
    · obtain rfl : j = m := by omega
      cases hk : Lib.keeps d j with
      | true => simp
      | false =>
        have h0 : 0 < j := by
          rcases Nat.eq_zero_or_pos j with rfl | h0
          · rw [Lib.keeps_lt_one d 0 (by omega)] at hk; cases hk
          · exact h0
        have e2 : d[j]! = d[j - 1]! := by
          by_cases e : d[j]! = d[j - 1]!
          · exact e
          · rw [Lib.keeps_pos e] at hk; cases hk
        rw [e2]
        exact List.mem_append.2 (.inl (upto_mem h j (by omega) (j - 1) (by omega)))
/-- The numbers of a list, rising, each once. -/
def asc (l : List Int) : List Int := Lib.compact (srt l)
theorem asc_lt (l : List Int) : (asc l).Pairwise (· < ·) := (upto_rise (d := (srt l).toArray) (by simpa using srt_le l) _ (by simp)).1
theorem asc_mem (l : List Int) (x : Int) : x ∈ asc l ↔ x ∈ l := by
  rw [← srt_mem l x]
  have hs : (srt l).toArray.toList.Pairwise (· ≤ ·) := by simpa using srt_le l
  constructor
  · intro h
    obtain ⟨_, _, j, hj, e⟩ := (upto_rise hs _ (by simp)).2 x h
    rw [← e, getElem!_pos _ j (by simpa using hj)]
    simp
  · intro h
    obtain ⟨j, hj, e⟩ := List.mem_iff_getElem.1 h
    have := upto_mem hs (srt l).length (by simp) j hj
    rw [getElem!_pos _ j (by simpa using hj)] at this
    have e2 : (srt l).toArray[j]'(by simpa using hj) = x := by simpa using e
    rw [e2] at this
    exact this
theorem asc_eq {l m : List Int} (hm : m.Pairwise (· < ·)) (h : ∀ x, x ∈ m ↔ x ∈ l) : m = asc l := rise_unique hm (asc_lt l) fun x => by rw [h, asc_mem]
theorem asc_len (l : List Int) : (asc l).length ≤ l.length := nodup_len _ _ (lt_nodup (asc_lt l)) fun x hx => (asc_mem l x).1 hx

/-- A number put in at k. -/
def ins (l : List Int) (k : Nat) (x : Int) : List Int := l.take k ++ x :: l.drop k
theorem ins_len (l : List Int) (k : Nat) (x : Int) : (ins l k x).length = l.length + 1 := by
  unfold ins
  simp
  omega
theorem ins_end (l : List Int) (x : Int) : ins l l.length x = l ++ [x] := by simp [ins]
theorem ins_get_lt (l : List Int) (k j : Nat) (x : Int) (hk : k ≤ l.length) (hj : j < k) : (ins l k x).getD j 0 = l.getD j 0 := by
  unfold ins
  rw [List.getD_eq_getElem?_getD, List.getElem?_append_left (by simp; omega), List.getElem?_take, if_pos hj, ← List.getD_eq_getElem?_getD]
theorem ins_set (l : List Int) (k : Nat) (x y : Int) (hk : k ≤ l.length) : (ins l k x).set k y = ins l k y := by
  unfold ins
  rw [List.set_append_right _ _ (by simp; omega)]
  simp [Nat.min_eq_left hk]
theorem ins_down (l : List Int) (k : Nat) (x : Int) (h0 : 0 < k) (hk : k ≤ l.length) : (ins l k x).set k (l.getD (k - 1) 0) = ins l (k - 1) (l.getD (k - 1) 0) := by
  rw [ins_set l k x _ hk]
  obtain ⟨j, rfl⟩ : ∃ j, k = j + 1 := ⟨k - 1, by omega⟩
  simp only [Nat.add_sub_cancel]
  unfold ins
  rw [take_one l (show j < l.length by omega), List.append_assoc]
  have : l.drop j = l.getD j 0 :: l.drop (j + 1) := by
    rw [List.drop_eq_getElem_cons (show j < l.length by omega)]
    simp [show j < l.length by omega]
  rw [this]; rfl
theorem ins_mem (l : List Int) (k : Nat) (x y : Int) : y ∈ ins l k x ↔ y ∈ l ∨ y = x := by
  unfold ins
  rw [List.mem_append, List.mem_cons]
  have : y ∈ l ↔ y ∈ l.take k ∨ y ∈ l.drop k := by
    rw [← List.mem_append, List.take_append_drop]
  rw [this]
  constructor
  · rintro (h | h | h)
    · exact .inl (.inl h)
    · exact .inr h
    · exact .inl (.inr h)
  · rintro ((h | h) | h)
    · exact .inl h
    · exact .inr (.inr h)
    · exact .inr (.inl h)
theorem ins_lt (l : List Int) (k : Nat) (x : Int) (hl : l.Pairwise (· < ·)) (hk : k ≤ l.length) (hx : x ∉ l) (hi : ∀ j, k ≤ j → j < l.length → x < l.getD j 0) (lo : k = 0 ∨ ¬ x < l.getD (k - 1) 0) : (ins l k x).Pairwise (· < ·) := by
  unfold ins
  have h1 : ∀ y ∈ l.take k, y < x := fun y hy => by
    obtain ⟨j, hj, e⟩ := List.mem_iff_getElem.1 hy
    simp at hj
    have e2 : l.getD j 0 = y := by rw [← e]; simp [show j < l.length by omega]
    have h2 := rise_get hl (show j ≤ k - 1 by omega) (by omega)
    have h3 : y ≠ x := fun e3 => hx (e3 ▸ List.mem_of_mem_take hy)
    rcases lo with rfl | h
    · omega
    · omega
  have h2 : ∀ y ∈ l.drop k, x < y := fun y hy => by
    obtain ⟨j, hj, e⟩ := List.mem_iff_getElem.1 hy
    simp at hj
    have e2 : l.getD (k + j) 0 = y := by rw [← e]; simp [show k + j < l.length by omega]
    rw [← e2]
    exact hi _ (by omega) (by omega)
  rw [List.pairwise_append]
  refine ⟨hl.sublist (List.take_sublist _ _), List.pairwise_cons.2 ⟨h2, hl.sublist (List.drop_sublist _ _)⟩, fun y hy z hz => ?_⟩
  rcases List.mem_cons.1 hz with rfl | hz
  · exact h1 y hy
  · have := h1 y hy; have := h2 z hz; omega
theorem Dat.set {W wr : World} {base g cap : Nat} {l : List Int} (h : Dat W base g cap l wr) (i : Nat) (x : Int) : Dat W base g cap (l.set i x) (wr.setCell ⟨g, i, none⟩ (iv x)) :=
  ⟨by rw [List.length_set]; exact h.own.set i x, h.fr.setCell (.inl rfl) _⟩
end Go.Proofs.Ytkdehhmmcchgfaa
