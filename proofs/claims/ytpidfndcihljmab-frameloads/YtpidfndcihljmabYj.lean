/- Masks; texts held against each other; what a fresh Framer tells. -/
import Derived.Test.YtpidfndcihljmabYi
namespace Go.Proofs.Ytpidfndcihljmab
open Go.RowKit

theorem still_tr {a b c : World} (h : Still a b) (k : Still b c) : Still a c := h.trans' k fun _ x => x.elim
/-- The lowest bits of a number. -/
def msk (z : Int) (m : Nat) : Nat := (BitVec.ofInt 64 z).toNat &&& m
theorem mask_i64 (z : Int) (m : Nat) (hm : m < 4294967296) : bits .and .i64 z (m : Int) = (msk z m : Int) := by
  have hle : (BitVec.ofInt 64 z).toNat &&& m ≤ m := Nat.and_le_right
  have h2 : (BitVec.ofInt 64 (m : Int)).toNat = m := by
    rw [BitVec.ofInt_natCast, BitVec.toNat_ofNat]; exact Nat.mod_eq_of_lt (by omega)
  show IntKind.i64.wrap ((BitVec.ofInt 64 z &&& BitVec.ofInt 64 (m : Int)).toNat : Int) = _
  rw [BitVec.toNat_and, h2, IntKind.wrap_i64]
  simp only [msk]
  omega
theorem msk_le (z : Int) (m : Nat) : msk z m ≤ m := Nat.and_le_right
theorem bs_eq (a b : List UInt8) : ((bs a).toList == (bs b).toList) = decide (a = b) := by
  rw [bs_list, bs_list]
  by_cases h : a = b
  · subst h; simp
  · rw [decide_eq_false h]; simpa using h
theorem feed_fresh (m : List UInt8) : feedR [] false 0 m = (m, false, 0) := by simp [feedR]
theorem nl_app (a b : List UInt8) (h : ∀ x ∈ a, x ≠ 10) : nl (a ++ 10 :: b) = a.length :=
  nl_eq _ _ (fun j hj => by
    have hx : (a ++ 10 :: b).getD j 0 = a[j] := by simp [List.getD_eq_getElem?_getD, List.getElem?_append_left hj, hj]
    rw [hx]
    exact h _ (List.getElem_mem _)) (by simp) (by simp)
/-- A line without the byte 13 right ahead of its end. -/
def cut13 (a : List UInt8) : List UInt8 := if 0 < a.length ∧ a.getD (a.length - 1) 0 = 13 then a.take (a.length - 1) else a
theorem cut13_len (a : List UInt8) : (cut13 a).length ≤ a.length ∧ a.length ≤ (cut13 a).length + 1 := by
  unfold cut13
  split
  · rw [List.length_take]; omega
  · omega
theorem eol_app (a b : List UInt8) (h : ∀ x ∈ a, x ≠ 10) : eol (a ++ 10 :: b) = (cut13 a).length ∧ (a ++ 10 :: b).take (eol (a ++ 10 :: b)) = cut13 a := by
  have hn := nl_app a b h
  unfold eol cut13
  rw [hn]
  by_cases hc : 0 < a.length ∧ a.getD (a.length - 1) 0 = 13
  · have h2 : (a ++ 10 :: b).getD (a.length - 1) 0 = a.getD (a.length - 1) 0 := by
      rw [List.getD_eq_getElem?_getD, List.getD_eq_getElem?_getD, List.getElem?_append_left (by omega)]
    rw [h2, if_pos hc, if_pos hc, List.take_append_of_le_length (by omega), List.length_take]
    exact ⟨by omega, rfl⟩
  · have h2 : ¬ (0 < a.length ∧ (a ++ 10 :: b).getD (a.length - 1) 0 = 13) := fun h3 => hc ⟨h3.1, by
      rw [List.getD_eq_getElem?_getD, List.getElem?_append_left (by omega), ← List.getD_eq_getElem?_getD] at h3
      exact h3.2⟩
    rw [if_neg h2, if_neg hc]
    exact ⟨rfl, by simp⟩
/-- A line whose end is there. -/
theorem lineR_app (a b : List UInt8) (lv : Bool) (h : ∀ x ∈ a, x ≠ 10) : lineR (a ++ 10 :: b) lv = (if (cut13 a).length ≤ 256 then (cut13 a, true, 0) else ([], false, 2), b, lv) := by
  have hn := nl_app a b h
  obtain ⟨e1, e2⟩ := eol_app a b h
  have hd : (a ++ 10 :: b).drop (nl (a ++ 10 :: b) + 1) = b := by
    rw [hn]; simp
  unfold lineR
  rw [if_pos (by rw [hn]; simp), e2, e1, hd]
  by_cases hc : (cut13 a).length ≤ 256
  · rw [if_pos hc, if_pos hc]
  · rw [if_neg hc, if_neg hc]
/-- A line whose end isn't there. -/
theorem lineR_none (a : List UInt8) (lv : Bool) (h : ∀ x ∈ a, x ≠ 10) : lineR a lv = if 258 ≤ a.length then (([], false, 2), [], true) else (([], false, 0), a, lv) := by
  unfold lineR
  rw [if_neg]
  intro hc
  have := nl_at a hc
  refine h _ ?_ this
  rw [List.getD_eq_getElem?_getD, List.getElem?_eq_getElem hc]
  exact List.getElem_mem _
/-- Bytes are without a line feed, or part at the first. -/
theorem nl_split (l : List UInt8) : (∀ x ∈ l, x ≠ 10) ∨ ∃ a b, l = a ++ 10 :: b ∧ (∀ x ∈ a, x ≠ 10) ∧ nl l = a.length := by
  by_cases h : nl l < l.length
  · refine .inr ⟨l.take (nl l), l.drop (nl l + 1), ?_, ?_, by rw [List.length_take]; omega⟩
    · have h2 := nl_at l h
      rw [List.getD_eq_getElem?_getD, List.getElem?_eq_getElem h] at h2
      conv => lhs; rw [← List.take_append_drop (nl l) l, List.drop_eq_getElem_cons h]
      rw [show l[nl l] = 10 from h2]
    · intro x hx
      obtain ⟨i, hi, rfl⟩ := List.mem_iff_getElem.1 hx
      rw [List.length_take] at hi
      have := nl_no l i (by omega)
      rw [List.getD_eq_getElem?_getD, List.getElem?_eq_getElem (by omega)] at this
      simpa using this
  · refine .inl fun x hx => ?_
    obtain ⟨i, hi, rfl⟩ := List.mem_iff_getElem.1 hx
    have := nl_no l i (by omega)
    rw [List.getD_eq_getElem?_getD, List.getElem?_eq_getElem hi] at this
    exact this
end Go.Proofs.Ytpidfndcihljmab
