/- Sums, least and most where infinities stand among whole numbers. -/
import Derived.Test.YtggjcfmoebghjabWhM
namespace Go.Proofs.Ytggjcfmoebghjab
open Go.RowKit

theorem inf_l (y : Nat) (h : y % 9223372036854775808 < 9218868437227405312) : sumB 18442240474082181120 y = some 18442240474082181120 := by
  obtain ⟨m, p, e, _⟩ := read_num y h
  unfold sumB Ieee.Format.add
  rw [e, show Ieee.double.read 18442240474082181120 = .infinity true by decide]
  show some (Ieee.double.word true Ieee.double.infRung) = _
  decide
theorem inf_r (y : Nat) (h : y % 9223372036854775808 < 9218868437227405312) : sumB y 9218868437227405312 = some 9218868437227405312 := by
  obtain ⟨m, p, e, _⟩ := read_num y h
  unfold sumB Ieee.Format.add
  rw [e, show Ieee.double.read 9218868437227405312 = .infinity false by decide]
  show some (Ieee.double.word false Ieee.double.infRung) = _
  decide
theorem fold_down (f : Nat → Int) (k : Nat) (h : ∀ i, i < k → (f i).natAbs < 1000000000000000) : (mapl f k).foldl addO (some 18442240474082181120) = some 18442240474082181120 := by
  induction k with
  | zero => rfl
  | succ k ih =>
    rw [mapl_succ, List.foldl_append, ih fun i hi => h i (by omega)]
    exact inf_l _ (fl_fin _ (h k (by omega)))
theorem sum_down (f : Nat → Int) (k : Nat) (h : ∀ i, i < k → (f i).natAbs < 1000000000000000) : sumO (18442240474082181120 :: mapl f k) = some 18442240474082181120 := by
  unfold sumO
  rw [List.foldl_cons, show addO (some 0) 18442240474082181120 = some 18442240474082181120 by decide +kernel]
  exact fold_down f k h
theorem sum_snoc (l : List Nat) (y : Nat) : sumO (l ++ [y]) = addO (sumO l) y := by unfold sumO; rw [List.foldl_append]; rfl
theorem sum_both (f : Nat → Int) (k : Nat) (h : ∀ i, i < k → (f i).natAbs < 1000000000000000) : sumO (18442240474082181120 :: (mapl f k ++ [9218868437227405312])) = none := by
  rw [← List.cons_append, sum_snoc, sum_down f k h]
  decide +kernel
theorem sum_up (f : Nat → Int) (B k : Nat) (h : ∀ i, i < k → (f i).natAbs ≤ B) (hB : k * B < 1000000000000000) (hB2 : B < 1000000000000000) : sumO (mapl f k ++ [9218868437227405312]) = some 9218868437227405312 := by
  rw [sum_snoc, sum_mapl f B k h hB hB2]
  exact inf_r _ (fl_fin _ (by have := sumI_bound f B k h; omega))
theorem sum_nan (l : List Nat) : sumO (l ++ [9221120237041090561]) = none := by
  rw [sum_snoc]
  cases e : sumO l with
  | none => rfl
  | some s => exact sumB_nan_r _ _ (by decide)
theorem sum_nan' (y : Nat) (l : List Nat) : sumO (y :: (l ++ [9221120237041090561])) = none := by rw [← List.cons_append]; exact sum_nan _
theorem lo_fold (f : Nat → Int) (k : Nat) (h : ∀ i, i < k → (f i).natAbs < 1000000000000000) : (mapl f k).foldl (fun m x => if codeN x < codeN m then x else m) 18442240474082181120 = 18442240474082181120 := by
  induction k with
  | zero => rfl
  | succ k ih =>
    rw [mapl_succ, List.foldl_append, ih fun i hi => h i (by omega), List.foldl_cons, List.foldl_nil]
    rw [if_neg]
    have := (fin_inf _ (fl_lt _ (h k (by omega))).1 (fl_fin _ (h k (by omega)))).2
    omega
theorem lo_down (f : Nat → Int) (k : Nat) (h : ∀ i, i < k → (f i).natAbs < 1000000000000000) : lo (18442240474082181120 :: mapl f k) = 18442240474082181120 := by
  unfold lo
  rw [List.foldl_cons, if_pos (by decide)]
  exact lo_fold f k h
theorem lo_both (f : Nat → Int) (k : Nat) (h : ∀ i, i < k → (f i).natAbs < 1000000000000000) : lo (18442240474082181120 :: (mapl f k ++ [9218868437227405312])) = 18442240474082181120 := by
  have e := lo_down f k h
  unfold lo at e ⊢
  rw [← List.cons_append, List.foldl_append, e, List.foldl_cons, List.foldl_nil, if_neg (by decide)]
theorem hi_fold (f : Nat → Int) (k : Nat) (h : ∀ i, i < k → (f i).natAbs < 1000000000000000) (m : Nat) (hm : codeN m < codeN 9218868437227405312) : codeN ((mapl f k).foldl (fun m x => if codeN m < codeN x then x else m) m) < codeN 9218868437227405312 := by
  induction k with
  | zero => exact hm
  | succ k ih =>
    have a := ih fun i hi => h i (by omega)
    rw [mapl_succ, List.foldl_append, List.foldl_cons, List.foldl_nil]
    split
    · exact (fin_inf _ (fl_lt _ (h k (by omega))).1 (fl_fin _ (h k (by omega)))).1
    · exact a
theorem hi_up (f : Nat → Int) (k : Nat) (h : ∀ i, i < k → (f i).natAbs < 1000000000000000) : hi (mapl f k ++ [9218868437227405312]) = 9218868437227405312 := by
  unfold hi
  rw [List.foldl_append, List.foldl_cons, List.foldl_nil, if_pos (hi_fold f k h _ (by decide))]
theorem hi_both (f : Nat → Int) (k : Nat) (h : ∀ i, i < k → (f i).natAbs < 1000000000000000) : hi (18442240474082181120 :: (mapl f k ++ [9218868437227405312])) = 9218868437227405312 := by
  unfold hi
  rw [List.foldl_cons, List.foldl_append, List.foldl_cons, List.foldl_nil, if_pos]
  rw [if_neg (by decide)]
  exact hi_fold f k h _ (by decide)
theorem any_snoc (l : List Nat) (y : Nat) (hl : l.any nanB = false) (hy : nanB y = false) : (l ++ [y]).any nanB = false := by rw [List.any_append, hl]; simp [hy]
theorem any_cons (l : List Nat) (y : Nat) (hl : l.any nanB = false) (hy : nanB y = false) : (y :: l).any nanB = false := by rw [List.any_cons, hl, hy]; rfl
theorem any_nan (l : List Nat) : (l ++ [9221120237041090561]).any nanB = true := by rw [List.any_append]; simp [show nanB 9221120237041090561 = true by decide]
theorem any_nan' (y : Nat) (l : List Nat) : (y :: (l ++ [9221120237041090561])).any nanB = true := by rw [← List.cons_append]; exact any_nan _
theorem least_nan {l : List Nat} (h : l.any nanB = true) : least l = 9221120237041090561 := by unfold least; rw [if_pos h]
theorem most_nan {l : List Nat} (h : l.any nanB = true) : most l = 9221120237041090561 := by unfold most; rw [if_pos h]
theorem least_num {l : List Nat} (h : l.any nanB = false) : least l = lo l := by unfold least; rw [h]; rfl
theorem most_num {l : List Nat} (h : l.any nanB = false) : most l = hi l := by unfold most; rw [h]; rfl
theorem one_none {o : Option Nat} (h : o = none) : one o = 9221120237041090561 := by rw [h]; rfl
end Go.Proofs.Ytggjcfmoebghjab
