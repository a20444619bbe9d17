/- Rows of whole numbers: their sum. -/
import Derived.Test.YtggjcfmoebghjabSc
namespace Go.Proofs.Ytggjcfmoebghjab
open Go.RowKit

/-- The first k whole numbers, as words. -/
def mapl (f : Nat → Int) (k : Nat) : List Nat := (List.range k).map fun i => fl (f i)
theorem mapl_succ (f : Nat → Int) (k : Nat) : mapl f (k + 1) = mapl f k ++ [fl (f k)] := by simp [mapl, List.range_succ]
theorem mapl_len (f : Nat → Int) (k : Nat) : (mapl f k).length = k := by simp [mapl]
theorem mapl_take (f : Nat → Int) (k n : Nat) (h : k ≤ n) : (mapl f n).take k = mapl f k := by
  unfold mapl; rw [← List.map_take, List.take_range, Nat.min_eq_left h]
/-- The sum of the first k. -/
def sumI (f : Nat → Int) : Nat → Int
  | 0 => 0
  | k + 1 => sumI f k + f k
theorem sumI_bound (f : Nat → Int) (B : Nat) (k : Nat) (h : ∀ i, i < k → (f i).natAbs ≤ B) : (sumI f k).natAbs ≤ k * B := by
  induction k with
  | zero => simp [sumI]
  | succ k ih =>
    have a := ih fun i hi => h i (by omega)
    have b := h k (by omega)
    rw [sumI, Nat.succ_mul]
    omega
theorem sum_mapl (f : Nat → Int) (B : Nat) (k : Nat) (h : ∀ i, i < k → (f i).natAbs ≤ B) (hB : k * B < 1000000000000000) (hB2 : B < 1000000000000000) : sumO (mapl f k) = some (fl (sumI f k)) := by
  induction k with
  | zero => rfl
  | succ k ih =>
    rw [Nat.succ_mul] at hB
    have a := ih (fun i hi => h i (by omega)) (by omega)
    have b := sumI_bound f B k fun i hi => h i (by omega)
    have c := h k (by omega)
    rw [mapl_succ]
    unfold sumO at a ⊢
    rw [List.foldl_append, a]
    exact sum_whole _ _ (by omega) (by omega)
theorem sumI_congr (f g : Nat → Int) (k : Nat) (h : ∀ i, i < k → f i = g i) : sumI f k = sumI g k := by
  induction k with
  | zero => rfl
  | succ k ih => rw [sumI, sumI, ih fun i hi => h i (by omega), h k (by omega)]
theorem fl_lt (n : Int) (h : n.natAbs < 1000000000000000) : fl n < 18446744073709551616 ∧ nanB (fl n) = false := by
  rw [fl_small n h]
  have := wb_facts (decide (n < 0)) n.natAbs (by omega)
  exact ⟨this.1, this.2.1⟩

theorem one_of {o : Option Nat} {x : Nat} (h : o = some x) : one o = x := by rw [h]; rfl
/-- The lowest bits of a number. -/
def msk (z : Int) (m : Nat) : Nat := (BitVec.ofInt 64 z).toNat &&& m
theorem msk_le (z : Int) (m : Nat) : msk z m ≤ m := Nat.and_le_right
theorem mask_i64 (z : Int) (m : Nat) (hm : m < 4294967296) : bits .and .i64 z (m : Int) = (msk z m : Int) := by
  have hle := msk_le z m
  have h2 : (BitVec.ofInt 64 (m : Int)).toNat = m := by
    rw [BitVec.ofInt_natCast, BitVec.toNat_ofNat]; exact Nat.mod_eq_of_lt (by omega)
  show IntKind.i64.wrap ((BitVec.ofInt 64 z &&& BitVec.ofInt 64 (m : Int)).toNat : Int) = _
  rw [BitVec.toNat_and, h2, IntKind.wrap_i64]
  unfold msk at *
  omega
end Go.Proofs.Ytggjcfmoebghjab
