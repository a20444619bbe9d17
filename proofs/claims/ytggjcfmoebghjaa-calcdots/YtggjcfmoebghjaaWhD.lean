/- Rows of whole numbers: the sum of their products. -/
import Derived.Test.YtggjcfmoebghjaaDot
import Derived.Test.YtggjcfmoebghjaaWhS
namespace Go.Proofs.Ytggjcfmoebghjaa
open Go.RowKit

theorem dot_mapl_eq (f g : Nat → Nat) (B : Nat) (k : Nat) (hf : ∀ i, i < k → f i ≤ B) (hg : ∀ i, i < k → g i ≤ B) (hB : k * (B * B) < 1000000000000000) (hB2 : B * B < 1000000000000000) (hB3 : B < 1000000000000000) :
    dotO (mapl (fun i => f i) k) (mapl (fun i => g i) k) = some (fl (sumI (fun i => (f i * g i : Nat)) k)) := by
  induction k with
  | zero => rfl
  | succ k ih =>
    rw [Nat.succ_mul] at hB
    have a := ih (fun i hi => hf i (by omega)) (fun i hi => hg i (by omega)) (by omega)
    have c : f k * g k ≤ B * B := Nat.mul_le_mul (hf k (by omega)) (hg k (by omega))
    have b := sumI_bound (fun i => ((f i * g i : Nat) : Int)) (B * B) k fun i hi => by
      rw [Int.natAbs_natCast]; exact Nat.mul_le_mul (hf i (by omega)) (hg i (by omega))
    rw [mapl_succ, mapl_succ]
    unfold dotO at a ⊢
    rw [List.zip_append (by rw [mapl_len, mapl_len]), List.foldl_append, a]
    show dotS (some _) (fl (f k), fl (g k)) = _
    unfold dotS
    simp only [Option.bind_some]
    rw [mul_whole (f k) (g k) (by have := hf k (by omega); omega) (by have := hg k (by omega); omega)]
    simp only [Option.bind_some]
    exact sum_whole _ _ (by omega) (by rw [Int.natAbs_natCast]; omega)
theorem dot_mapl (f g : Nat → Nat) (B : Nat) (n m : Nat) (hf : ∀ i, i < n → f i ≤ B) (hg : ∀ i, i < m → g i ≤ B) (hB : min n m * (B * B) < 1000000000000000) (hB2 : B * B < 1000000000000000) (hB3 : B < 1000000000000000) :
    dotO (mapl (fun i => f i) n) (mapl (fun i => g i) m) = some (fl (sumI (fun i => (f i * g i : Nat)) (min n m))) := by
  rw [← dot_end _ _ (min n m) (by rw [mapl_len, mapl_len]), mapl_take _ _ _ (Nat.min_le_left _ _), mapl_take _ _ _ (Nat.min_le_right _ _)]
  exact dot_mapl_eq f g B _ (fun i hi => hf i (by omega)) (fun i hi => hg i (by omega)) hB hB2 hB3
end Go.Proofs.Ytggjcfmoebghjaa
