/- Mixing can be turned back; awake. -/
import Derived.Test.YtlignichjgggcaaHash3
namespace Go.Proofs.Ytlignichjgggcaa
open Go.RowKit

/-- The way back of a product. -/
def mulI (x : Nat) : Nat := x * 14982988110149298331 % 18446744073709551616
def backN (m : Nat) : Nat := foldN (mulI (foldN (mulI (foldN m))))
theorem fold_fold (x : Nat) (h : x < 18446744073709551616) : foldN (foldN x) = x := by
  have e : ∀ y, y / 4294967296 = y >>> 32 := fun y => by rw [Nat.shiftRight_eq_div_pow]
  unfold foldN
  rw [e, e, Nat.shiftRight_xor_distrib, ← Nat.shiftRight_add, show x >>> (32 + 32) = 0 by rw [Nat.shiftRight_eq_div_pow]; omega, Nat.xor_zero, Nat.xor_assoc, Nat.xor_self, Nat.xor_zero]
theorem mul_back (x : Nat) (h : x < 18446744073709551616) : mulI (mulC x) = x := by
  unfold mulI mulC
  omega
theorem back_mix (x : Nat) (h : x < 18446744073709551616) : backN (mixN x) = x := by
  have h1 := fold_lt x h
  have h2 := mulC_lt (foldN x)
  have h3 := fold_lt _ h2
  have h4 := mulC_lt (foldN (mulC (foldN x)))
  unfold backN mixN
  rw [fold_fold _ h4, mul_back _ h3, fold_fold _ h2, mul_back _ h1, fold_fold _ h]
theorem mix_same (x y : Nat) (hx : x < 18446744073709551616) (hy : y < 18446744073709551616) : mixN x = mixN y ↔ x = y :=
  ⟨fun h => by rw [← back_mix x hx, ← back_mix y hy, h], fun h => by rw [h]⟩

theorem awake_ok (w : World) : Calls Try.prog 10 #[] w fun e w' => e = .returned (.bool true) ∧ w' = w := by
  have K1 := hide (mix_ok 0 (by decide) w)
  have K2 := hide (prefix_ok 9223372036854775808 1 (by decide) w)
  have K3 := hide (of_ok 0 ⟨#[]⟩ (by decide) (by decide) w)
  rw [show mixN 0 = 0 by decide +kernel] at K1
  rw [show preN 9223372036854775808 1 = 1 by decide +kernel] at K2
  have h3 : ¬ ofN 0 ⟨#[]⟩ = 0 := by decide +kernel
  generalize ofN 0 ⟨#[]⟩ = m at *
  have h4 : ((m : Int) != 0) = true := by simp; omega
  clear h3
  go_enter Try.func10, Try.ntmps10
  go_wp2_with fail
  refine (unhide K1).mono ?_
  rintro e w' ⟨rfl, h⟩; rw [h]; clear h w'
  go_wp2_with fail
  refine (unhide K2).mono ?_
  rintro e w' ⟨rfl, h⟩; rw [h]; clear h w'
  go_wp2_with fail
  refine (unhide K3).mono ?_
  rintro e w' ⟨rfl, h⟩; rw [h]; clear h w'
  go_wp2
  go_ret
  exact ⟨rfl, rfl⟩
end Go.Proofs.Ytlignichjgggcaa
