/- The mark as a word: its upper half says that it is one, its lower half how many. -/
import Derived.Test.YtamghkabclbkgaaBring
import Derived.Laws.BitsAllLaws
namespace Go.Proofs.Ytamghkabclbkgaa
open Go.RowKit

theorem mk_bits (n j : Nat) (hn : n < 4294967296) : (8243105120875708416 + n).testBit j = if j < 32 then n.testBit j else (1919247471 : Nat).testBit (j - 32) := by
  have := Nat.testBit_two_pow_mul_add (i := 32) 1919247471 (b := n) (by simpa using hn) j
  rw [show 2 ^ 32 * 1919247471 + n = 8243105120875708416 + n by omega] at this
  exact this
theorem mk_and (n : Nat) (hn : n < 4294967296) : (8243105120875708416 + n) &&& 4294967295 = n := by
  have := Nat.and_two_pow_sub_one_eq_mod (8243105120875708416 + n) 32
  rw [show (2 : Nat) ^ 32 - 1 = 4294967295 by decide] at this
  rw [this]
  omega
theorem mk_high (n : Nat) (hn : n < 4294967296) : (8243105120875708416 + n) &&& 18446744069414584320 = 8243105120875708416 := by
  apply Nat.eq_of_testBit_eq
  intro j
  have h1 : (18446744069414584320 : Nat).testBit j = (decide (j ≥ 32) && (4294967295 : Nat).testBit (j - 32)) := by
    have := Nat.testBit_two_pow_mul (i := 32) (a := 4294967295) (j := j)
    rwa [show 2 ^ 32 * 4294967295 = 18446744069414584320 by omega] at this
  have h2 := mk_bits 0 j (by omega)
  rw [Nat.add_zero] at h2
  rw [Nat.testBit_and, mk_bits n j hn, h1, h2]
  by_cases hj : j < 32
  · have : ¬ j ≥ 32 := by omega
    simp [hj, this]
  · have h3 : j ≥ 32 := by omega
    have h4 : (4294967295 : Nat).testBit (j - 32) = decide (j - 32 < 32) := Nat.testBit_two_pow_sub_one 32 (j - 32)
    simp only [hj, if_false, h3, decide_true, Bool.true_and, h4]
    by_cases h5 : j - 32 < 32
    · simp [h5]
    · have : (1919247471 : Nat).testBit (j - 32) = false := Nat.testBit_lt_two_pow (by
        have : 2 ^ 32 ≤ 2 ^ (j - 32) := Nat.pow_le_pow_right (by omega) (by omega)
        omega)
      simp [this]
theorem mk_or (n : Nat) (hn : n < 4294967296) : 8243105120875708416 ||| n = 8243105120875708416 + n := by
  apply Nat.eq_of_testBit_eq
  intro j
  have h2 := mk_bits 0 j (by omega)
  rw [Nat.add_zero] at h2
  rw [Nat.testBit_or, mk_bits n j hn, h2]
  by_cases hj : j < 32
  · simp [hj]
  · have : n.testBit j = false := Nat.testBit_lt_two_pow (by
      have : 2 ^ 32 ≤ 2 ^ j := Nat.pow_le_pow_right (by omega) (by omega)
      omega)
    simp [hj, this]

/-- A mark for n writes. -/
def marked (n : Nat) : Int := 8243105120875708416 + n

theorem b_or (n : Nat) (hn : n < 4294967296) : bits .or .u64 8243105120875708416 (n : Int) = marked n := by
  have := u64_or_nat 8243105120875708416 n (by omega) (by omega)
  rw [mk_or n hn] at this
  unfold marked
  rw [show ((8243105120875708416 : Nat) : Int) = 8243105120875708416 by rfl] at this
  rw [this]; omega
theorem b_and (n : Nat) (hn : n < 4294967296) : bits .and .u64 (marked n) 4294967295 = (n : Int) := by
  have := u64_and_nat (8243105120875708416 + n) 4294967295 (by omega) (by omega)
  rw [mk_and n hn] at this
  unfold marked
  rw [show ((4294967295 : Nat) : Int) = 4294967295 by rfl, show ((8243105120875708416 + n : Nat) : Int) = 8243105120875708416 + (n : Int) by omega] at this
  exact this
theorem b_high (n : Nat) (hn : n < 4294967296) : bits .andNot .u64 (marked n) 4294967295 = 8243105120875708416 := by
  have := u64_andNot_nat (8243105120875708416 + n) 4294967295 (by omega) (by omega)
  rw [show 18446744073709551615 - 4294967295 = 18446744069414584320 by omega, mk_high n hn] at this
  unfold marked
  rw [show ((4294967295 : Nat) : Int) = 4294967295 by rfl, show ((8243105120875708416 + n : Nat) : Int) = 8243105120875708416 + (n : Int) by omega] at this
  exact this
theorem b_zero : bits .andNot .u64 0 4294967295 = 0 := by
  have := u64_andNot_nat 0 4294967295 (by omega) (by omega)
  rw [Nat.zero_and] at this
  exact this
end Go.Proofs.Ytamghkabclbkgaa
