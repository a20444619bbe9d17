/- Bits of words: the highest one set, turned, taken. -/
import Derived.Laws.BitsAllLaws
import Derived.Test.YticflknfkaoejaaDoorFl
namespace Go.Proofs.YticflknfkaoejaaDoor
open Go.RowKit

theorem xor_top_lo (b : Nat) (h : b < 9223372036854775808) : b ^^^ 9223372036854775808 = b + 9223372036854775808 := by
  rw [Nat.add_comm]
  apply Nat.eq_of_testBit_eq
  intro i
  rw [Nat.testBit_xor, show (9223372036854775808 : Nat) = 2 ^ 63 from rfl, Nat.testBit_two_pow]
  rcases Nat.lt_trichotomy i 63 with hi | hi | hi
  · rw [Nat.testBit_two_pow_add_gt hi, decide_eq_false (by omega), Bool.xor_false]
  · subst hi
    rw [Nat.testBit_two_pow_add_eq]; simp
  · have h1 : b < 2 ^ i := Nat.lt_of_lt_of_le (show b < 2 ^ 63 by omega) (Nat.pow_le_pow_right (by omega) (by omega))
    have h2 : 2 ^ 63 + b < 2 ^ i := Nat.lt_of_lt_of_le (show 2 ^ 63 + b < 2 ^ 64 by omega) (Nat.pow_le_pow_right (by omega) hi)
    rw [Nat.testBit_lt_two_pow h1, Nat.testBit_lt_two_pow h2, decide_eq_false (by omega)]; rfl
theorem xor_top_hi (b : Nat) (h : 9223372036854775808 ≤ b) (h2 : b < 18446744073709551616) : b ^^^ 9223372036854775808 = b - 9223372036854775808 := by
  have e := xor_top_lo (b - 9223372036854775808) (by omega)
  have e2 : b = (b - 9223372036854775808) ^^^ 9223372036854775808 := by rw [e]; omega
  conv => lhs; rw [e2]
  rw [Nat.xor_assoc, Nat.xor_self, Nat.xor_zero]
theorem xor_all (b : Nat) (h : b < 18446744073709551616) : 18446744073709551615 ^^^ b = 18446744073709551615 - b := by
  have e := congrArg BitVec.toNat (BitVec.xor_allOnes (x := BitVec.ofNat 64 b))
  rw [BitVec.toNat_xor, BitVec.toNat_not, BitVec.toNat_allOnes, BitVec.toNat_ofNat, Nat.mod_eq_of_lt h] at e
  rw [Nat.xor_comm]
  exact e
theorem and_bit (b : Nat) : b &&& 9223372036854775808 = if b.testBit 63 then 9223372036854775808 else 0 := by
  apply Nat.eq_of_testBit_eq
  intro i
  rw [Nat.testBit_and, show (9223372036854775808 : Nat) = 2 ^ 63 from rfl, Nat.testBit_two_pow]
  by_cases hi : 63 = i
  · subst hi
    by_cases hb : b.testBit 63 = true
    · rw [if_pos hb, Nat.testBit_two_pow, hb]; rfl
    · rw [if_neg hb, Nat.zero_testBit]; simpa using hb
  · rw [decide_eq_false hi, Bool.and_false]
    split
    · rw [Nat.testBit_two_pow, decide_eq_false hi]
    · rw [Nat.zero_testBit]
theorem and_top_lo (b : Nat) (h : b < 9223372036854775808) : b &&& 9223372036854775808 = 0 := by
  rw [and_bit, Nat.testBit_lt_two_pow (i := 63) h]; rfl
theorem and_top_hi (b : Nat) (h : 9223372036854775808 ≤ b) (h2 : b < 18446744073709551616) : b &&& 9223372036854775808 = 9223372036854775808 := by
  have e : b.testBit 63 = true := by
    have := Nat.testBit_two_pow_add_eq (b - 9223372036854775808) 63
    rw [show 2 ^ 63 + (b - 9223372036854775808) = b by omega] at this
    rw [this, Nat.testBit_lt_two_pow (by omega)]; rfl
  rw [and_bit, e]; rfl
theorem and_low (b : Nat) : b &&& 9223372036854775807 = b % 9223372036854775808 := Nat.and_two_pow_sub_one_eq_mod b 63

theorem ixor_top (b : Nat) (h : b < 18446744073709551616) : bits .xor .u64 (b : Int) 9223372036854775808 = if b < 9223372036854775808 then (b : Int) + 9223372036854775808 else (b : Int) - 9223372036854775808 := by
  rw [show (9223372036854775808 : Int) = ((9223372036854775808 : Nat) : Int) from rfl, u64_xor_nat b _ h (by decide)]
  split
  · rename_i h1; rw [xor_top_lo b h1]; rfl
  · rename_i h1; rw [xor_top_hi b (by omega) h]; omega
theorem ixor_all (b : Nat) (h : b < 18446744073709551616) : bits .xor .u64 IntKind.u64.max (b : Int) = 18446744073709551615 - (b : Int) := by
  rw [show IntKind.u64.max = ((18446744073709551615 : Nat) : Int) from rfl, u64_xor_nat _ b (by decide) h, xor_all b h]; omega
theorem iand_top (b : Nat) (h : b < 18446744073709551616) : bits .and .u64 (b : Int) 9223372036854775808 = if b < 9223372036854775808 then 0 else 9223372036854775808 := by
  rw [show (9223372036854775808 : Int) = ((9223372036854775808 : Nat) : Int) from rfl, u64_and_nat b _ h (by decide)]
  split
  · rename_i h1; rw [and_top_lo b h1]; rfl
  · rename_i h1; rw [and_top_hi b (by omega) h]
end Go.Proofs.YticflknfkaoejaaDoor
