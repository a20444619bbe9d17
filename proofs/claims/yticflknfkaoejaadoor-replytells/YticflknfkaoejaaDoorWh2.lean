/- Numbers of ten to the fifteenth and more; whole numbers below it. -/
import Derived.Test.YticflknfkaoejaaDoorWh
namespace Go.Proofs.YticflknfkaoejaaDoor
open Go.RowKit

theorem r15 : wr 1000000000000000 = 4831355200913801216 := by decide +kernel
theorem wr_small (q : Nat) (h : q < 1000000000000000) : wr q < 4831355200913801216 := by
  rw [← r15]
  refine (sz_lt_iff _ _).1 ?_
  obtain ⟨K, hK⟩ : ∃ K : Nat, K = 1074 := ⟨_, rfl⟩
  rw [sz_wr q (by omega) K hK, sz_wr 1000000000000000 (by omega) K hK]
  exact Nat.mul_lt_mul_of_pos_right h (Nat.two_pow_pos K)
theorem wr_big (q : Nat) (h : 1000000000000000 ≤ q) (h2 : q < 9007199254740992) : 4831355200913801216 ≤ wr q := by
  rw [← r15]
  rcases Nat.lt_or_ge (wr q) (wr 1000000000000000) with k | k
  · have := (sz_lt_iff _ _).2 k
    obtain ⟨K, hK⟩ : ∃ K : Nat, K = 1074 := ⟨_, rfl⟩
    rw [sz_wr q h2 K hK, sz_wr 1000000000000000 (by omega) K hK] at this
    have := Nat.lt_of_mul_lt_mul_right this
    omega
  · exact k

/-- The bits of a whole number's float64. -/
abbrev fl (n : Int) : Nat := Ieee.double.nearest (decide (n < 0)) n.natAbs 0
theorem fl_small (n : Int) (h : n.natAbs < 1000000000000000) : fl n = wb (decide (n < 0)) n.natAbs := by
  rw [fl, nearest_whole _ _ (by omega), wb_word]
theorem fl_big (n : Int) (h1 : 1000000000000000 ≤ n.natAbs) (h2 : n.natAbs ≤ 9223372036854775808) : fl n < 18446744073709551616 ∧ 4831355200913801216 ≤ fl n % 9223372036854775808 ∧ fl n % 9223372036854775808 < 9218868437227405312 := by
  have key : ∃ r, 4831355200913801216 ≤ r ∧ r < 9218868437227405312 ∧ fl n = Ieee.double.word (decide (n < 0)) r := by
    rcases Nat.lt_or_ge n.natAbs 9007199254740992 with h | h
    · exact ⟨wr n.natAbs, wr_big _ h1 h, by have := wr_lt _ h; omega, nearest_whole _ _ h⟩
    · show ∃ r, 4831355200913801216 ≤ r ∧ r < 9218868437227405312 ∧ Ieee.double.nearest (decide (n < 0)) n.natAbs 0 = Ieee.double.word (decide (n < 0)) r
      generalize n.natAbs = q at *
      have h0 : q ≠ 0 := by omega
      have k1 : 53 ≤ q.log2 := (Nat.le_log2 h0).2 h
      have k2 : q.log2 < 64 := (Nat.log2_lt h0).2 (by omega)
      have a1 : 2 ^ q.log2 ≤ q := (Nat.le_log2 h0).1 (Nat.le_refl _)
      have a2 : q < 2 ^ (q.log2 + 1) := (Nat.log2_lt h0).1 (Nat.lt_succ_self _)
      obtain ⟨d, hd⟩ : ∃ d, q.log2 = 52 + d := ⟨q.log2 - 52, by omega⟩
      have c : 4503599627370496 ≤ Ieee.Toward.even.cut (decide (n < 0)) q d ∧ Ieee.Toward.even.cut (decide (n < 0)) q d ≤ 9007199254740992 := by
        unfold Ieee.Toward.cut
        simp only [Nat.min_eq_left (show d ≤ q.log2 + 2 by omega), Nat.shiftLeft_eq, Nat.one_mul]
        have b1 : 4503599627370496 ≤ q / 2 ^ d := (Nat.le_div_iff_mul_le (Nat.two_pow_pos d)).2 (by rw [hd, Nat.pow_add] at a1; exact a1)
        have b2 : q / 2 ^ d < 9007199254740992 := (Nat.div_lt_iff_lt_mul (Nat.two_pow_pos d)).2 (by rw [hd, show 52 + d + 1 = 53 + d by omega, Nat.pow_add] at a2; exact a2)
        have b3 : ∀ x : Bool, x.toNat ≤ 1 := by decide
        have b4 := b3 (2 ^ d < 2 * (q % 2 ^ d) || (2 ^ d == 2 * (q % 2 ^ d) && q / 2 ^ d % 2 == 1))
        omega
      refine ⟨(d + 1074) * 4503599627370496 + Ieee.Toward.even.cut (decide (n < 0)) q d, by omega, by omega, ?_⟩
      unfold Ieee.Format.nearest
      rw [if_neg h0]
      simp only [lp, bin, infR, show Ieee.double.fractionBits = 52 from rfl]
      have m1 : max (0 + (q.log2 : Int) - ((52 : Nat) : Int)) (-1074) = (d : Int) := by omega
      rw [m1]
      have e2 : ((0 : Int) - (d : Int)).toNat = 0 := by omega
      have e3 : ((d : Int) - 0).toNat = d := by omega
      have e4 : ((d : Int) - -1074).toNat = d + 1074 := by omega
      rw [e2, e3, e4, Nat.shiftLeft_zero, Nat.min_eq_left (by omega)]
  obtain ⟨r, r1, r2, e⟩ := key
  rw [e]
  unfold Ieee.Format.word
  rw [sigW]
  split <;> omega
end Go.Proofs.YticflknfkaoejaaDoor
