/- Whole numbers as words: their bits, cut to whole ones, told as integers. -/
import Derived.Test.YticflknfkaoejaaDoorSumF
namespace Go.Proofs.YticflknfkaoejaaDoor
open Go.RowKit

/-- The rung of a whole number below 2^53. -/
def wr (q : Nat) : Nat := if q = 0 then 0 else (q.log2 + 1022) * 4503599627370496 + q * 2 ^ (52 - q.log2)

theorem wr_facts (q : Nat) (h0 : q ≠ 0) (h : q < 9007199254740992) : q.log2 ≤ 52 ∧ 4503599627370496 ≤ q * 2 ^ (52 - q.log2) ∧ q * 2 ^ (52 - q.log2) < 9007199254740992 := by
  have hl : q.log2 ≤ 52 := by have := (Nat.log2_lt h0 (k := 53)).2 h; omega
  have a1 : 2 ^ q.log2 ≤ q := (Nat.le_log2 h0).1 (Nat.le_refl _)
  have a2 : q < 2 ^ (q.log2 + 1) := (Nat.log2_lt h0).1 (Nat.lt_succ_self _)
  refine ⟨hl, ?_, ?_⟩
  · have := Nat.mul_le_mul_right (2 ^ (52 - q.log2)) a1
    rw [← Nat.pow_add, show q.log2 + (52 - q.log2) = 52 by omega] at this
    exact this
  · have := Nat.mul_lt_mul_of_pos_right a2 (Nat.two_pow_pos (52 - q.log2))
    rw [← Nat.pow_add, show q.log2 + 1 + (52 - q.log2) = 53 by omega] at this
    exact this
theorem sz_wr (q : Nat) (h : q < 9007199254740992) (K : Nat) (hK : K = 1074) : sz (wr q) = q * 2 ^ K := by
  by_cases h0 : q = 0
  · subst h0; rw [Nat.zero_mul]; rfl
  · obtain ⟨hl, f1, f2⟩ := wr_facts q h0 h
    have e : wr q = (q.log2 + 1022) * 4503599627370496 + q * 2 ^ (52 - q.log2) := by unfold wr; rw [if_neg h0]
    obtain ⟨f, hf⟩ : ∃ f, q * 2 ^ (52 - q.log2) = 4503599627370496 + f := ⟨q * 2 ^ (52 - q.log2) - 4503599627370496, by omega⟩
    have hf' : f < 4503599627370496 := by omega
    have e1 : wr q % 4503599627370496 = f := by rw [e, hf]; omega
    have e2 : wr q / 4503599627370496 = q.log2 + 1023 := by rw [e, hf]; omega
    unfold sz
    rw [if_neg (by omega), e1, e2, ← hf, show q.log2 + 1023 - 1 = q.log2 + 1022 by omega, Nat.mul_assoc, ← Nat.pow_add, show 52 - q.log2 + (q.log2 + 1022) = K by omega]
theorem wr_lt (q : Nat) (h : q < 9007199254740992) : wr q < 4845873199050653696 := by
  by_cases h0 : q = 0
  · subst h0; decide
  · obtain ⟨hl, f1, f2⟩ := wr_facts q h0 h
    unfold wr; rw [if_neg h0]; omega
theorem nearest_whole (neg : Bool) (q : Nat) (h : q < 9007199254740992) : Ieee.double.nearest neg q 0 = Ieee.double.word neg (wr q) := by
  by_cases h0 : q = 0
  · subst h0
    unfold Ieee.Format.nearest wr
    rw [if_pos rfl, if_pos rfl]
  · obtain ⟨hl, f1, f2⟩ := wr_facts q h0 h
    unfold Ieee.Format.nearest
    rw [if_neg h0]
    simp only [lp, bin, infR, show Ieee.double.fractionBits = 52 from rfl]
    have m1 : max (0 + (q.log2 : Int) - ((52 : Nat) : Int)) (-1074) = (q.log2 : Int) - 52 := by omega
    rw [m1]
    have e2 : ((0 : Int) - ((q.log2 : Int) - 52)).toNat = 52 - q.log2 := by omega
    have e3 : (((q.log2 : Int) - 52) - 0).toNat = 0 := by omega
    have e4 : (((q.log2 : Int) - 52) - -1074).toNat = q.log2 + 1022 := by omega
    have c1 := cut_exact neg (q * 2 ^ (52 - q.log2)) 0 (by omega)
    simp only [Nat.pow_zero, Nat.mul_one] at c1
    rw [e2, e3, e4, Nat.shiftLeft_eq, c1]
    have e5 : (q.log2 + 1022) * 4503599627370496 + q * 2 ^ (52 - q.log2) = wr q := by unfold wr; rw [if_neg h0]
    rw [e5, Nat.min_eq_left (by have := wr_lt q h; omega)]

/-- The bits of a whole number. -/
def wb (neg : Bool) (q : Nat) : Nat := if neg then 9223372036854775808 + wr q else wr q
theorem wb_word (neg : Bool) (q : Nat) : Ieee.double.word neg (wr q) = wb neg q := by unfold Ieee.Format.word wb; rw [sigW]
theorem wb_facts (neg : Bool) (q : Nat) (h : q < 9007199254740992) : wb neg q < 18446744073709551616 ∧ nanB (wb neg q) = false ∧ wb neg q % 9223372036854775808 = wr q ∧ sgn (wb neg q) = neg := by
  have := wr_lt q h
  have h1 : wb neg q < 18446744073709551616 := by unfold wb; split <;> omega
  have h2 : wb neg q % 9223372036854775808 = wr q := by unfold wb; split <;> omega
  refine ⟨h1, ?_, h2, ?_⟩
  · simp only [nanB, decide_eq_false_iff_not, Nat.not_lt]; rw [h2]; omega
  · rw [sgn_eq _ h1]
    cases neg
    · unfold wb; simp; omega
    · unfold wb; simp

theorem cut_zero (neg : Bool) (q d : Nat) : Ieee.Toward.zero.cut neg (q * 2 ^ d) d = q := by
  have hp := Nat.two_pow_pos d
  unfold Ieee.Toward.cut
  by_cases h0 : q = 0
  · subst h0; simp
  · have hl : d ≤ (q * 2 ^ d).log2 := (Nat.le_log2 (by have := Nat.mul_pos (Nat.pos_of_ne_zero h0) hp; omega)).2 (Nat.le_mul_of_pos_left _ (Nat.pos_of_ne_zero h0))
    simp only [Nat.min_eq_left (show d ≤ (q * 2 ^ d).log2 + 2 by omega), Nat.shiftLeft_eq, Nat.one_mul, Nat.mul_div_cancel q hp]
    rfl
/-- The place of a word's last digit. -/
theorem read_place (b : Nat) (h : b % 9223372036854775808 < 9218868437227405312) (m p : Nat) (e : Ieee.double.read b = .number (sgn b) m (-1074 + (p : Int))) : p = 0 ∨ p = b % 9223372036854775808 / 4503599627370496 - 1 := by
  unfold Ieee.Format.read at e
  simp only [lp, bin, infR, sigW] at e
  split at e
  · injection e with _ _ e3; omega
  · injection e with _ _ e3; omega
/-- Cut towards nought: a whole number is itself. -/
theorem whole_integral (neg : Bool) (q : Nat) (h : q < 9007199254740992) : (Ieee.double.read (wb neg q)).integral .zero = .number neg q 0 := by
  obtain ⟨h1, h2, h3, h4⟩ := wb_facts neg q h
  have hl := wr_lt q h
  obtain ⟨m, p, e, k, _⟩ := read_num (wb neg q) (by rw [h3]; omega)
  obtain ⟨K, hK⟩ : ∃ K : Nat, K = 1074 := ⟨_, rfl⟩
  rw [h3, sz_wr q h K hK] at k
  have hp : p ≤ K := by
    have := read_place (wb neg q) (by rw [h3]; omega) m p e
    rw [h3] at this
    omega
  have hm : m = q * 2 ^ (K - p) := by
    have e1 : q * 2 ^ K = q * 2 ^ (K - p) * 2 ^ p := by rw [Nat.mul_assoc, ← Nat.pow_add, show K - p + p = K by omega]
    rw [e1] at k
    exact Nat.eq_of_mul_eq_mul_right (Nat.two_pow_pos p) k
  rw [e, h4]
  show Ieee.Datum.number neg (Ieee.Toward.zero.cut neg (m <<< (-1074 + (p : Int)).toNat) (-(-1074 + (p : Int))).toNat) 0 = _
  have e2 : (-1074 + (p : Int)).toNat = 0 := by omega
  have e3 : (-(-1074 + (p : Int))).toNat = K - p := by omega
  rw [e2, e3, Nat.shiftLeft_zero, hm, cut_zero]
end Go.Proofs.YticflknfkaoejaaDoor
