/- Sums of numbers: which comes first does not matter; nought added; a number taken from itself. -/
import Derived.Test.YticflknfkaoejaaDoorAdd
namespace Go.Proofs.YticflknfkaoejaaDoor
open Go.RowKit

theorem sum_comm (d e : Ieee.Datum) : d.sum e = e.sum d := by
  cases d <;> cases e <;> simp only [Ieee.Datum.sum]
  · rename_i s m i t n j
    rw [Int.min_comm j i, Int.add_comm, Bool.and_comm]
  · rename_i s t
    by_cases h : s = t
    · subst h; rfl
    · rw [if_neg h, if_neg (fun k => h k.symm)]
theorem sumB_comm (x y : Nat) : sumB x y = sumB y x := by
  unfold sumB Ieee.Format.add
  rw [sum_comm]

theorem log2_of {n k : Nat} (h1 : 2 ^ k ≤ n) (h2 : n < 2 ^ (k + 1)) : n.log2 = k := by
  have h0 : n ≠ 0 := by have := Nat.two_pow_pos k; omega
  have a1 := (Nat.le_log2 h0 (k := k)).2 h1
  have a2 := (Nat.log2_lt h0 (k := k + 1)).2 h2
  omega

/-- Cutting off digits that are nought. -/
theorem cut_exact (neg : Bool) (m d : Nat) (hm : 0 < m) : Ieee.Toward.even.cut neg (m * 2 ^ d) d = m := by
  have hp := Nat.two_pow_pos d
  have hl : d ≤ (m * 2 ^ d).log2 := (Nat.le_log2 (by have := Nat.mul_pos hm hp; omega)).2 (Nat.le_mul_of_pos_left _ hm)
  unfold Ieee.Toward.cut
  simp only [Nat.min_eq_left (show d ≤ (m * 2 ^ d).log2 + 2 by omega), Nat.shiftLeft_eq, Nat.one_mul, Nat.mul_div_cancel m hp, Nat.mul_mod_left, Nat.mul_zero]
  have : ¬ 2 ^ d < 0 := by omega
  have h2 : (2 ^ d == 0) = false := by simp
  simp [h2]

/-- A word's size, counted in the least places, leads back to the word. -/
theorem nearest_sz (neg : Bool) (r : Nat) (h : r < 9218868437227405312) : Ieee.double.nearest neg (sz r) (-1074) = Ieee.double.word neg r := by
  by_cases h0 : r = 0
  · subst h0
    have e : sz 0 = 0 := rfl
    rw [e]; rfl
  · have hs : sz r ≠ 0 := fun e => h0 (sz_inj (e.trans (show (0 : Nat) = sz 0 from rfl)))
    unfold Ieee.Format.nearest
    rw [if_neg hs]
    simp only [lp, bin, infR, show Ieee.double.fractionBits = 52 from rfl]
    by_cases h1 : r < 4503599627370496
    · have e : sz r = r := by unfold sz; rw [if_pos h1]
      have hl : r.log2 < 52 := (Nat.log2_lt h0).2 h1
      rw [e]
      have m1 : max (-1074 + (r.log2 : Int) - ((52 : Nat) : Int)) (-1074) = -1074 := by omega
      rw [m1]
      have c1 := cut_exact neg r 0 (by omega)
      simp only [Nat.pow_zero, Nat.mul_one] at c1
      have e2 : ((-1074 : Int) - -1074).toNat = 0 := by decide
      rw [e2]
      simp only [Nat.shiftLeft_zero, c1, Nat.zero_mul, Nat.zero_add]
      rw [Nat.min_eq_left (by omega)]
    · obtain ⟨k, hk⟩ : ∃ k, r / 4503599627370496 = k + 1 := ⟨r / 4503599627370496 - 1, by omega⟩
      have e : sz r = (4503599627370496 + r % 4503599627370496) * 2 ^ k := by unfold sz; rw [if_neg h1, hk]; rfl
      have hl : (sz r).log2 = 52 + k := by
        apply log2_of
        · rw [e, Nat.pow_add]; exact Nat.mul_le_mul_right _ (by omega)
        · rw [e, show 52 + k + 1 = 53 + k by omega, Nat.pow_add]; exact Nat.mul_lt_mul_of_pos_right (by omega) (Nat.two_pow_pos k)
      have m1 : max (-1074 + ((sz r).log2 : Int) - ((52 : Nat) : Int)) (-1074) = -1074 + (k : Int) := by rw [hl]; omega
      rw [m1]
      have e2 : ((-1074 : Int) - (-1074 + (k : Int))).toNat = 0 := by omega
      have e3 : ((-1074 + (k : Int)) - -1074).toNat = k := by omega
      rw [e2, e3, Nat.shiftLeft_zero, e, cut_exact neg _ k (by omega)]
      have e4 : k * 4503599627370496 + (4503599627370496 + r % 4503599627370496) = r := by omega
      rw [e4, Nat.min_eq_left (by omega)]

theorem word_back (x : Nat) (hx : x < 18446744073709551616) : Ieee.double.word (sgn x) (x % 9223372036854775808) = x := by
  unfold Ieee.Format.word
  rw [sigW, sgn_eq x hx]
  by_cases h : x < 9223372036854775808
  · rw [if_neg (by simpa using h)]; omega
  · rw [if_pos (by simpa using h)]; omega

/-- Nought added to a number that is neither NaN nor nought. -/
theorem add_zero (x : Nat) (hx : x < 18446744073709551616) (hn : nanB x = false) : sumB x 0 = some (if x = 9223372036854775808 then 0 else x) := by
  simp only [nanB, decide_eq_false_iff_not, Nat.not_lt] at hn
  have r0 : Ieee.double.read 0 = .number false 0 (-1074) := by decide
  unfold sumB Ieee.Format.add
  rw [r0]
  rcases Nat.lt_or_eq_of_le hn with h1 | h1
  · obtain ⟨m, p, e, k, _⟩ := read_num x h1
    rw [e]
    simp only [Ieee.Datum.sum, Option.map_some]
    have m1 : min (-1074 + (p : Int)) (-1074) = -1074 := by omega
    rw [m1]
    have e2 : ((-1074 : Int) - -1074).toNat = 0 := by decide
    have e3 : ((-1074 + (p : Int)) - -1074).toNat = p := by omega
    have e4 : Ieee.signed false 0 0 = 0 := by decide
    rw [e2, e3, e4, Int.add_zero, Bool.and_false, val_signed x m p hx k]
    have hv : (val x).natAbs = sz (x % 9223372036854775808) := by unfold val; split <;> omega
    rw [hv]
    by_cases hz : val x = 0
    · rw [if_pos hz]
      rcases val_zero x hx hz with rfl | rfl
      · rfl
      · rfl
    · rw [if_neg hz]
      have hd : decide (val x < 0) = sgn x := by
        rw [sgn_eq x hx]
        refine decide_eq_decide.2 ?_
        unfold val at hz ⊢
        split at hz <;> split <;> omega
      have hne : x ≠ 9223372036854775808 := by rintro rfl; exact hz (by decide)
      rw [if_neg hne, hd]
      show some (Ieee.double.nearest _ _ _) = _
      rw [nearest_sz _ _ h1, word_back x hx]
  · have hne : x ≠ 9223372036854775808 := by rintro rfl; simp at h1
    rw [read_inf x h1, if_neg hne]
    show some (Ieee.double.word (sgn x) Ieee.double.infRung) = _
    rw [infR, ← h1, word_back x hx]

/-- A number taken from itself. -/
theorem add_neg (x : Nat) (hx : x < 18446744073709551616) (h : x % 9223372036854775808 < 9218868437227405312) : sumB x (negB x) = some 0 := by
  have hm : negB x % 9223372036854775808 = x % 9223372036854775808 := by unfold negB; split <;> omega
  have hs : sgn (negB x) = !sgn x := by
    rw [sgn_eq x hx, sgn_eq _ (negB_lt x hx)]
    unfold negB
    split
    · rename_i k; rw [decide_eq_true (by omega), decide_eq_false (by omega)]; rfl
    · rename_i k; rw [decide_eq_false (by omega), decide_eq_true (by omega)]; rfl
  have hr : Ieee.double.read (negB x) = (Ieee.double.read x).opposite := by
    unfold Ieee.Format.read
    simp only [lp, bin, infR, sigW]
    rw [hm, show (negB x / 9223372036854775808 % 2 == 1) = !(x / 9223372036854775808 % 2 == 1) from hs]
    split
    · rfl
    · rfl
  unfold sumB Ieee.Format.add
  rw [hr]
  obtain ⟨m, p, e, k, _⟩ := read_num x h
  rw [e]
  simp only [Ieee.Datum.opposite, Ieee.Datum.sum, Option.map_some]
  have hz : ∀ (s : Bool) (u : Nat), Ieee.signed s m u + Ieee.signed (!s) m u = 0 := by
    intro s u; cases s <;> simp [Ieee.signed] <;> omega
  rw [hz, if_pos rfl]
  have hb : (sgn x && !sgn x) = false := by cases sgn x <;> rfl
  rw [hb]
  rfl
theorem add_neg_inf (x : Nat) (hx : x < 18446744073709551616) (h : x % 9223372036854775808 = 9218868437227405312) : sumB x (negB x) = none := by
  rcases (show x = 9218868437227405312 ∨ x = 18442240474082181120 by omega) with rfl | rfl
  · decide +kernel
  · decide +kernel
theorem add_nan (x y : Nat) (h : nanB x = true) : sumB x y = none := by
  simp only [nanB, decide_eq_true_eq] at h
  obtain ⟨f, e⟩ := read_nan x h
  unfold sumB Ieee.Format.add
  rw [e]; rfl
end Go.Proofs.YticflknfkaoejaaDoor
