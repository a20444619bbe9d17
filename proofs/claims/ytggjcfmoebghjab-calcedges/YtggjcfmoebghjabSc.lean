/- Rounding does not hang on how a number is spelt; sums, products and quotients of whole numbers. -/
import Derived.Test.YtggjcfmoebghjabMean
namespace Go.Proofs.Ytggjcfmoebghjab
open Go.RowKit

theorem log2_scale (m k : Nat) (hm : m ≠ 0) : (m * 2 ^ k).log2 = m.log2 + k := by
  have a1 : 2 ^ m.log2 ≤ m := (Nat.le_log2 hm).1 (Nat.le_refl _)
  have a2 : m < 2 ^ (m.log2 + 1) := (Nat.log2_lt hm).1 (Nat.lt_succ_self _)
  apply log2_of
  · rw [Nat.pow_add]; exact Nat.mul_le_mul_right _ a1
  · rw [show m.log2 + k + 1 = m.log2 + 1 + k by omega, Nat.pow_add]; exact Nat.mul_lt_mul_of_pos_right a2 (Nat.two_pow_pos k)
theorem cut_scale (neg : Bool) (m d k : Nat) (hm : m ≠ 0) : Ieee.Toward.even.cut neg (m * 2 ^ k) (d + k) = Ieee.Toward.even.cut neg m d := by
  unfold Ieee.Toward.cut
  have e : min (d + k) (m.log2 + k + 2) = min d (m.log2 + 2) + k := by omega
  simp only [log2_scale m k hm, e, Nat.shiftLeft_eq, Nat.one_mul, Nat.pow_add]
  generalize 2 ^ min d (m.log2 + 2) = g
  have hp := Nat.two_pow_pos k
  generalize 2 ^ k = P at *
  rw [Nat.mul_div_mul_right _ _ hp, Nat.mul_mod_mul_right, ← Nat.mul_assoc]
  have h1 : (g * P < 2 * (m % g) * P) = (g < 2 * (m % g)) := by
    apply propext; exact ⟨fun h => Nat.lt_of_mul_lt_mul_right h, fun h => Nat.mul_lt_mul_of_pos_right h hp⟩
  have h2 : (g * P == 2 * (m % g) * P) = (g == 2 * (m % g)) := by
    rw [Bool.eq_iff_iff, beq_iff_eq, beq_iff_eq]
    exact ⟨fun h => Nat.eq_of_mul_eq_mul_right hp h, fun h => congrArg (· * P) h⟩
  simp only [h1, h2]
/-- Rounding does not hang on how a number is spelt. -/
theorem nearest_scale (neg : Bool) (m k : Nat) (p : Int) (hm : m ≠ 0) : Ieee.double.nearest neg (m * 2 ^ k) (p - k) = Ieee.double.nearest neg m p := by
  have h0 : m * 2 ^ k ≠ 0 := Nat.mul_ne_zero hm (Nat.ne_of_gt (Nat.two_pow_pos k))
  unfold Ieee.Format.nearest
  rw [if_neg hm, if_neg h0, log2_scale m k hm]
  have e : p - (k : Int) + ((m.log2 + k : Nat) : Int) = p + (m.log2 : Int) := by omega
  simp only [e]
  generalize max (p + (m.log2 : Int) - (Ieee.double.fractionBits : Int)) Ieee.double.leastPlace = L
  congr 3
  rcases Int.le_total L (p - k) with h | h
  · have e1 : (L - (p - (k : Int))).toNat = 0 := by omega
    have e2 : (L - p).toNat = 0 := by omega
    have e3 : (p - L).toNat = k + (p - k - L).toNat := by omega
    rw [e1, e2, e3, Nat.shiftLeft_eq, Nat.shiftLeft_eq, Nat.pow_add, ← Nat.mul_assoc]
  · have e1 : (p - (k : Int) - L).toNat = 0 := by omega
    rw [e1, Nat.shiftLeft_zero]
    rcases Int.le_total L p with h2 | h2
    · have e2 : (L - p).toNat = 0 := by omega
      obtain ⟨d, hd⟩ : ∃ d : Nat, (p - L).toNat + d = k ∧ (L - (p - (k : Int))).toNat = d := ⟨(L - (p - (k : Int))).toNat, by omega, rfl⟩
      rw [e2, hd.2, Nat.shiftLeft_eq]
      have e4 : m * 2 ^ k = (m * 2 ^ (p - L).toNat) * 2 ^ d := by rw [Nat.mul_assoc, ← Nat.pow_add, hd.1]
      have hpos : 0 < m * 2 ^ (p - L).toNat := Nat.mul_pos (Nat.pos_of_ne_zero hm) (Nat.two_pow_pos _)
      rw [e4, cut_exact neg _ d hpos]
      have := cut_exact neg (m * 2 ^ (p - L).toNat) 0 hpos
      rw [Nat.pow_zero, Nat.mul_one] at this
      exact this.symm
    · have e2 : (p - L).toNat = 0 := by omega
      have e3 : (L - (p - (k : Int))).toNat = (L - p).toNat + k := by omega
      rw [e2, e3, Nat.shiftLeft_zero, cut_scale neg m _ k hm]

/-- Two spellings of one number. -/
theorem nearest_same (neg : Bool) (m n : Nat) (p q : Int) (a b : Nat) (h : m * 2 ^ a = n * 2 ^ b) (hp : p - a = q - b) (z : m = 0 → Ieee.double.nearest neg m p = Ieee.double.nearest neg n q) : Ieee.double.nearest neg m p = Ieee.double.nearest neg n q := by
  by_cases hm : m = 0
  · exact z hm
  · have hn : n ≠ 0 := by
      rintro rfl
      rw [Nat.zero_mul] at h
      exact Nat.mul_ne_zero hm (Nat.ne_of_gt (Nat.two_pow_pos a)) h
    rw [← nearest_scale neg m a p hm, ← nearest_scale neg n b q hn, h, hp]
theorem nearest_nought (neg : Bool) (p : Int) : Ieee.double.nearest neg 0 p = Ieee.double.word neg 0 := by
  unfold Ieee.Format.nearest; rw [if_pos rfl]

theorem read_fl (n : Int) (h : n.natAbs < 1000000000000000) (K : Nat) (hK : K = 1074) : ∃ m p : Nat, Ieee.double.read (fl n) = .number (decide (n < 0)) m (-1074 + (p : Int)) ∧ m * 2 ^ p = n.natAbs * 2 ^ K := by
  rw [fl_small n h]
  obtain ⟨h1, h2, h3, h4⟩ := wb_facts (decide (n < 0)) n.natAbs (by omega)
  have hl := wr_lt n.natAbs (by omega)
  obtain ⟨m, p, e, k, _⟩ := read_num (wb (decide (n < 0)) n.natAbs) (by rw [h3]; omega)
  rw [h3, sz_wr _ (by omega) K hK] at k
  exact ⟨m, p, by rw [e, h4], k⟩
theorem signed_val (n : Int) (m p K : Nat) (k : m * 2 ^ p = n.natAbs * 2 ^ K) : Ieee.signed (decide (n < 0)) m p = n * 2 ^ K := by
  unfold Ieee.signed
  rw [Nat.shiftLeft_eq, k]
  by_cases h : n < 0
  · rw [if_pos (by simpa using h)]
    have e : n = -(n.natAbs : Int) := by omega
    generalize n.natAbs = q at *
    subst e
    rw [Int.natCast_mul, Int.neg_mul]; simp
  · rw [if_neg (by simpa using h)]
    have e : n = (n.natAbs : Int) := by omega
    generalize n.natAbs = q at *
    subst e
    rw [Int.natCast_mul]; simp

/-- Whole numbers add up exactly. -/
theorem sum_whole (a b : Int) (ha : a.natAbs < 1000000000000000) (hb : b.natAbs < 1000000000000000) : sumB (fl a) (fl b) = some (fl (a + b)) := by
  obtain ⟨K, hK⟩ : ∃ K : Nat, K = 1074 := ⟨_, rfl⟩
  obtain ⟨m, p, e1, k1⟩ := read_fl a ha K hK
  obtain ⟨n, q, e2, k2⟩ := read_fl b hb K hK
  unfold sumB Ieee.Format.add
  rw [e1, e2]
  simp only [Ieee.Datum.sum, Option.map_some]
  have hmin : min (-1074 + (p : Int)) (-1074 + (q : Int)) = -1074 + ((min p q : Nat) : Int) := by omega
  have d1 : ((-1074 + (p : Int)) - (-1074 + ((min p q : Nat) : Int))).toNat = p - min p q := by omega
  have d2 : ((-1074 + (q : Int)) - (-1074 + ((min p q : Nat) : Int))).toNat = q - min p q := by omega
  rw [hmin, d1, d2]
  obtain ⟨t, ht⟩ : ∃ t, t = Ieee.signed (decide (a < 0)) m (p - min p q) + Ieee.signed (decide (b < 0)) n (q - min p q) := ⟨_, rfl⟩
  rw [← ht]
  have hv : t * 2 ^ min p q = (a + b) * 2 ^ K := by
    rw [ht, Int.add_mul, ← signed_add, ← signed_add, show p - min p q + min p q = p by omega, show q - min p q + min p q = q by omega, signed_val a m p K k1, signed_val b n q K k2, Int.add_mul]
  have hP : (0 : Int) < 2 ^ min p q := Int.pow_pos (by decide)
  have hQ : (0 : Int) < 2 ^ K := Int.pow_pos (by decide)
  have hz : t = 0 ↔ a + b = 0 := by
    constructor
    · intro h
      rw [h, Int.zero_mul] at hv
      rcases Int.mul_eq_zero.1 hv.symm with h | h <;> omega
    · intro h
      rw [h, Int.zero_mul] at hv
      rcases Int.mul_eq_zero.1 hv with h | h <;> omega
  have hs : t < 0 ↔ a + b < 0 := by
    constructor
    · intro h
      have := Int.mul_neg_of_neg_of_pos h hP
      rw [hv] at this
      rcases Int.lt_or_le (a + b) 0 with g | g
      · exact g
      · have := Int.mul_nonneg g (Int.le_of_lt hQ); omega
    · intro h
      have := Int.mul_neg_of_neg_of_pos h hQ
      rw [← hv] at this
      rcases Int.lt_or_le t 0 with g | g
      · exact g
      · have := Int.mul_nonneg g (Int.le_of_lt hP); omega
  have hsg : (if t = 0 then decide (a < 0) && decide (b < 0) else decide (t < 0)) = decide (a + b < 0) := by
    by_cases h : t = 0
    · rw [if_pos h]
      have := hz.1 h
      rw [Bool.eq_iff_iff]
      simp only [Bool.and_eq_true, decide_eq_true_eq]
      omega
    · rw [if_neg h]; exact decide_eq_decide.2 hs
  rw [hsg]
  show some (Ieee.double.nearest (decide (a + b < 0)) t.natAbs (-1074 + ((min p q : Nat) : Int))) = some (Ieee.double.nearest (decide (a + b < 0)) (a + b).natAbs 0)
  congr 1
  refine nearest_same _ _ _ _ _ (min p q) K ?_ ?_ ?_
  · have := congrArg Int.natAbs hv
    rw [Int.natAbs_mul, Int.natAbs_mul, Int.natAbs_pow, Int.natAbs_pow] at this
    exact this
  · omega
  · intro h
    have : a + b = 0 := hz.1 (by omega)
    rw [h, this]
    rw [nearest_nought, show Int.natAbs 0 = 0 from rfl, nearest_nought]

abbrev mulB (x y : Nat) : Option Nat := Ieee.double.mul x y
/-- Whole numbers multiply exactly. -/
theorem mul_whole (a b : Nat) (ha : a < 1000000000000000) (hb : b < 1000000000000000) : mulB (fl (a : Int)) (fl (b : Int)) = some (fl ((a * b : Nat) : Int)) := by
  obtain ⟨K, hK⟩ : ∃ K : Nat, K = 1074 := ⟨_, rfl⟩
  obtain ⟨m, p, e1, k1⟩ := read_fl a (by simpa using ha) K hK
  obtain ⟨n, q, e2, k2⟩ := read_fl b (by simpa using hb) K hK
  rw [show decide ((a : Int) < 0) = false by simp] at e1
  rw [show decide ((b : Int) < 0) = false by simp] at e2
  rw [Int.natAbs_natCast] at k1 k2
  unfold mulB Ieee.Format.mul
  rw [e1, e2]
  simp only [Ieee.Datum.product, Option.map_some]
  show some (Ieee.double.nearest false (m * n) (-1074 + (p : Int) + (-1074 + (q : Int)))) = some (Ieee.double.nearest (decide (((a * b : Nat) : Int) < 0)) ((a * b : Nat) : Int).natAbs 0)
  rw [show decide (((a * b : Nat) : Int) < 0) = false by rw [decide_eq_false_iff_not]; omega, Int.natAbs_natCast]
  congr 1
  have h : m * n * 2 ^ (p + q) = a * b * 2 ^ (K + K) := by
    rw [Nat.pow_add, Nat.pow_add]
    calc m * n * (2 ^ p * 2 ^ q) = (m * 2 ^ p) * (n * 2 ^ q) := by ac_rfl
      _ = (a * 2 ^ K) * (b * 2 ^ K) := by rw [k1, k2]
      _ = _ := by ac_rfl
  refine nearest_same _ _ _ _ _ (p + q) (K + K) h (by omega) ?_
  intro h0
  rw [h0, Nat.zero_mul] at h
  have h1 : a * b = 0 := by
    rcases Nat.mul_eq_zero.1 h.symm with g | g
    · exact g
    · exact absurd g (Nat.ne_of_gt (Nat.two_pow_pos _))
  rw [h0, h1, nearest_nought, nearest_nought]

theorem read_small (b : Nat) (h : b % 9223372036854775808 < 9218868437227405312) (m p : Nat) (e : Ieee.double.read b = .number (sgn b) m (-1074 + (p : Int))) : m < 9007199254740992 := by
  unfold Ieee.Format.read at e
  simp only [lp, bin, infR, sigW] at e
  split at e
  · injection e with _ e2 e3; omega
  · injection e with _ e2 e3; omega
theorem one_read : Ieee.double.read 4607182418800017408 = .number false 4503599627370496 (-52) := by decide
/-- Divided by one. -/
theorem div_one (x : Nat) (hx : x < 18446744073709551616) (hn : nanB x = false) : divB x 4607182418800017408 = some x := by
  simp only [nanB, decide_eq_false_iff_not, Nat.not_lt] at hn
  unfold divB Ieee.Format.div
  rw [one_read]
  rcases Nat.lt_or_eq_of_le hn with h1 | h1
  · obtain ⟨m, p, e, k, _⟩ := read_num x h1
    have hm := read_small x h1 m p e
    rw [e]
    simp only [Ieee.Datum.quotient]
    rw [if_neg (by decide)]
    have hl52 : (4503599627370496 : Nat).log2 = 52 := by decide
    rw [hl52, show Ieee.double.fractionBits + 2 = 54 from rfl]
    simp only [Option.map_some]
    have hmore : ∃ d, 54 + 52 - m.log2 = d + 52 := by
      by_cases h0 : m = 0
      · subst h0; exact ⟨54, by rw [show Nat.log2 0 = 0 by decide]⟩
      · have := (Nat.log2_lt h0 (k := 53)).2 hm
        exact ⟨54 - m.log2, by omega⟩
    obtain ⟨d, hd⟩ := hmore
    rw [hd, Nat.shiftLeft_eq, Nat.pow_add, ← Nat.mul_assoc, show (2 : Nat) ^ 52 = 4503599627370496 from rfl, Nat.mul_div_cancel _ (by decide), Nat.mul_mod_left]
    show some (Ieee.double.nearest (sgn x ^^ false) (2 * (m * 2 ^ d) + 0) _) = some x
    rw [Bool.xor_false, Nat.add_zero]
    congr 1
    refine Eq.trans ?_ ((nearest_sz (sgn x) _ h1).trans (word_back x hx))
    refine nearest_same _ _ _ _ _ p (d + 1) ?_ ?_ ?_
    · rw [← k, Nat.pow_succ]
      ac_rfl
    · omega
    · intro h0
      have hm0 : m = 0 := by
        rcases Nat.mul_eq_zero.1 h0 with g | g
        · cases g
        · rcases Nat.mul_eq_zero.1 g with g | g
          · exact g
          · exact absurd g (Nat.ne_of_gt (Nat.two_pow_pos _))
      rw [h0, ← k, hm0, Nat.zero_mul, nearest_nought, nearest_nought]
  · rw [read_inf x h1]
    show some (Ieee.double.word (sgn x ^^ false) Ieee.double.infRung) = _
    rw [Bool.xor_false, infR, ← h1, word_back x hx]
end Go.Proofs.Ytggjcfmoebghjab
