/- A quotient of whole numbers, rounded, lies where it should. -/
import Derived.Test.YtggjcfmoebghjabMono
namespace Go.Proofs.Ytggjcfmoebghjab
open Go.RowKit

theorem sz_le {r s : Nat} (h : r ≤ s) : sz r ≤ sz s := by
  rcases Nat.lt_or_eq_of_le h with h | h
  · exact Nat.le_of_lt (sz_lt h)
  · rw [h]; exact Nat.le_refl _
theorem val_word (neg : Bool) (r : Nat) (h : r < 9218868437227405312) : Ieee.double.word neg r < 18446744073709551616 ∧ nanB (Ieee.double.word neg r) = false ∧ val (Ieee.double.word neg r) = if neg then -(sz r : Int) else sz r := by
  unfold Ieee.Format.word
  rw [sigW]
  cases neg
  · refine ⟨?_, ?_, ?_⟩
    · simp; omega
    · simp [nanB]; omega
    · simp only [Bool.false_eq_true, if_false]
      unfold val
      rw [if_pos (by omega), Nat.mod_eq_of_lt (by omega)]
  · refine ⟨?_, ?_, ?_⟩
    · simp; omega
    · simp [nanB]; omega
    · simp only [if_true]
      unfold val
      rw [if_neg (by omega), show (9223372036854775808 + r) % 9223372036854775808 = r by omega]
theorem val_fl (n : Int) (h : n.natAbs < 1000000000000000) : val (fl n) = if n < 0 then -(sz (wr n.natAbs) : Int) else sz (wr n.natAbs) := by
  rw [fl_small n h, ← wb_word, (val_word _ _ (by have := wr_lt n.natAbs (by omega); omega)).2.2]
  by_cases h : n < 0
  · rw [if_pos (by simpa using h), if_pos h]
  · rw [if_neg (by simpa using h), if_neg h]
theorem read_fl2 (n : Int) (h : n.natAbs < 1000000000000000) (h0 : n ≠ 0) (K : Nat) (hK : K = 1074) : ∃ m p : Nat, Ieee.double.read (fl n) = .number (decide (n < 0)) m (-1074 + (p : Int)) ∧ m * 2 ^ p = n.natAbs * 2 ^ K ∧ 4503599627370496 ≤ m ∧ m < 9007199254740992 := by
  have hw := fl_small n h
  obtain ⟨h1, h2, h3, h4⟩ := wb_facts (decide (n < 0)) n.natAbs (by omega)
  rw [← hw] at h1 h2 h3 h4
  have hl := wr_lt n.natAbs (by omega)
  obtain ⟨m, p, e, k, hp⟩ := read_num (fl n) (by rw [h3]; omega)
  have hm := read_small (fl n) (by rw [h3]; omega) m p e
  rw [h3, sz_wr _ (by omega) K hK] at k
  rw [h4] at e
  refine ⟨m, p, e, k, ?_, hm⟩
  rcases hp with rfl | hp
  · exfalso
    have h5 : 2 ^ 53 ≤ 2 ^ K := Nat.pow_le_pow_right (by decide) (by omega)
    rw [show (2 : Nat) ^ 53 = 9007199254740992 by decide] at h5
    have h6 : 1 * 2 ^ K ≤ n.natAbs * 2 ^ K := Nat.mul_le_mul_right _ (by omega)
    rw [Nat.pow_zero, Nat.mul_one] at k
    omega
  · exact hp

/-- How a quotient is rounded. -/
theorem quot_shape (n : Int) (N : Nat) (hn : n ≠ 0) (hn2 : n.natAbs < 1000000000000000) (hN : 0 < N) (hN2 : N < 1000000000000000) :
    ∃ mag E : Nat, mag ≠ 0 ∧ divB (fl n) (fl (N : Int)) = some (Ieee.double.word (decide (n < 0)) (rung mag (-(E : Int)))) ∧ (∀ c, c * N ≤ n.natAbs → c * 2 ^ E ≤ mag) ∧ (∀ c, n.natAbs ≤ c * N → mag ≤ c * 2 ^ E) := by
  obtain ⟨K, hK⟩ : ∃ K : Nat, K = 1074 := ⟨_, rfl⟩
  obtain ⟨m, p, e1, k1, l1, u1⟩ := read_fl2 n hn2 hn K hK
  obtain ⟨k, q, e2, k2, l2, u2⟩ := read_fl2 (N : Int) (by simpa using hN2) (by omega) K hK
  rw [show decide ((N : Int) < 0) = false by simp] at e2
  rw [Int.natAbs_natCast] at k2
  have lm : m.log2 = 52 := log2_of (show 2 ^ 52 ≤ m from l1) (show m < 2 ^ 53 from u1)
  have lk : k.log2 = 52 := log2_of (show 2 ^ 52 ≤ k from l2) (show k < 2 ^ 53 from u2)
  have hpq : p < q + 51 := by
    have a1 : 2 ^ 52 * 2 ^ p ≤ n.natAbs * 2 ^ K := by rw [← k1]; exact Nat.mul_le_mul_right _ l1
    have a2 : 1 * 2 ^ K ≤ N * 2 ^ K := Nat.mul_le_mul_right _ hN
    have a3 : k * 2 ^ q < 2 ^ 53 * 2 ^ q := Nat.mul_lt_mul_of_pos_right u2 (Nat.two_pow_pos q)
    have a4 : 2 ^ K < 2 ^ 53 * 2 ^ q := by omega
    have a5 : n.natAbs * 2 ^ K < 2 ^ 50 * (2 ^ 53 * 2 ^ q) := Nat.mul_lt_mul'' (Nat.lt_trans hn2 (by decide)) a4
    have a6 : 2 ^ (52 + p) < 2 ^ (50 + (53 + q)) := by
      rw [Nat.pow_add, Nat.pow_add, Nat.pow_add]; exact Nat.lt_of_le_of_lt a1 a5
    have := (Nat.pow_lt_pow_iff_right (by decide : 1 < 2)).1 a6
    omega
  have hE : ∃ E : Nat, E + p = 55 + q ∧ 1 ≤ E := ⟨55 + q - p, by omega, by omega⟩
  obtain ⟨E, hE, hE1⟩ := hE
  have hk0 : k ≠ 0 := by omega
  have hkpos : 0 < k := by omega
  obtain ⟨D, hD⟩ : ∃ D, D = m * 2 ^ 54 := ⟨_, rfl⟩
  have hEp : ∀ c, c * 2 ^ E * k * 2 ^ p = c * k * 2 ^ q * 2 ^ 55 := by
    intro c
    have : (2 : Nat) ^ E * 2 ^ p = 2 ^ q * 2 ^ 55 := by rw [← Nat.pow_add, ← Nat.pow_add, show E + p = q + 55 by omega]
    calc c * 2 ^ E * k * 2 ^ p = c * k * (2 ^ E * 2 ^ p) := by ac_rfl
      _ = c * k * (2 ^ q * 2 ^ 55) := by rw [this]
      _ = _ := by ac_rfl
  have hDD : 2 * D * 2 ^ p = m * 2 ^ p * 2 ^ 55 := by
    rw [hD, show (2 : Nat) ^ 55 = 2 * 2 ^ 54 by decide]; ac_rfl
  have dm := Nat.div_add_mod D k
  have ml := Nat.mod_lt D hkpos
  refine ⟨2 * (D / k) + (D % k != 0).toNat, E, ?_, ?_, ?_, ?_⟩
  · have : 1 ≤ D / k := (Nat.le_div_iff_mul_le hkpos).2 (by rw [hD]; omega)
    omega
  · unfold divB Ieee.Format.div
    rw [e1, e2]
    simp only [Ieee.Datum.quotient]
    rw [if_neg hk0, lm, lk, show Ieee.double.fractionBits + 2 = 54 from rfl]
    simp only [Option.map_some]
    rw [show 54 + 52 - 52 = 54 from rfl, Nat.shiftLeft_eq, ← hD, Bool.xor_false]
    show some (Ieee.double.nearest _ _ _) = _
    rw [nearest_rung _ _ _ (by
      have : 1 ≤ D / k := (Nat.le_div_iff_mul_le hkpos).2 (by rw [hD]; omega)
      omega)]
    rw [show (-1074 + (p : Int) - (-1074 + (q : Int)) - ((54 : Nat) : Int) - 1) = -(E : Int) by omega]
  · intro c hc
    have h1 : c * 2 ^ E * k ≤ 2 * D := by
      apply Nat.le_of_mul_le_mul_right (c := 2 ^ p) _ (Nat.two_pow_pos p)
      rw [hEp, hDD]
      apply Nat.mul_le_mul_right
      rw [Nat.mul_assoc, k2, k1, ← Nat.mul_assoc]
      exact Nat.mul_le_mul_right _ hc
    have h2 : c * 2 ^ E ≤ 2 * D / k := (Nat.le_div_iff_mul_le hkpos).2 h1
    have h3 : 2 * D / k ≤ 2 * (D / k) + (D % k != 0).toNat := by
      have : 2 * D / k < 2 * (D / k) + (D % k != 0).toNat + 1 := by
        rw [Nat.div_lt_iff_lt_mul hkpos]
        by_cases hz : D % k = 0
        · rw [hz] at dm ⊢
          simp only [bne_self_eq_false, Bool.toNat_false, Nat.add_zero]
          have : (2 * (D / k) + 1) * k = 2 * (k * (D / k)) + k := by rw [Nat.add_mul, Nat.one_mul]; congr 1; ac_rfl
          omega
        · have hb : (D % k != 0) = true := by simpa using hz
          rw [hb]
          have : (2 * (D / k) + 1 + 1) * k = 2 * (k * (D / k)) + k + k := by rw [Nat.add_mul, Nat.add_mul, Nat.one_mul]; congr 2; ac_rfl
          simp only [Bool.toNat_true]
          omega
      omega
    omega
  · intro c hc
    have h1 : 2 * D ≤ c * 2 ^ E * k := by
      apply Nat.le_of_mul_le_mul_right (c := 2 ^ p) _ (Nat.two_pow_pos p)
      rw [hEp, hDD]
      apply Nat.mul_le_mul_right
      rw [Nat.mul_assoc, k2, k1, ← Nat.mul_assoc]
      exact Nat.mul_le_mul_right _ hc
    obtain ⟨F, rfl⟩ : ∃ F, E = F + 1 := ⟨E - 1, by omega⟩
    obtain ⟨h, hh⟩ : ∃ h, h = c * 2 ^ F := ⟨_, rfl⟩
    have e : c * 2 ^ (F + 1) = 2 * h := by rw [hh, Nat.pow_succ]; ac_rfl
    rw [e] at h1 ⊢
    have h2 : D ≤ h * k := by
      have : 2 * h * k = 2 * (h * k) := Nat.mul_assoc _ _ _
      omega
    by_cases hz : D % k = 0
    · rw [hz]
      simp only [bne_self_eq_false, Bool.toNat_false, Nat.add_zero]
      have : D / k ≤ h := by
        have := Nat.div_le_div_right (c := k) h2
        rwa [Nat.mul_div_cancel _ hkpos] at this
      omega
    · have hb : (D % k != 0) = true := by simpa using hz
      rw [hb]
      have : D / k < h := by
        rw [Nat.div_lt_iff_lt_mul hkpos]
        rcases Nat.lt_or_eq_of_le h2 with g | g
        · exact g
        · exfalso; rw [g, Nat.mul_mod_left] at hz; exact hz rfl
      simp only [Bool.toNat_true]
      omega

/-- The mean of whole numbers lies between what its number bounds. -/
theorem quot_bounds (n : Int) (N : Nat) (hn2 : n.natAbs < 1000000000000000) (hN : 0 < N) (hN2 : N < 1000000000000000) :
    ∃ M, divB (fl n) (fl (N : Int)) = some M ∧ M < 18446744073709551616 ∧ nanB M = false ∧ (∀ c : Int, c.natAbs < 1000000000000000 → c * N ≤ n → val (fl c) ≤ val M) ∧ (∀ c : Int, c.natAbs < 1000000000000000 → n ≤ c * N → val M ≤ val (fl c)) := by
  by_cases hn : n = 0
  · subst hn
    obtain ⟨K, hK⟩ : ∃ K : Nat, K = 1074 := ⟨_, rfl⟩
    obtain ⟨k, q, e2, k2, l2, u2⟩ := read_fl2 (N : Int) (by simpa using hN2) (by omega) K hK
    rw [show decide ((N : Int) < 0) = false by simp] at e2
    refine ⟨0, ?_, by decide, by decide, ?_, ?_⟩
    · unfold divB Ieee.Format.div
      rw [e2, show fl 0 = 0 by decide +kernel, show Ieee.double.read 0 = .number false 0 (-1074) by decide]
      simp only [Ieee.Datum.quotient]
      rw [if_neg (by omega)]
      simp only [Option.map_some, Nat.zero_shiftLeft, Nat.zero_div, Nat.zero_mod]
      show some (Ieee.double.nearest _ 0 _) = _
      rw [nearest_nought]
      rfl
    · intro c hc h
      have hc0 : c ≤ 0 := by
        rcases Int.lt_or_le 0 c with g | g
        · have := Int.mul_pos g (show (0 : Int) < N by omega); omega
        · exact g
      rw [val_fl c hc, show val 0 = 0 by decide]
      split
      · omega
      · have : c = 0 := by omega
        subst this
        simp [wr, sz]
    · intro c hc h
      have hc0 : 0 ≤ c := by
        rcases Int.lt_or_le c 0 with g | g
        · have := Int.mul_neg_of_neg_of_pos g (show (0 : Int) < N by omega); omega
        · exact g
      rw [val_fl c hc, show val 0 = 0 by decide, if_neg (by omega)]
      omega
  · obtain ⟨mag, E, hm, hd, hlo, hhi⟩ := quot_shape n N hn hn2 hN hN2
    have hself : mag ≤ n.natAbs * 2 ^ E := hhi _ (Nat.le_mul_of_pos_right _ hN)
    have hr := rung_fin n.natAbs E mag (by omega) (by omega) hm hself
    have hrl : rung mag (-(E : Int)) < 9218868437227405312 := by have := wr_lt n.natAbs (by omega); omega
    obtain ⟨v1, v2, v3⟩ := val_word (decide (n < 0)) _ hrl
    have GE : ∀ c : Nat, c ≠ 0 → c < 1000000000000000 → c * N ≤ n.natAbs → sz (wr c) ≤ sz (rung mag (-(E : Int))) := by
      intro c c0 cl h
      apply sz_le
      rw [← rung_whole c E c0 (by omega)]
      exact rung_mono _ _ _ (Nat.mul_ne_zero c0 (Nat.ne_of_gt (Nat.two_pow_pos E))) (hlo c h)
    have LE : ∀ c : Nat, c ≠ 0 → c < 1000000000000000 → n.natAbs ≤ c * N → sz (rung mag (-(E : Int))) ≤ sz (wr c) := by
      intro c c0 cl h
      apply sz_le
      exact rung_fin c E mag c0 (by omega) hm (hhi c h)
    have cN : ∀ c : Int, (c * N).natAbs = c.natAbs * N := fun c => by rw [Int.natAbs_mul, Int.natAbs_natCast]
    have hNp : (0 : Int) < N := by omega
    refine ⟨_, hd, v1, v2, ?_, ?_⟩
    · intro c hc h
      rw [v3, val_fl c hc]
      have hcN := cN c
      by_cases hneg : n < 0
      · rw [if_pos (show decide (n < 0) = true by simpa using hneg)]
        have hc0 : c < 0 := by
          rcases Int.lt_or_le c 0 with g | g
          · exact g
          · have := Int.mul_nonneg g (Int.le_of_lt hNp); omega
        rw [if_pos hc0]
        have := LE c.natAbs (by omega) hc (by omega)
        omega
      · rw [if_neg (show ¬ decide (n < 0) = true by simpa using hneg)]
        by_cases hc0 : c < 0
        · rw [if_pos hc0]; omega
        · rw [if_neg hc0]
          by_cases hcz : c = 0
          · subst hcz
            have : sz (wr (Int.natAbs 0)) = 0 := by decide +kernel
            omega
          · have := GE c.natAbs (by omega) hc (by have := Int.mul_nonneg (show 0 ≤ c by omega) (Int.le_of_lt hNp); omega)
            omega
    · intro c hc h
      rw [v3, val_fl c hc]
      have hcN := cN c
      by_cases hneg : n < 0
      · rw [if_pos (show decide (n < 0) = true by simpa using hneg)]
        by_cases hc0 : c < 0
        · rw [if_pos hc0]
          have := GE c.natAbs (by omega) hc (by have := Int.mul_neg_of_neg_of_pos hc0 hNp; omega)
          omega
        · rw [if_neg hc0]; omega
      · rw [if_neg (show ¬ decide (n < 0) = true by simpa using hneg)]
        have hc0 : 0 < c := by
          rcases Int.lt_or_le 0 c with g | g
          · exact g
          · have := Int.mul_nonneg (show 0 ≤ -c by omega) (Int.le_of_lt hNp)
            rw [Int.neg_mul] at this
            omega
        rw [if_neg (by omega)]
        have := LE c.natAbs (by omega) hc (by have := Int.mul_pos hc0 hNp; omega)
        omega
end Go.Proofs.Ytggjcfmoebghjab
