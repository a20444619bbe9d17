/- Rounding goes up with what is rounded; a quotient of whole numbers lies where it should. -/
import Derived.Test.YtggjcfmoebghjabWhS
namespace Go.Proofs.Ytggjcfmoebghjab
open Go.RowKit

/-- One more, where the rest is more than a half, or a half of an odd one. -/
def up (g n : Nat) : Bool := decide (g < 2 * (n % g)) || (g == 2 * (n % g) && n / g % 2 == 1)
theorem b_le (b : Bool) : b.toNat ≤ 1 := by cases b <;> decide
theorem cut_even (neg : Bool) (n d : Nat) : Ieee.Toward.even.cut neg n d = n / 2 ^ d + (up (2 ^ d) n).toNat := by
  unfold Ieee.Toward.cut
  rcases Nat.le_total d (n.log2 + 2) with h | h
  · simp only [Nat.min_eq_left h, Nat.shiftLeft_eq, Nat.one_mul]
    rfl
  · simp only [Nat.min_eq_right h, Nat.shiftLeft_eq, Nat.one_mul]
    have hn : n < 2 ^ (n.log2 + 1) := by
      by_cases h0 : n = 0
      · subst h0; exact Nat.two_pow_pos _
      · exact (Nat.log2_lt h0).1 (Nat.lt_succ_self _)
    have h1 : 2 * n < 2 ^ (n.log2 + 2) := by rw [show n.log2 + 2 = n.log2 + 1 + 1 by omega, Nat.pow_succ]; omega
    have h2 : 2 ^ (n.log2 + 2) ≤ 2 ^ d := Nat.pow_le_pow_right (by decide) h
    have key : ∀ g, 2 * n < g → n / g + (up g n).toNat = 0 := by
      intro g hg
      have e1 : n / g = 0 := Nat.div_eq_of_lt (by omega)
      have e2 : n % g = n := Nat.mod_eq_of_lt (by omega)
      have e3 : up g n = false := by
        unfold up; rw [e1, e2]; simp; omega
      rw [e1, e3]; rfl
    rw [key (2 ^ d) (by omega)]
    exact key _ h1
theorem up_mono (g n m : Nat) (h : n ≤ m) : n / g + (up g n).toNat ≤ m / g + (up g m).toNat := by
  have hq : n / g ≤ m / g := Nat.div_le_div_right h
  have b := b_le (up g n)
  rcases Nat.lt_or_eq_of_le hq with h1 | h1
  · omega
  · have hr : n % g ≤ m % g := by
      have e1 := Nat.div_add_mod n g
      have e2 := Nat.div_add_mod m g
      rw [h1] at e1
      omega
    rw [h1]
    apply Nat.add_le_add_left
    cases hu : up g n with
    | false => exact Nat.zero_le _
    | true =>
      have : up g m = true := by
        unfold up at hu ⊢
        rw [h1] at hu
        simp only [Bool.or_eq_true, decide_eq_true_eq, Bool.and_eq_true, beq_iff_eq] at hu ⊢
        omega
      rw [this]; exact Nat.le_refl _

/-- The rung of a rounded number. -/
def rung (mag : Nat) (place : Int) : Nat :=
  min (((max (place + mag.log2 - 52) (-1074)) + 1074).toNat * 4503599627370496 + Ieee.Toward.even.cut false (mag <<< (place - max (place + mag.log2 - 52) (-1074)).toNat) ((max (place + mag.log2 - 52) (-1074)) - place).toNat) 9218868437227405312
theorem nearest_rung (neg : Bool) (mag : Nat) (place : Int) (h : mag ≠ 0) : Ieee.double.nearest neg mag place = Ieee.double.word neg (rung mag place) := by
  unfold Ieee.Format.nearest rung
  rw [if_neg h]
  simp only [lp, bin, infR, show Ieee.double.fractionBits = 52 from rfl]
  rw [cut_even, cut_even]
  have e : ∀ L : Int, L - -1074 = L + 1074 := fun L => by omega
  rw [e]
  rfl

theorem kept_hi (mag : Nat) (place L : Int) (h0 : mag ≠ 0) (hL : place + mag.log2 - 52 ≤ L) : Ieee.Toward.even.cut false (mag <<< (place - L).toNat) (L - place).toNat ≤ 9007199254740992 := by
  have a2 : mag < 2 ^ (mag.log2 + 1) := (Nat.log2_lt h0).1 (Nat.lt_succ_self _)
  rw [cut_even, Nat.shiftLeft_eq]
  rcases Int.le_total L place with h | h
  · have e1 : (L - place).toNat = 0 := by omega
    obtain ⟨s, hs⟩ : ∃ s, s = (place - L).toNat := ⟨_, rfl⟩
    rw [e1, ← hs, Nat.pow_zero, Nat.div_one]
    have e2 : up 1 (mag * 2 ^ s) = false := by unfold up; simp [Nat.mod_one]
    rw [e2]
    have : mag * 2 ^ s < 2 ^ (mag.log2 + 1) * 2 ^ s := Nat.mul_lt_mul_of_pos_right a2 (Nat.two_pow_pos s)
    rw [← Nat.pow_add] at this
    have k : 2 ^ (mag.log2 + 1 + s) ≤ 2 ^ 53 := Nat.pow_le_pow_right (by decide) (by omega)
    have k2 : (2 : Nat) ^ 53 = 9007199254740992 := by decide
    show _ + 0 ≤ _
    omega
  · have e1 : (place - L).toNat = 0 := by omega
    obtain ⟨d, hd⟩ : ∃ d, d = (L - place).toNat := ⟨_, rfl⟩
    rw [e1, ← hd, Nat.pow_zero, Nat.mul_one]
    have k : 2 ^ (mag.log2 + 1) ≤ 2 ^ 53 * 2 ^ d := by rw [← Nat.pow_add]; exact Nat.pow_le_pow_right (by decide) (by omega)
    rw [show (2 : Nat) ^ 53 = 9007199254740992 by decide] at k
    have k2 : mag / 2 ^ d < 9007199254740992 := (Nat.div_lt_iff_lt_mul (Nat.two_pow_pos d)).2 (by omega)
    have := b_le (up (2 ^ d) mag)
    omega
theorem kept_lo (mag : Nat) (place L : Int) (h0 : mag ≠ 0) (hL : L = place + mag.log2 - 52) : 4503599627370496 ≤ Ieee.Toward.even.cut false (mag <<< (place - L).toNat) (L - place).toNat := by
  have a1 : 2 ^ mag.log2 ≤ mag := (Nat.le_log2 h0).1 (Nat.le_refl _)
  rw [cut_even, Nat.shiftLeft_eq]
  refine Nat.le_trans ?_ (Nat.le_add_right _ _)
  rw [Nat.le_div_iff_mul_le (Nat.two_pow_pos _)]
  have k : (4503599627370496 : Nat) = 2 ^ 52 := by decide
  rw [k, ← Nat.pow_add]
  refine Nat.le_trans ?_ (Nat.mul_le_mul_right _ a1)
  rw [← Nat.pow_add]
  exact Nat.pow_le_pow_right (by decide) (by omega)
theorem rung_mono (m n : Nat) (place : Int) (hm : m ≠ 0) (h : m ≤ n) : rung m place ≤ rung n place := by
  have hn : n ≠ 0 := by omega
  have hlog : m.log2 ≤ n.log2 := (Nat.le_log2 hn).2 (Nat.le_trans ((Nat.le_log2 hm).1 (Nat.le_refl _)) h)
  unfold rung
  obtain ⟨L, hL⟩ : ∃ L, L = max (place + (m.log2 : Int) - 52) (-1074) := ⟨_, rfl⟩
  obtain ⟨K, hK⟩ : ∃ K, K = max (place + (n.log2 : Int) - 52) (-1074) := ⟨_, rfl⟩
  rw [← hL, ← hK]
  apply Nat.le_min.2 ⟨Nat.le_trans (Nat.min_le_left _ _) ?_, Nat.min_le_right _ _⟩
  rcases Int.lt_or_eq_of_le (show L ≤ K by omega) with h1 | h1
  · have a := kept_hi m place L hm (by omega)
    have b := kept_lo n place K hn (by omega)
    have c : (L + 1074).toNat + 1 ≤ (K + 1074).toNat := by omega
    have d := Nat.mul_le_mul_right 4503599627370496 c
    rw [Nat.add_mul] at d
    omega
  · rw [h1]
    apply Nat.add_le_add_left
    rw [cut_even, cut_even]
    apply up_mono
    rw [Nat.shiftLeft_eq, Nat.shiftLeft_eq]
    exact Nat.mul_le_mul_right _ h
theorem rung_whole (c E : Nat) (h0 : c ≠ 0) (h : c < 9007199254740992) : rung (c * 2 ^ E) (-(E : Int)) = wr c := by
  have a := nearest_scale false c E 0 h0
  rw [nearest_whole _ _ h, show (0 : Int) - (E : Int) = -(E : Int) by omega, nearest_rung _ _ _ (Nat.mul_ne_zero h0 (Nat.ne_of_gt (Nat.two_pow_pos E)))] at a
  have e : ∀ r, Ieee.double.word false r = r := fun r => by unfold Ieee.Format.word; exact if_neg (by decide)
  rw [e, e] at a
  exact a
theorem rung_fin (c E n : Nat) (h0 : c ≠ 0) (h : c < 9007199254740992) (hn : n ≠ 0) (hh : n ≤ c * 2 ^ E) : rung n (-(E : Int)) ≤ wr c := by
  rw [← rung_whole c E h0 h]; exact rung_mono _ _ _ hn hh
end Go.Proofs.Ytggjcfmoebghjab
