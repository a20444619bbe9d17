/- Floating point numbers as words: which are no numbers, how they are ordered; the code of a number. -/
import Derived.WalkKit
import Derived.WalkSpells
import Derived.WalkLawsBesides
import Derived.Handy
import Derived.Test.YticflknfkaoejaaDoorRows
namespace Go.Proofs.YticflknfkaoejaaDoor
open Go.RowKit

/-- The bits are no number's. -/
def nanB (b : Nat) : Bool := decide (9218868437227405312 < b % 9223372036854775808)
/-- The code of the number whose bits are b. -/
def codeN (b : Nat) : Nat := if nanB b then 18446744073709551615 else if b < 9223372036854775808 then b + 9223372036854775808 else 18446744073709551615 - b

abbrev dbl : Ieee.Format := { exponentBits := 11, fractionBits := 52 }
abbrev ord (x y : Nat) : Option Ordering := FloatKind.f64.format.order x y

/-- The size of a rung, counted in the least places. -/
def sz (r : Nat) : Nat := if r < 4503599627370496 then r else (4503599627370496 + r % 4503599627370496) * 2 ^ (r / 4503599627370496 - 1)

theorem sz_succ (r : Nat) : sz r < sz (r + 1) := by
  unfold sz
  by_cases h : r + 1 < 4503599627370496
  · rw [if_pos (by omega), if_pos h]; omega
  · rw [if_neg h]
    by_cases h2 : r < 4503599627370496
    · rw [if_pos h2]
      have e1 : (r + 1) % 4503599627370496 = 0 := by omega
      have e2 : (r + 1) / 4503599627370496 = 1 := by omega
      rw [e1, e2]; simp; omega
    · rw [if_neg h2]
      by_cases h3 : (r + 1) % 4503599627370496 = 0
      · have e1 : (r + 1) / 4503599627370496 - 1 = (r / 4503599627370496 - 1) + 1 := by omega
        have e2 : r % 4503599627370496 = 4503599627370495 := by omega
        rw [h3, e1, e2, Nat.pow_succ]
        have := Nat.two_pow_pos (r / 4503599627370496 - 1)
        generalize 2 ^ (r / 4503599627370496 - 1) = p at *
        omega
      · have e1 : (r + 1) / 4503599627370496 = r / 4503599627370496 := by omega
        have e2 : (r + 1) % 4503599627370496 = r % 4503599627370496 + 1 := by omega
        rw [e1, e2]
        have := Nat.two_pow_pos (r / 4503599627370496 - 1)
        exact Nat.mul_lt_mul_of_pos_right (by omega) this

theorem sz_lt {r s : Nat} (h : r < s) : sz r < sz s := by
  induction s with
  | zero => omega
  | succ s ih =>
    rcases Nat.lt_or_ge r s with h1 | h1
    · exact Nat.lt_trans (ih h1) (sz_succ s)
    · obtain rfl : r = s := by omega
      exact sz_succ r

theorem sz_inj {r s : Nat} (h : sz r = sz s) : r = s := by
  rcases Nat.lt_trichotomy r s with h1 | h1 | h1
  · have := sz_lt h1; omega
  · exact h1
  · have := sz_lt h1; omega
theorem sz_lt_iff (r s : Nat) : sz r < sz s ↔ r < s := by
  constructor
  · intro h
    rcases Nat.lt_trichotomy r s with h1 | h1 | h1
    · exact h1
    · subst h1; omega
    · have := sz_lt h1; omega
  · exact sz_lt

/-- A word's size with its sign. -/
def val (b : Nat) : Int := if b < 9223372036854775808 then (sz (b % 9223372036854775808) : Int) else -(sz (b % 9223372036854775808) : Int)

def cmpI (a b : Int) : Ordering := if a < b then .lt else if a = b then .eq else .gt
theorem cmpI_int (a b : Int) : compare a b = cmpI a b := rfl
theorem cmpI_nat (a b : Nat) : compare a b = cmpI a b := by
  rcases Nat.lt_trichotomy a b with h | h | h
  · rw [Nat.compare_eq_lt.2 h]; unfold cmpI; rw [if_pos (by omega)]
  · subst h; unfold cmpI; simp
  · rw [Nat.compare_eq_gt.2 h]; unfold cmpI; rw [if_neg (by omega), if_neg (by omega)]
theorem cmpI_scale (a b : Int) (d : Nat) : cmpI (a * 2 ^ d) (b * 2 ^ d) = cmpI a b := by
  have hp : (0 : Int) < 2 ^ d := Int.pow_pos (by decide)
  unfold cmpI
  have h1 : a * 2 ^ d < b * 2 ^ d ↔ a < b := Int.mul_lt_mul_right hp
  have h2 : a * 2 ^ d = b * 2 ^ d ↔ a = b := Int.mul_eq_mul_right_iff (by omega)
  simp only [h1, h2]

abbrev sgn (b : Nat) : Bool := b / 9223372036854775808 % 2 == 1

theorem lp : Ieee.double.leastPlace = -1074 := by decide
theorem bin : Ieee.double.binade = 4503599627370496 := by decide
theorem infR : Ieee.double.infRung = 9218868437227405312 := by decide
theorem sigW : Ieee.double.signWeight = 9223372036854775808 := by decide

theorem read_num (b : Nat) (h : b % 9223372036854775808 < 9218868437227405312) :
    ∃ m p : Nat, Ieee.double.read b = .number (sgn b) m (-1074 + (p : Int)) ∧ m * 2 ^ p = sz (b % 9223372036854775808) ∧ (p = 0 ∨ 4503599627370496 ≤ m) := by
  unfold Ieee.Format.read
  simp only [lp, bin, infR, sigW]
  by_cases h1 : b % 9223372036854775808 < 4503599627370496
  · rw [if_pos h1]
    exact ⟨b % 9223372036854775808, 0, by simp, by simp [sz, h1], .inl rfl⟩
  · rw [if_neg h1, if_pos h]
    exact ⟨_, _, rfl, by simp [sz, h1], .inr (by omega)⟩
theorem read_inf (b : Nat) (h : b % 9223372036854775808 = 9218868437227405312) : Ieee.double.read b = .infinity (sgn b) := by
  unfold Ieee.Format.read
  simp only [lp, bin, infR, sigW]
  rw [if_neg (by omega), if_neg (by omega), if_pos h]
theorem read_nan (b : Nat) (h : 9218868437227405312 < b % 9223372036854775808) : ∃ f, Ieee.double.read b = .nan (sgn b) f := by
  unfold Ieee.Format.read
  simp only [lp, bin, infR, sigW]
  rw [if_neg (by omega), if_neg (by omega), if_neg (by omega)]
  exact ⟨_, rfl⟩

theorem signed_add (s : Bool) (m a d : Nat) : Ieee.signed s m (a + d) = Ieee.signed s m a * 2 ^ d := by
  unfold Ieee.signed
  simp only [Nat.shiftLeft_eq, Nat.pow_add]
  cases s <;> simp [Int.neg_mul, Int.mul_assoc]

theorem order_num (s t : Bool) (m n p q : Nat) :
    Ieee.Datum.order (.number s m (-1074 + (p : Int))) (.number t n (-1074 + (q : Int))) = some (cmpI (Ieee.signed s m p) (Ieee.signed t n q)) := by
  show some (compare _ _) = _
  rw [cmpI_int]
  have e1 : Ieee.signed s m p = Ieee.signed s m ((-1074 + (p : Int)) - min (-1074 + (p : Int)) (-1074 + (q : Int))).toNat * 2 ^ min p q := by
    rw [← signed_add]; congr 1; omega
  have e2 : Ieee.signed t n q = Ieee.signed t n ((-1074 + (q : Int)) - min (-1074 + (p : Int)) (-1074 + (q : Int))).toNat * 2 ^ min p q := by
    rw [← signed_add]; congr 1; omega
  rw [e1, e2, cmpI_scale]

theorem sgn_eq (b : Nat) (h : b < 18446744073709551616) : sgn b = decide (9223372036854775808 ≤ b) := by
  unfold sgn
  by_cases h1 : b < 9223372036854775808
  · have : b / 9223372036854775808 % 2 = 0 := by omega
    simp [this]; omega
  · have : b / 9223372036854775808 % 2 = 1 := by omega
    simp [this]; omega

theorem val_signed (b m p : Nat) (h : b < 18446744073709551616) (e : m * 2 ^ p = sz (b % 9223372036854775808)) : Ieee.signed (sgn b) m p = val b := by
  unfold Ieee.signed val
  rw [sgn_eq b h, Nat.shiftLeft_eq, e]
  by_cases h1 : b < 9223372036854775808
  · rw [if_neg (by simpa using h1), if_pos h1]
  · rw [if_pos (by simpa using h1), if_neg h1]

theorem big (r : Nat) (h : r < 9218868437227405312) : (sz r : Int) < sz 9218868437227405312 := by exact_mod_cast sz_lt h

theorem val_lt (x : Nat) (h : x % 9223372036854775808 < 9218868437227405312) : val x < sz 9218868437227405312 ∧ -(sz 9218868437227405312 : Int) < val x := by
  have := big _ h
  unfold val
  split <;> omega
theorem val_top (y : Nat) (h2 : y % 9223372036854775808 = 9218868437227405312) (hy : y < 18446744073709551616) : (sgn y = true ∧ val y = -(sz 9218868437227405312 : Int)) ∨ (sgn y = false ∧ val y = sz 9218868437227405312) := by
  rw [sgn_eq y hy]
  unfold val
  rw [h2]
  by_cases k2 : y < 9223372036854775808
  · exact .inr ⟨by simpa using k2, if_pos k2⟩
  · exact .inl ⟨by simpa using k2, if_neg k2⟩
theorem top_pos : (0 : Int) < sz 9218868437227405312 := by
  have h : (sz 0 : Int) < sz 9218868437227405312 := by exact_mod_cast sz_lt (by decide)
  have e : sz 0 = 0 := rfl
  rw [e] at h
  exact h

/-- Two words that are numbers stand as their sizes do. -/
theorem ord_eq (x y : Nat) (hx : x < 18446744073709551616) (hy : y < 18446744073709551616) (nx : nanB x = false) (ny : nanB y = false) : ord x y = some (cmpI (val x) (val y)) := by
  show (Ieee.double.read x).order (Ieee.double.read y) = _
  simp only [nanB, decide_eq_false_iff_not, Nat.not_lt] at nx ny
  have tp := top_pos
  rcases Nat.lt_or_eq_of_le nx with h1 | h1 <;> rcases Nat.lt_or_eq_of_le ny with h2 | h2
  · obtain ⟨m, p, e, k, _⟩ := read_num x h1
    obtain ⟨n, q, e', k', _⟩ := read_num y h2
    rw [e, e', order_num, val_signed x m p hx k, val_signed y n q hy k']
  · obtain ⟨m, p, e, k, _⟩ := read_num x h1
    rw [e, read_inf y h2]
    obtain ⟨b1, b2⟩ := val_lt x h1
    show some (if sgn y then Ordering.gt else Ordering.lt) = _
    rcases val_top y h2 hy with ⟨s1, v1⟩ | ⟨s1, v1⟩
    · rw [if_pos s1, v1]; unfold cmpI; rw [if_neg (by omega), if_neg (by omega)]
    · rw [if_neg (by rw [s1]; simp), v1]; unfold cmpI; rw [if_pos (by omega)]
  · obtain ⟨m, p, e, k, _⟩ := read_num y h2
    rw [e, read_inf x h1]
    obtain ⟨b1, b2⟩ := val_lt y h2
    show some (if sgn x then Ordering.lt else Ordering.gt) = _
    rcases val_top x h1 hx with ⟨s1, v1⟩ | ⟨s1, v1⟩
    · rw [if_pos s1, v1]; unfold cmpI; rw [if_pos (by omega)]
    · rw [if_neg (by rw [s1]; simp), v1]; unfold cmpI; rw [if_neg (by omega), if_neg (by omega)]
  · rw [read_inf x h1, read_inf y h2]
    show some (compare (sgn y).toNat (sgn x).toNat) = _
    rw [cmpI_nat]
    rcases val_top x h1 hx with ⟨s1, v1⟩ | ⟨s1, v1⟩ <;> rcases val_top y h2 hy with ⟨s2, v2⟩ | ⟨s2, v2⟩
    · rw [s1, v1, s2, v2]; unfold cmpI; simp
    · rw [s1, v1, s2, v2]; unfold cmpI; rw [if_pos (show -(sz 9218868437227405312 : Int) < _ by omega)]; rfl
    · rw [s1, v1, s2, v2]; unfold cmpI; rw [if_neg (show ¬ (sz 9218868437227405312 : Int) < _ by omega), if_neg (show ¬ (sz 9218868437227405312 : Int) = _ by omega)]; rfl
    · rw [s1, v1, s2, v2]; unfold cmpI; simp

theorem ord_nan_l (x y : Nat) (nx : nanB x = true) : ord x y = none := by
  show (Ieee.double.read x).order (Ieee.double.read y) = _
  simp only [nanB, decide_eq_true_eq] at nx
  obtain ⟨f, e⟩ := read_nan x nx
  rw [e]; rfl
theorem ord_nan_r (x y : Nat) (ny : nanB y = true) : ord x y = none := by
  show (Ieee.double.read x).order (Ieee.double.read y) = _
  simp only [nanB, decide_eq_true_eq] at ny
  obtain ⟨f, e⟩ := read_nan y ny
  rw [e]
  cases Ieee.double.read x <;> rfl

theorem ord_self (b : Nat) (hb : b < 18446744073709551616) : (FloatKind.f64.format.order b b != some Ordering.eq) = nanB b := by
  by_cases h : nanB b = true
  · rw [h, show FloatKind.f64.format.order b b = none from ord_nan_l b b h]; rfl
  · have h' : nanB b = false := by simpa using h
    rw [h', show FloatKind.f64.format.order b b = _ from ord_eq b b hb hb h' h']
    unfold cmpI; simp
theorem ord_self' (b : Nat) (hb : b < 18446744073709551616) : (FloatKind.f64.format.order b b == some Ordering.eq) = !nanB b := by
  have := ord_self b hb
  rw [bne] at this
  rw [← this]; simp

/-- The code of a number, as an integer that goes up with its size. -/
theorem code_lt (x y : Nat) (hx : x < 18446744073709551616) (hy : y < 18446744073709551616) (nx : nanB x = false) (ny : nanB y = false) (h : val x < val y) : codeN x < codeN y := by
  unfold val at h
  unfold codeN
  simp only [nx, ny, Bool.false_eq_true, if_false]
  by_cases k1 : x < 9223372036854775808 <;> by_cases k2 : y < 9223372036854775808 <;> simp only [k1, k2, if_true, if_false] at h ⊢
  · have := (sz_lt_iff _ _).1 (show sz (x % 9223372036854775808) < sz (y % 9223372036854775808) by omega)
    omega
  · omega
  · omega
  · have := (sz_lt_iff _ _).1 (show sz (y % 9223372036854775808) < sz (x % 9223372036854775808) by omega)
    omega
theorem val_eq (x y : Nat) (hx : x < 18446744073709551616) (hy : y < 18446744073709551616) (h : val x = val y) : x = y ∨ (val x = 0 ∧ val y = 0) := by
  unfold val at h ⊢
  by_cases k1 : x < 9223372036854775808 <;> by_cases k2 : y < 9223372036854775808 <;> simp only [k1, k2, if_true, if_false] at h ⊢
  · have := sz_inj (show sz (x % 9223372036854775808) = sz (y % 9223372036854775808) by omega)
    omega
  · omega
  · omega
  · have := sz_inj (show sz (x % 9223372036854775808) = sz (y % 9223372036854775808) by omega)
    omega
theorem val_zero (x : Nat) (hx : x < 18446744073709551616) (h : val x = 0) : x = 0 ∨ x = 9223372036854775808 := by
  unfold val at h
  have h0 : sz (x % 9223372036854775808) = sz 0 := by
    have e : sz 0 = 0 := rfl
    rw [e]
    split at h <;> omega
  have := sz_inj h0
  omega
end Go.Proofs.YticflknfkaoejaaDoor
