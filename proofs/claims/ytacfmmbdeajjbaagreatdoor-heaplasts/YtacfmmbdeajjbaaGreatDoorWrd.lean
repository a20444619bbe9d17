/- The heap's own words: bits of free blocks, what was asked for. -/
import Derived.Test.YtacfmmbdeajjbaaGreatDoorCov
import Derived.Laws.BitsAllLaws
namespace Go.Proofs.YtacfmmbdeajjbaaGreatDoor
open Go.RowKit

/-- Where the bits of a level begin, and how many words they fill. -/
def Bw (k : Nat) : Nat := match k with | 0 => 18 | 1 => 26 | 2 => 30 | 3 => 32 | 4 => 33 | 5 => 34 | _ => 35
def gr (k : Nat) : Nat := match k with | 0 => 8 | 1 => 4 | 2 => 2 | 3 => 1 | 4 => 1 | 5 => 1 | 6 => 1 | _ => 0

def fre (f : Nat → Int) (k b : Nat) : Bool := decide (b < 64 * gr k) && (f (Bw k + b / 64)).toNat.testBit (b % 64)
def dig (x i : Nat) : Nat := x / 2 ^ (16 * i) % 65536
def ask (f : Nat → Int) (u : Nat) : Nat := if u < 480 then dig (f (36 + u / 4)).toNat (u % 4) else 0

theorem gr_ge {k b : Nat} (hk : k < 7) (hb : b < 478 / 2 ^ k) : b < 64 * gr k := by
  rcases lt7 hk with rfl | rfl | rfl | rfl | rfl | rfl | rfl <;> simp [gr] at hb ⊢ <;> omega

/-- A bit is set or cleared. -/
def bitTo (x j : Nat) (v : Bool) : Nat := (x &&& (18446744073709551615 - 2 ^ j)) ||| (if v then 2 ^ j else 0)
theorem bitTo_test (x j : Nat) (v : Bool) (hj : j < 64) (i : Nat) (hi : i < 64) : (bitTo x j v).testBit i = if i = j then v else x.testBit i := by
  unfold bitTo
  have e : 18446744073709551615 - 2 ^ j = 2 ^ 64 - (2 ^ j + 1) := by omega
  have hlt : 2 ^ j < 2 ^ 64 := Nat.pow_lt_pow_right (by omega) hj
  rw [Nat.testBit_or, Nat.testBit_and, e, Nat.testBit_two_pow_sub_succ hlt, Nat.testBit_two_pow]
  by_cases h : i = j
  · subst h
    cases v
    · simp
    · simp
  · rw [if_neg h]
    cases v
    · simp [hi, Ne.symm h]
    · simp [hi, Ne.symm h]
theorem bitTo_lt (x j : Nat) (v : Bool) (hx : x < 18446744073709551616) (hj : j < 64) : bitTo x j v < 18446744073709551616 := by
  have hlt : 2 ^ j < 2 ^ 64 := Nat.pow_lt_pow_right (by omega) hj
  unfold bitTo
  refine Nat.or_lt_two_pow (n := 64) (Nat.lt_of_le_of_lt Nat.and_le_left hx) ?_
  split
  · exact hlt
  · decide

theorem gr_lt {k b : Nat} (h : b < 64 * gr k) : k < 7 := by
  refine Classical.byContradiction fun hk => ?_
  unfold gr at h
  split at h <;> omega
theorem fre_set {f : Nat → Int} {k b : Nat} (hb : b < 64 * gr k) (v : Bool) : fre (upd f (Bw k + b / 64) (bitTo (f (Bw k + b / 64)).toNat (b % 64) v : Nat)) = setF (fre f) k b v := by
  have hk := gr_lt hb
  funext j c
  unfold setF fre
  by_cases hc : c < 64 * gr j
  · have hj := gr_lt hc
    have key : Bw j + c / 64 = Bw k + b / 64 ↔ j = k ∧ c / 64 = b / 64 := by
      rcases lt7 hj with rfl | rfl | rfl | rfl | rfl | rfl | rfl <;> rcases lt7 hk with rfl | rfl | rfl | rfl | rfl | rfl | rfl <;> simp [Bw, gr] at hc hb ⊢ <;> omega
    by_cases e : Bw j + c / 64 = Bw k + b / 64
    · obtain ⟨rfl, e2⟩ := key.1 e
      rw [e, upd_same]
      simp only [Int.toNat_natCast, decide_eq_true hc, Bool.true_and]
      rw [bitTo_test _ _ _ (Nat.mod_lt _ (by omega)) _ (Nat.mod_lt _ (by omega))]
      by_cases e3 : c % 64 = b % 64
      · have : c = b := by omega
        simp [this]
      · have : c ≠ b := fun x => e3 (by rw [x])
        simp [e3, this]
    · rw [upd_other _ _ e, if_neg]
      rintro ⟨rfl, rfl⟩; exact e rfl
  · rw [if_neg (by rintro ⟨rfl, rfl⟩; exact hc hb)]
    simp [hc]

theorem Bw_lt {k b : Nat} (hb : b < 64 * gr k) : 18 ≤ Bw k + b / 64 ∧ Bw k + b / 64 < 36 := by
  have hk := gr_lt hb
  rcases lt7 hk with rfl | rfl | rfl | rfl | rfl | rfl | rfl <;> simp [Bw, gr] at hb ⊢ <;> omega

/-- A digit of sixteen bits is set. -/
def digTo (x i y : Nat) : Nat := (x &&& (18446744073709551615 - 65535 * 2 ^ (16 * i))) ||| (y * 2 ^ (16 * i))
theorem dig_test (x i j : Nat) : (dig x i).testBit j = (decide (j < 16) && x.testBit (16 * i + j)) := by
  unfold dig
  rw [show (65536 : Nat) = 2 ^ 16 from rfl, Nat.testBit_mod_two_pow, Nat.testBit_div_two_pow, Nat.add_comm]
theorem mask_test (i n : Nat) (hi : i < 4) (hn : n < 64) : (18446744073709551615 - 65535 * 2 ^ (16 * i)).testBit n = ! (decide (16 * i ≤ n) && decide (n < 16 * i + 16)) := by
  have e : 18446744073709551615 - 65535 * 2 ^ (16 * i) = 2 ^ 64 - (65535 * 2 ^ (16 * i) + 1) := by omega
  have hlt : 65535 * 2 ^ (16 * i) < 2 ^ 64 := by
    rcases (show i = 0 ∨ i = 1 ∨ i = 2 ∨ i = 3 by omega) with rfl | rfl | rfl | rfl <;> decide
  rw [e, Nat.testBit_two_pow_sub_succ hlt, Nat.testBit_mul_two_pow, show (65535 : Nat) = 2 ^ 16 - 1 from rfl, Nat.testBit_two_pow_sub_one]
  by_cases h1 : 16 * i ≤ n <;> by_cases h2 : n < 16 * i + 16
  · have : n - 16 * i < 16 := by omega
    simp [hn, h1, h2, this]
  · have : ¬ n - 16 * i < 16 := by omega
    simp [hn, h1, h2, this]
  · simp [hn, h1]
  · simp [hn, h1]
theorem digTo_dig (x i y j : Nat) (hi : i < 4) (hj : j < 4) (hy : y < 65536) : dig (digTo x i y) j = if j = i then y else dig x j := by
  refine Nat.eq_of_testBit_eq fun n => ?_
  rw [dig_test]
  by_cases hn : n < 16
  · unfold digTo
    rw [Nat.testBit_or, Nat.testBit_and, mask_test i _ hi (by omega), Nat.testBit_mul_two_pow]
    by_cases e : j = i
    · subst e
      rw [if_pos rfl]
      simp [hn]
    · rw [if_neg e, dig_test]
      have h1 : ¬ (16 * i ≤ 16 * j + n ∧ 16 * j + n < 16 * i + 16) := by omega
      have h2 : (decide (16 * i ≤ 16 * j + n) && decide (16 * j + n < 16 * i + 16)) = false := by
        rw [← Bool.decide_and]; exact decide_eq_false h1
      rw [h2]
      have h3 : (decide (16 * j + n ≥ 16 * i) && y.testBit (16 * j + n - 16 * i)) = false := by
        by_cases h : 16 * j + n ≥ 16 * i
        · rw [Nat.testBit_lt_two_pow (Nat.lt_of_lt_of_le hy (Nat.pow_le_pow_right (n := 2) (by omega) (show 16 ≤ 16 * j + n - 16 * i by omega)))]; simp
        · simp [h]
      rw [h3]
      simp [hn]
  · have h1 : (if j = i then y else dig x j).testBit n = false := by
      split
      · exact Nat.testBit_lt_two_pow (Nat.lt_of_lt_of_le hy (Nat.pow_le_pow_right (n := 2) (by omega) (show 16 ≤ n by omega)))
      · rw [dig_test]; simp [hn]
    rw [h1]; simp [hn]
theorem digTo_lt (x i y : Nat) (hx : x < 18446744073709551616) (hi : i < 4) (hy : y < 65536) : digTo x i y < 18446744073709551616 := by
  unfold digTo
  refine Nat.or_lt_two_pow (n := 64) (Nat.lt_of_le_of_lt Nat.and_le_left hx) ?_
  rcases (show i = 0 ∨ i = 1 ∨ i = 2 ∨ i = 3 by omega) with rfl | rfl | rfl | rfl <;> simp <;> omega

theorem ask_of {f : Nat → Int} {u : Nat} (hu : u < 480) : ask f u = dig (f (36 + u / 4)).toNat (u % 4) := if_pos hu
theorem ask_no {f : Nat → Int} {u : Nat} (hu : ¬ u < 480) : ask f u = 0 := if_neg hu
theorem ask_set {f : Nat → Int} {u y : Nat} (hu : u < 480) (hy : y < 65536) : ask (upd f (36 + u / 4) (digTo (f (36 + u / 4)).toNat (u % 4) y : Nat)) = setK (ask f) u y := by
  funext v
  by_cases hv : v < 480
  · rw [ask_of hv]
    by_cases e : v / 4 = u / 4
    · rw [e, upd_same, Int.toNat_natCast, digTo_dig _ _ _ _ (Nat.mod_lt _ (by omega)) (Nat.mod_lt _ (by omega)) hy]
      by_cases e2 : v % 4 = u % 4
      · rw [if_pos e2]; unfold setK; rw [if_pos (by omega)]
      · rw [if_neg e2]; unfold setK; rw [if_neg (fun x => e2 (by rw [x])), ask_of hv, e]
    · rw [upd_other _ _ (by omega)]; unfold setK; rw [if_neg (fun x => e (by rw [x])), ask_of hv]
  · rw [ask_no hv]; unfold setK; rw [if_neg (by omega), ask_no hv]
theorem ask_upd {f : Nat → Int} {i : Nat} (v : Int) (hi : i < 36 ∨ 156 ≤ i) : ask (upd f i v) = ask f := by
  funext u
  by_cases hu : u < 480
  · rw [ask_of hu, ask_of hu, upd_other _ _ (by omega)]
  · rw [ask_no hu, ask_no hu]
theorem fre_upd {f : Nat → Int} {i : Nat} (v : Int) (hi : i < 18 ∨ 36 ≤ i) : fre (upd f i v) = fre f := by
  funext k b
  unfold fre
  by_cases hb : b < 64 * gr k
  · have := Bw_lt hb
    rw [upd_other _ _ (by omega)]
  · simp [hb]
theorem ask_lt (f : Nat → Int) (u : Nat) : ask f u < 65536 := by
  unfold ask dig
  split
  · exact Nat.mod_lt _ (by omega)
  · omega
end Go.Proofs.YtacfmmbdeajjbaaGreatDoor
