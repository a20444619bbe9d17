/- The heap's own words: bits of free blocks, what was asked for. -/
import Derived.Test.YtdgobaknbjlahaaGreatDoorGCov
import Derived.Laws.BitsAllLaws
namespace Go.Proofs.YtdgobaknbjlahaaGreatDoor
open Go.RowKit

/-- How many words the bits of a level fill, and where they begin, in a heap of nu units. -/
def gr (nu k : Nat) : Nat := if k < 7 then (nu / 2 ^ k + 63) / 64 else 0
def Bw (nu : Nat) : Nat → Nat
  | 0 => 18
  | k + 1 => Bw nu k + gr nu k
/-- Where it stands what was asked for, how many words that fills, and the place of the first unit. -/
def aw (nu : Nat) : Nat := Bw nu 7
def qa (nu : Nat) : Nat := (nu + 3) / 4
def fi (nu : Nat) : Nat := (aw nu + qa nu + 7) / 8 * 8

/-- A heap of nu units on a store of sz words. -/
structure Geo (nu sz : Nat) : Prop where
  lo : 128 ≤ nu
  hi : nu ≤ 4000
  room : fi nu + 8 * nu ≤ sz
  top : sz ≤ 40000
  stop : ∀ u, nu < u → u ≤ sz / 8 → sz < fi u + 8 * u

theorem gr_div {nu k : Nat} (hk : k < 7) : gr nu k = (nu / 2 ^ k + 63) / 64 := if_pos hk
theorem gr_le' (nu k : Nat) : gr nu k ≤ (nu + 63) / 64 := by
  unfold gr
  split
  · have : nu / 2 ^ k ≤ nu := Nat.div_le_self _ _
    omega
  · omega
theorem Bw_ge (nu k : Nat) : 18 ≤ Bw nu k := by
  induction k with
  | zero => exact Nat.le_refl _
  | succ k ih => unfold Bw; omega
theorem Bw_mono {nu j k : Nat} (h : j < k) : Bw nu j + gr nu j ≤ Bw nu k := by
  induction k with
  | zero => omega
  | succ k ih =>
    show _ ≤ Bw nu k + gr nu k
    by_cases e : j = k
    · subst e; exact Nat.le_refl _
    · have := ih (by omega); omega
theorem aw_eq (nu : Nat) : aw nu = 18 + (nu + 63) / 64 + (nu / 2 + 63) / 64 + (nu / 4 + 63) / 64 + (nu / 8 + 63) / 64 + (nu / 16 + 63) / 64 + (nu / 32 + 63) / 64 + (nu / 64 + 63) / 64 := by
  simp [aw, Bw, gr]
theorem aw_le {nu : Nat} (h : nu ≤ 8000) : aw nu ≤ 300 := by rw [aw_eq]; omega
theorem aw_ge (nu : Nat) : 18 ≤ aw nu := Bw_ge nu 7
theorem fi_ge (nu : Nat) : aw nu + qa nu ≤ fi nu := by unfold fi; omega
theorem fi_le (nu : Nat) : fi nu ≤ aw nu + qa nu + 7 := by unfold fi; omega
theorem fi_8 (nu : Nat) : fi nu % 8 = 0 := by unfold fi; omega
theorem fi_top {nu : Nat} (h : nu ≤ 8000) : fi nu ≤ 2400 := by have := fi_le nu; have := aw_le h; unfold qa at *; omega
theorem qa_ge (nu : Nat) : nu ≤ 4 * qa nu ∧ 4 * qa nu < nu + 4 := by unfold qa; omega
theorem Geo.b {nu sz : Nat} (g : Geo nu sz) : (18 ≤ aw nu ∧ aw nu ≤ 300) ∧ (aw nu + qa nu ≤ fi nu ∧ fi nu ≤ 2400) ∧ (nu ≤ 4 * qa nu ∧ 4 * qa nu < nu + 4) ∧ fi nu + 8 * nu ≤ sz ∧ (128 ≤ nu ∧ nu ≤ 4000) ∧ sz ≤ 40000 := by
  have h := g.hi
  have a := aw_ge nu
  have b := aw_le (nu := nu) (by omega)
  have c := fi_ge nu
  have d := fi_top (nu := nu) (by omega)
  have e := qa_ge nu
  exact ⟨⟨a, b⟩, ⟨c, d⟩, e, g.room, ⟨g.lo, h⟩, g.top⟩
theorem Bw_up {u v : Nat} (h : u ≤ v) (k : Nat) : Bw u k ≤ Bw v k := by
  induction k with
  | zero => exact Nat.le_refl _
  | succ k ih =>
    refine Nat.add_le_add ih ?_
    unfold gr
    split
    · exact Nat.div_le_div_right (Nat.add_le_add_right (Nat.div_le_div_right h) _)
    · exact Nat.le_refl _
theorem fi_mono {u v : Nat} (h : u ≤ v) : fi u ≤ fi v := by
  have h1 : aw u ≤ aw v := Bw_up h 7
  unfold fi qa
  generalize aw u = a at *
  generalize aw v = b at *
  omega

theorem geo16 : Geo 478 3984 := ⟨by omega, by omega, by decide, by omega, fun u h1 h2 => by have := fi_mono (u := 479) (v := u) (by omega); have e : fi 479 = 160 := (by decide); omega⟩
theorem geo24 : Geo 1467 12176 := ⟨by omega, by omega, by decide, by omega, fun u h1 h2 => by have := fi_mono (u := 1468) (v := u) (by omega); have e : fi 1468 = 440 := (by decide); omega⟩

def fre (nu : Nat) (f : Nat → Int) (k b : Nat) : Bool := decide (b < 64 * gr nu k) && (f (Bw nu k + b / 64)).toNat.testBit (b % 64)
def dig (x i : Nat) : Nat := x / 2 ^ (16 * i) % 65536
def ask (nu : Nat) (f : Nat → Int) (u : Nat) : Nat := if u < 4 * qa nu then dig (f (aw nu + u / 4)).toNat (u % 4) else 0

section
variable {nu : Nat}
theorem gr_ge {k b : Nat} (hk : k < 7) (hb : b < nu / 2 ^ k) : b < 64 * gr nu k := by
  rw [gr_div hk]; omega
theorem gr_lt {k b : Nat} (h : b < 64 * gr nu k) : k < 7 := by
  refine Classical.byContradiction fun hk => ?_
  rw [gr, if_neg hk] at h
  omega
end

/-- A bit is set or cleared. -/
def bitTo (x j : Nat) (v : Bool) : Nat := (x &&& (18446744073709551615 - 2 ^ j)) ||| (if v then 2 ^ j else 0)
theorem bitTo_test (x j : Nat) (v : Bool) (hj : j < 64) (i : Nat) (hi : i < 64) : (bitTo x j v).testBit i = if i = j then v else x.testBit i := by
  unfold bitTo
  have e : 18446744073709551615 - 2 ^ j = 2 ^ 64 - (2 ^ j + 1) := by omega
  have hlt : 2 ^ j < 2 ^ 64 := Nat.pow_lt_pow_right (by omega) hj
  rw [Nat.testBit_or, Nat.testBit_and, e, Nat.testBit_two_pow_sub_succ hlt, Nat.testBit_two_pow]
  by_cases h : i = j
  · subst h
    cases v
    · simp
    · simp
  · rw [if_neg h]
    cases v
    · simp [hi, Ne.symm h]
    · simp [hi, Ne.symm h]
theorem bitTo_lt (x j : Nat) (v : Bool) (hx : x < 18446744073709551616) (hj : j < 64) : bitTo x j v < 18446744073709551616 := by
  have hlt : 2 ^ j < 2 ^ 64 := Nat.pow_lt_pow_right (by omega) hj
  unfold bitTo
  refine Nat.or_lt_two_pow (n := 64) (Nat.lt_of_le_of_lt Nat.and_le_left hx) ?_
  split
  · exact hlt
  · decide

section
variable {nu : Nat}
theorem fre_set {f : Nat → Int} {k b : Nat} (hb : b < 64 * gr nu k) (v : Bool) : fre nu (upd f (Bw nu k + b / 64) (bitTo (f (Bw nu k + b / 64)).toNat (b % 64) v : Nat)) = setF (fre nu f) k b v := by
  funext j c
  unfold setF fre
  by_cases hc : c < 64 * gr nu j
  · have key : Bw nu j + c / 64 = Bw nu k + b / 64 ↔ j = k ∧ c / 64 = b / 64 := by
      rcases Nat.lt_trichotomy j k with h | h | h
      · have := Bw_mono (nu := nu) h; omega
      · subst h; omega
      · have := Bw_mono (nu := nu) h; omega
    by_cases e : Bw nu j + c / 64 = Bw nu k + b / 64
    · obtain ⟨rfl, e2⟩ := key.1 e
      rw [e, upd_same]
      simp only [Int.toNat_natCast, decide_eq_true hc, Bool.true_and]
      rw [bitTo_test _ _ _ (Nat.mod_lt _ (by omega)) _ (Nat.mod_lt _ (by omega))]
      by_cases e3 : c % 64 = b % 64
      · have : c = b := by omega
        simp [this]
      · have : c ≠ b := fun x => e3 (by rw [x])
        simp [e3, this]
    · rw [upd_other _ _ e, if_neg]
      rintro ⟨rfl, rfl⟩; exact e rfl
  · rw [if_neg (by rintro ⟨rfl, rfl⟩; exact hc hb)]
    simp [hc]

theorem Bw_lt {k b : Nat} (hb : b < 64 * gr nu k) : 18 ≤ Bw nu k + b / 64 ∧ Bw nu k + b / 64 < aw nu := by
  have h1 := Bw_ge nu k
  have h2 := Bw_mono (nu := nu) (gr_lt hb)
  unfold aw
  omega
end

/-- A digit of sixteen bits is set. -/
def digTo (x i y : Nat) : Nat := (x &&& (18446744073709551615 - 65535 * 2 ^ (16 * i))) ||| (y * 2 ^ (16 * i))
theorem dig_test (x i j : Nat) : (dig x i).testBit j = (decide (j < 16) && x.testBit (16 * i + j)) := by
  unfold dig
  rw [show (65536 : Nat) = 2 ^ 16 from rfl, Nat.testBit_mod_two_pow, Nat.testBit_div_two_pow, Nat.add_comm]
theorem mask_test (i n : Nat) (hi : i < 4) (hn : n < 64) : (18446744073709551615 - 65535 * 2 ^ (16 * i)).testBit n = ! (decide (16 * i ≤ n) && decide (n < 16 * i + 16)) := by
  have e : 18446744073709551615 - 65535 * 2 ^ (16 * i) = 2 ^ 64 - (65535 * 2 ^ (16 * i) + 1) := by omega
  have hlt : 65535 * 2 ^ (16 * i) < 2 ^ 64 := by
    rcases (show i = 0 ∨ i = 1 ∨ i = 2 ∨ i = 3 by omega) with rfl | rfl | rfl | rfl <;> decide
  rw [e, Nat.testBit_two_pow_sub_succ hlt, Nat.testBit_mul_two_pow, show (65535 : Nat) = 2 ^ 16 - 1 from rfl, Nat.testBit_two_pow_sub_one]
  by_cases h1 : 16 * i ≤ n <;> by_cases h2 : n < 16 * i + 16
  · have : n - 16 * i < 16 := by omega
    simp [hn, h1, h2, this]
  · have : ¬ n - 16 * i < 16 := by omega
    simp [hn, h1, h2, this]
  · simp [hn, h1]
  · simp [hn, h1]
theorem digTo_dig (x i y j : Nat) (hi : i < 4) (hj : j < 4) (hy : y < 65536) : dig (digTo x i y) j = if j = i then y else dig x j := by
  refine Nat.eq_of_testBit_eq fun n => ?_
  rw [dig_test]
  by_cases hn : n < 16
  · unfold digTo
    rw [Nat.testBit_or, Nat.testBit_and, mask_test i _ hi (by omega), Nat.testBit_mul_two_pow]
    by_cases e : j = i
    · subst e
      rw [if_pos rfl]
      simp [hn]
    · rw [if_neg e, dig_test]
      have h1 : ¬ (16 * i ≤ 16 * j + n ∧ 16 * j + n < 16 * i + 16) := by omega
      have h2 : (decide (16 * i ≤ 16 * j + n) && decide (16 * j + n < 16 * i + 16)) = false := by
        rw [← Bool.decide_and]; exact decide_eq_false h1
      rw [h2]
      have h3 : (decide (16 * j + n ≥ 16 * i) && y.testBit (16 * j + n - 16 * i)) = false := by
        by_cases h : 16 * j + n ≥ 16 * i
        · rw [Nat.testBit_lt_two_pow (Nat.lt_of_lt_of_le hy (Nat.pow_le_pow_right (n := 2) (by omega) (show 16 ≤ 16 * j + n - 16 * i by omega)))]; simp
        · simp [h]
      rw [h3]
      simp [hn]
  · have h1 : (if j = i then y else dig x j).testBit n = false := by
      split
      · exact Nat.testBit_lt_two_pow (Nat.lt_of_lt_of_le hy (Nat.pow_le_pow_right (n := 2) (by omega) (show 16 ≤ n by omega)))
      · rw [dig_test]; simp [hn]
    rw [h1]; simp [hn]
theorem digTo_lt (x i y : Nat) (hx : x < 18446744073709551616) (hi : i < 4) (hy : y < 65536) : digTo x i y < 18446744073709551616 := by
  unfold digTo
  refine Nat.or_lt_two_pow (n := 64) (Nat.lt_of_le_of_lt Nat.and_le_left hx) ?_
  rcases (show i = 0 ∨ i = 1 ∨ i = 2 ∨ i = 3 by omega) with rfl | rfl | rfl | rfl <;> simp <;> omega

section
variable {nu : Nat}
theorem ask_of {f : Nat → Int} {u : Nat} (hu : u < 4 * qa nu) : ask nu f u = dig (f (aw nu + u / 4)).toNat (u % 4) := if_pos hu
theorem ask_no {f : Nat → Int} {u : Nat} (hu : ¬ u < 4 * qa nu) : ask nu f u = 0 := if_neg hu
theorem ask_set {f : Nat → Int} {u y : Nat} (hu : u < 4 * qa nu) (hy : y < 65536) : ask nu (upd f (aw nu + u / 4) (digTo (f (aw nu + u / 4)).toNat (u % 4) y : Nat)) = setK (ask nu f) u y := by
  funext v
  by_cases hv : v < 4 * qa nu
  · rw [ask_of hv]
    by_cases e : v / 4 = u / 4
    · rw [e, upd_same, Int.toNat_natCast, digTo_dig _ _ _ _ (Nat.mod_lt _ (by omega)) (Nat.mod_lt _ (by omega)) hy]
      by_cases e2 : v % 4 = u % 4
      · rw [if_pos e2]; unfold setK; rw [if_pos (by omega)]
      · rw [if_neg e2]; unfold setK; rw [if_neg (fun x => e2 (by rw [x])), ask_of hv, e]
    · rw [upd_other _ _ (by omega)]; unfold setK; rw [if_neg (fun x => e (by rw [x])), ask_of hv]
  · rw [ask_no hv]; unfold setK; rw [if_neg (by omega), ask_no hv]
theorem ask_upd {f : Nat → Int} {i : Nat} (v : Int) (hi : i < aw nu ∨ aw nu + qa nu ≤ i) : ask nu (upd f i v) = ask nu f := by
  funext u
  by_cases hu : u < 4 * qa nu
  · rw [ask_of hu, ask_of hu, upd_other _ _ (by omega)]
  · rw [ask_no hu, ask_no hu]
theorem fre_upd {f : Nat → Int} {i : Nat} (v : Int) (hi : i < 18 ∨ aw nu ≤ i) : fre nu (upd f i v) = fre nu f := by
  funext k b
  unfold fre
  by_cases hb : b < 64 * gr nu k
  · have := Bw_lt hb
    rw [upd_other _ _ (by omega)]
  · simp [hb]
theorem ask_lt (f : Nat → Int) (u : Nat) : ask nu f u < 65536 := by
  unfold ask dig
  split
  · exact Nat.mod_lt _ (by omega)
  · omega
end
end Go.Proofs.YtdgobaknbjlahaaGreatDoor
