/- Joined: GWrd GHf Rng GHr. -/
import Derived.Laws.BitsAllLaws
import Derived.Test.YtflnaiijdpihcaaGreatDoorShelf
import Derived.Lib.TrailingZeros
import Derived.Laws.Bits64b
import Derived.RangeFuncNested
import Derived.Sort.BigQuietIn
import Derived.StillTail
import Derived.Test.YtflnaiijdpihcaaGreatDoorP00
namespace Go.Proofs.YtflnaiijdpihcaaGreatDoor
open Go.RowKit

section
def gr (nu k : Nat) : Nat := if k < 7 then (nu / 2 ^ k + 63) / 64 else 0
def Bw (nu : Nat) : Nat → Nat
  | 0 => 18
  | k + 1 => Bw nu k + gr nu k
def aw (nu : Nat) : Nat := Bw nu 7
def qa (nu : Nat) : Nat := (nu + 3) / 4
def fi (nu : Nat) : Nat := (aw nu + qa nu + 7) / 8 * 8

structure Geo (nu sz : Nat) : Prop where
  lo : 128 ≤ nu
  hi : nu ≤ 4000
  room : fi nu + 8 * nu ≤ sz
  top : sz ≤ 40000
  stop : ∀ u, nu < u → u ≤ sz / 8 → sz < fi u + 8 * u

theorem gr_div {nu k : Nat} (hk : k < 7) : gr nu k = (nu / 2 ^ k + 63) / 64 := if_pos hk
theorem gr_le' (nu k : Nat) : gr nu k ≤ (nu + 63) / 64 := by
  unfold gr
  split
  · have : nu / 2 ^ k ≤ nu := Nat.div_le_self _ _
    omega
  · omega
theorem Bw_ge (nu k : Nat) : 18 ≤ Bw nu k := by
  induction k with
  | zero => exact Nat.le_refl _
  | succ k ih => unfold Bw; omega
theorem Bw_mono {nu j k : Nat} (h : j < k) : Bw nu j + gr nu j ≤ Bw nu k := by
  induction k with
  | zero => omega
  | succ k ih =>
    show _ ≤ Bw nu k + gr nu k
    by_cases e : j = k
    · subst e; exact Nat.le_refl _
    · have := ih (by omega); omega
theorem aw_eq (nu : Nat) : aw nu = 18 + (nu + 63) / 64 + (nu / 2 + 63) / 64 + (nu / 4 + 63) / 64 + (nu / 8 + 63) / 64 + (nu / 16 + 63) / 64 + (nu / 32 + 63) / 64 + (nu / 64 + 63) / 64 := by
  simp [aw, Bw, gr]
theorem aw_le {nu : Nat} (h : nu ≤ 8000) : aw nu ≤ 300 := by rw [aw_eq]; omega
theorem aw_ge (nu : Nat) : 18 ≤ aw nu := Bw_ge nu 7
theorem fi_ge (nu : Nat) : aw nu + qa nu ≤ fi nu := by unfold fi; omega
theorem fi_le (nu : Nat) : fi nu ≤ aw nu + qa nu + 7 := by unfold fi; omega
theorem fi_8 (nu : Nat) : fi nu % 8 = 0 := by unfold fi; omega
theorem fi_top {nu : Nat} (h : nu ≤ 8000) : fi nu ≤ 2400 := by have := fi_le nu; have := aw_le h; unfold qa at *; omega
theorem qa_ge (nu : Nat) : nu ≤ 4 * qa nu ∧ 4 * qa nu < nu + 4 := by unfold qa; omega
theorem Geo.b {nu sz : Nat} (g : Geo nu sz) : (18 ≤ aw nu ∧ aw nu ≤ 300) ∧ (aw nu + qa nu ≤ fi nu ∧ fi nu ≤ 2400) ∧ (nu ≤ 4 * qa nu ∧ 4 * qa nu < nu + 4) ∧ fi nu + 8 * nu ≤ sz ∧ (128 ≤ nu ∧ nu ≤ 4000) ∧ sz ≤ 40000 := by
  have h := g.hi
  have a := aw_ge nu
  have b := aw_le (nu := nu) (by omega)
  have c := fi_ge nu
  have d := fi_top (nu := nu) (by omega)
  have e := qa_ge nu
  exact ⟨⟨a, b⟩, ⟨c, d⟩, e, g.room, ⟨g.lo, h⟩, g.top⟩
theorem Bw_up {u v : Nat} (h : u ≤ v) (k : Nat) : Bw u k ≤ Bw v k := by
  induction k with
  | zero => exact Nat.le_refl _
  | succ k ih =>
    refine Nat.add_le_add ih ?_
    unfold gr
    split
    · exact Nat.div_le_div_right (Nat.add_le_add_right (Nat.div_le_div_right h) _)
    · exact Nat.le_refl _
theorem fi_mono {u v : Nat} (h : u ≤ v) : fi u ≤ fi v := by
  have h1 : aw u ≤ aw v := Bw_up h 7
  unfold fi qa
  generalize aw u = a at *
  generalize aw v = b at *
  omega

theorem geo16 : Geo 478 3984 := ⟨by omega, by omega, by decide, by omega, fun u h1 h2 => by have := fi_mono (u := 479) (v := u) (by omega); have e : fi 479 = 160 := (by decide); omega⟩
theorem geo24 : Geo 1467 12176 := ⟨by omega, by omega, by decide, by omega, fun u h1 h2 => by have := fi_mono (u := 1468) (v := u) (by omega); have e : fi 1468 = 440 := (by decide); omega⟩

def fre (nu : Nat) (f : Nat → Int) (k b : Nat) : Bool := decide (b < 64 * gr nu k) && (f (Bw nu k + b / 64)).toNat.testBit (b % 64)
def dig (x i : Nat) : Nat := x / 2 ^ (16 * i) % 65536
def ask (nu : Nat) (f : Nat → Int) (u : Nat) : Nat := if u < 4 * qa nu then dig (f (aw nu + u / 4)).toNat (u % 4) else 0

section
variable {nu : Nat}
theorem gr_ge {k b : Nat} (hk : k < 7) (hb : b < nu / 2 ^ k) : b < 64 * gr nu k := by
  rw [gr_div hk]; omega
theorem gr_lt {k b : Nat} (h : b < 64 * gr nu k) : k < 7 := by
  refine Classical.byContradiction fun hk => ?_
  rw [gr, if_neg hk] at h
  omega
end

def bitTo (x j : Nat) (v : Bool) : Nat := (x &&& (18446744073709551615 - 2 ^ j)) ||| (if v then 2 ^ j else 0)
theorem bitTo_test (x j : Nat) (v : Bool) (hj : j < 64) (i : Nat) (hi : i < 64) : (bitTo x j v).testBit i = if i = j then v else x.testBit i := by
  unfold bitTo
  have e : 18446744073709551615 - 2 ^ j = 2 ^ 64 - (2 ^ j + 1) := by omega
  have hlt : 2 ^ j < 2 ^ 64 := Nat.pow_lt_pow_right (by omega) hj
  rw [Nat.testBit_or, Nat.testBit_and, e, Nat.testBit_two_pow_sub_succ hlt, Nat.testBit_two_pow]
  by_cases h : i = j
  · subst h
    cases v
    · simp
    · simp
  · rw [if_neg h]
    cases v
    · simp [hi, Ne.symm h]
    · simp [hi, Ne.symm h]
theorem bitTo_lt (x j : Nat) (v : Bool) (hx : x < 18446744073709551616) (hj : j < 64) : bitTo x j v < 18446744073709551616 := by
  have hlt : 2 ^ j < 2 ^ 64 := Nat.pow_lt_pow_right (by omega) hj
  unfold bitTo
  refine Nat.or_lt_two_pow (n := 64) (Nat.lt_of_le_of_lt Nat.and_le_left hx) ?_
  split
  · exact hlt
  · decide

section
variable {nu : Nat}
theorem fre_set {f : Nat → Int} {k b : Nat} (hb : b < 64 * gr nu k) (v : Bool) : fre nu (upd f (Bw nu k + b / 64) (bitTo (f (Bw nu k + b / 64)).toNat (b % 64) v : Nat)) = setF (fre nu f) k b v := by
  funext j c
  unfold setF fre
  by_cases hc : c < 64 * gr nu j
  · have key : Bw nu j + c / 64 = Bw nu k + b / 64 ↔ j = k ∧ c / 64 = b / 64 := by
      rcases Nat.lt_trichotomy j k with h | h | h
      · have := Bw_mono (nu := nu) h; omega
      · subst h; omega
      · have := Bw_mono (nu := nu) h; omega
    by_cases e : Bw nu j + c / 64 = Bw nu k + b / 64
    · obtain ⟨rfl, e2⟩ := key.1 e
      rw [e, upd_same]
      simp only [Int.toNat_natCast, decide_eq_true hc, Bool.true_and]
      rw [bitTo_test _ _ _ (Nat.mod_lt _ (by omega)) _ (Nat.mod_lt _ (by omega))]
      by_cases e3 : c % 64 = b % 64
      · have : c = b := by omega
        simp [this]
      · have : c ≠ b := fun x => e3 (by rw [x])
        simp [e3, this]
    · rw [upd_other _ _ e, if_neg]
      rintro ⟨rfl, rfl⟩; exact e rfl
  · rw [if_neg (by rintro ⟨rfl, rfl⟩; exact hc hb)]
    simp [hc]

theorem Bw_lt {k b : Nat} (hb : b < 64 * gr nu k) : 18 ≤ Bw nu k + b / 64 ∧ Bw nu k + b / 64 < aw nu := by
  have h1 := Bw_ge nu k
  have h2 := Bw_mono (nu := nu) (gr_lt hb)
  unfold aw
  omega
end

def digTo (x i y : Nat) : Nat := (x &&& (18446744073709551615 - 65535 * 2 ^ (16 * i))) ||| (y * 2 ^ (16 * i))
theorem dig_test (x i j : Nat) : (dig x i).testBit j = (decide (j < 16) && x.testBit (16 * i + j)) := by
  unfold dig
  rw [show (65536 : Nat) = 2 ^ 16 from rfl, Nat.testBit_mod_two_pow, Nat.testBit_div_two_pow, Nat.add_comm]
theorem mask_test (i n : Nat) (hi : i < 4) (hn : n < 64) : (18446744073709551615 - 65535 * 2 ^ (16 * i)).testBit n = ! (decide (16 * i ≤ n) && decide (n < 16 * i + 16)) := by
  have e : 18446744073709551615 - 65535 * 2 ^ (16 * i) = 2 ^ 64 - (65535 * 2 ^ (16 * i) + 1) := by omega
  have hlt : 65535 * 2 ^ (16 * i) < 2 ^ 64 := by
    rcases (show i = 0 ∨ i = 1 ∨ i = 2 ∨ i = 3 by omega) with rfl | rfl | rfl | rfl <;> decide
  rw [e, Nat.testBit_two_pow_sub_succ hlt, Nat.testBit_mul_two_pow, show (65535 : Nat) = 2 ^ 16 - 1 from rfl, Nat.testBit_two_pow_sub_one]
  by_cases h1 : 16 * i ≤ n <;> by_cases h2 : n < 16 * i + 16
  · have : n - 16 * i < 16 := by omega
    simp [hn, h1, h2, this]
  · have : ¬ n - 16 * i < 16 := by omega
    simp [hn, h1, h2, this]
  · simp [hn, h1]
  · simp [hn, h1]
theorem digTo_dig (x i y j : Nat) (hi : i < 4) (hj : j < 4) (hy : y < 65536) : dig (digTo x i y) j = if j = i then y else dig x j := by
  refine Nat.eq_of_testBit_eq fun n => ?_
  rw [dig_test]
  by_cases hn : n < 16
  · unfold digTo
    rw [Nat.testBit_or, Nat.testBit_and, mask_test i _ hi (by omega), Nat.testBit_mul_two_pow]
    by_cases e : j = i
    · subst e
      rw [if_pos rfl]
      simp [hn]
    · rw [if_neg e, dig_test]
      have h1 : ¬ (16 * i ≤ 16 * j + n ∧ 16 * j + n < 16 * i + 16) := by omega
      have h2 : (decide (16 * i ≤ 16 * j + n) && decide (16 * j + n < 16 * i + 16)) = false := by
        rw [← Bool.decide_and]; exact decide_eq_false h1
      rw [h2]
      have h3 : (decide (16 * j + n ≥ 16 * i) && y.testBit (16 * j + n - 16 * i)) = false := by
        by_cases h : 16 * j + n ≥ 16 * i
        · rw [Nat.testBit_lt_two_pow (Nat.lt_of_lt_of_le hy (Nat.pow_le_pow_right (n := 2) (by omega) (show 16 ≤ 16 * j + n - 16 * i by omega)))]; simp
        · simp [h]
      rw [h3]
      simp [hn]
  · have h1 : (if j = i then y else dig x j).testBit n = false := by
      split
      · exact Nat.testBit_lt_two_pow (Nat.lt_of_lt_of_le hy (Nat.pow_le_pow_right (n := 2) (by omega) (show 16 ≤ n by omega)))
      · rw [dig_test]; simp [hn]
    rw [h1]; simp [hn]
theorem digTo_lt (x i y : Nat) (hx : x < 18446744073709551616) (hi : i < 4) (hy : y < 65536) : digTo x i y < 18446744073709551616 := by
  unfold digTo
  refine Nat.or_lt_two_pow (n := 64) (Nat.lt_of_le_of_lt Nat.and_le_left hx) ?_
  rcases (show i = 0 ∨ i = 1 ∨ i = 2 ∨ i = 3 by omega) with rfl | rfl | rfl | rfl <;> simp <;> omega

section
variable {nu : Nat}
theorem ask_of {f : Nat → Int} {u : Nat} (hu : u < 4 * qa nu) : ask nu f u = dig (f (aw nu + u / 4)).toNat (u % 4) := if_pos hu
theorem ask_no {f : Nat → Int} {u : Nat} (hu : ¬ u < 4 * qa nu) : ask nu f u = 0 := if_neg hu
theorem ask_set {f : Nat → Int} {u y : Nat} (hu : u < 4 * qa nu) (hy : y < 65536) : ask nu (upd f (aw nu + u / 4) (digTo (f (aw nu + u / 4)).toNat (u % 4) y : Nat)) = setK (ask nu f) u y := by
  funext v
  by_cases hv : v < 4 * qa nu
  · rw [ask_of hv]
    by_cases e : v / 4 = u / 4
    · rw [e, upd_same, Int.toNat_natCast, digTo_dig _ _ _ _ (Nat.mod_lt _ (by omega)) (Nat.mod_lt _ (by omega)) hy]
      by_cases e2 : v % 4 = u % 4
      · rw [if_pos e2]; unfold setK; rw [if_pos (by omega)]
      · rw [if_neg e2]; unfold setK; rw [if_neg (fun x => e2 (by rw [x])), ask_of hv, e]
    · rw [upd_other _ _ (by omega)]; unfold setK; rw [if_neg (fun x => e (by rw [x])), ask_of hv]
  · rw [ask_no hv]; unfold setK; rw [if_neg (by omega), ask_no hv]
theorem ask_upd {f : Nat → Int} {i : Nat} (v : Int) (hi : i < aw nu ∨ aw nu + qa nu ≤ i) : ask nu (upd f i v) = ask nu f := by
  funext u
  by_cases hu : u < 4 * qa nu
  · rw [ask_of hu, ask_of hu, upd_other _ _ (by omega)]
  · rw [ask_no hu, ask_no hu]
theorem fre_upd {f : Nat → Int} {i : Nat} (v : Int) (hi : i < 18 ∨ aw nu ≤ i) : fre nu (upd f i v) = fre nu f := by
  funext k b
  unfold fre
  by_cases hb : b < 64 * gr nu k
  · have := Bw_lt hb
    rw [upd_other _ _ (by omega)]
  · simp [hb]
theorem ask_lt (f : Nat → Int) (u : Nat) : ask nu f u < 65536 := by
  unfold ask dig
  split
  · exact Nat.mod_lt _ (by omega)
  · omega
end
end

section
set_option maxHeartbeats 400000 in
theorem h_groups (n s : Int) (h0 : 0 ≤ n) (h1 : n ≤ 65536) (h2 : 1 ≤ s) (h3 : s ≤ 64) (w : World) : Calls Tryz.prog 144 #[.int .i64 n, .int .i64 s] w fun e w' => e = .returned (.int .i64 ((n + s - 1) / s)) ∧ w' = w := by
  have hs : (s == 0) = false := by simp; omega
  have hq : Int.tdiv (n + s - 1) s = (n + s - 1) / s := Int.tdiv_eq_ediv_of_nonneg (by omega)
  have b1 : 0 ≤ (n + s - 1) / s := Int.ediv_nonneg (by omega) (by omega)
  have b2 : (n + s - 1) / s ≤ 70000 := Int.le_trans (Int.ediv_le_self _ (by omega)) (by omega)
  go_enter Tryz.func144, Tryz.ntmps144
  go_wp2
  go_ret
  exact ⟨rfl, rfl⟩

set_option maxHeartbeats 400000 in
theorem h_blocks {nu : Nat} (hb : Nat) (k : Nat) (hk : k < 7) (w : World) (_hn : nu ≤ 8000) (c1 : w.cell? ⟨hb, 1, none⟩ = some (.int .i64 nu)) : Calls Tryz.prog 146 #[ptr hb, .int .i64 k] w fun e w' => e = .returned (.int .i64 (nu / 2 ^ k : Nat)) ∧ w' = w := by
  have e1 : ((nu / 2 ^ k : Nat) : Int) = nu / 2 ^ k := by simp
  rw [e1]
  go_enter Tryz.func146, Tryz.ntmps146
  go_wp2
  go_ret
  exact ⟨rfl, rfl⟩

set_option maxHeartbeats 400000 in
theorem h_place {F : Nat} (hb : Nat) (u : Nat) (hu : u ≤ 8000) (w : World) (hF : F ≤ 3000) (c1 : w.cell? ⟨hb, 10, none⟩ = some (.int .i64 F)) : Calls Tryz.prog 68 #[ptr hb, .int .i64 u] w fun e w' => e = .returned (.int .i64 (F + u * 8)) ∧ w' = w := by
  go_enter Tryz.func68, Tryz.ntmps68
  go_wp2
  go_ret
  exact ⟨rfl, rfl⟩

set_option maxHeartbeats 400000 in
theorem h_all (hb : Nat) (u : Nat) (hu : u ≤ 8000) (w : World) (c1 : w.cell? ⟨hb, 1, none⟩ = some (.int .i64 u)) : Calls Tryz.prog 154 #[ptr hb] w fun e w' => e = .returned (.int .i64 (u * 8)) ∧ w' = w := by
  go_enter Tryz.func154, Tryz.ntmps154
  go_wp2
  go_ret
  exact ⟨rfl, rfl⟩

theorem lv_bit : ∀ x : Fin 512, Lib.bitLen (x.val / 8) = lv (x.val + 1) := by decide +kernel

set_option maxHeartbeats 400000 in
theorem h_level (x : Nat) (h1 : 1 ≤ x) (h2 : x ≤ 512) (w : World) : Calls Tryz.prog 118 #[.int .i64 x] w fun e w' => e = .returned (.int .i64 (lv x)) ∧ w' = w := by
  have K : Calls Tryz.prog 155 #[.int .u64 (((x : Int) - 1) / 8)] w _ := Tryz.bits_Len _ w (by omega) (by omega)
  have hl := lv_bit ⟨x - 1, by omega⟩
  have e1 : (((x : Int) - 1) / 8).toNat = (x - 1) / 8 := by omega
  have e2 : x - 1 + 1 = x := by omega
  simp only [e2] at hl
  rw [e1, hl] at K
  go_enter Tryz.func118, Tryz.ntmps118
  go_wp2_with (go_at_call 155; refine K.mono ?_; rintro e w' ⟨rfl, hh⟩; replace hh := hh.symm; subst hh)
  go_ret
  exact ⟨rfl, rfl⟩

theorem tz_key (x a : Nat) (hx : x < 18446744073709551616) (hx0 : x ≠ 0) (hlow : x &&& (18446744073709551616 - x) = a) :
    IntKind.u64.wrap (bits BinOp.and IntKind.u64 (x : Int) (IntKind.u64.wrap (-(x : Int))) * 285870213051353865) / 288230376151711744 = ((a * 285870213051353865 % 18446744073709551616 / 288230376151711744 : Nat) : Int) := by
  have e1 : IntKind.u64.wrap (-(x : Int)) = ((18446744073709551616 - x : Nat) : Int) := by rw [IntKind.wrap_u64]; omega
  rw [e1, u64_and_nat x _ hx (by omega), hlow, IntKind.wrap_u64]
  omega

set_option maxHeartbeats 1000000 in
theorem tz_core (x k idx : Nat) (w : World) (hx0 : ((x : Int) == 0) = false)
    (key : IntKind.u64.wrap (bits BinOp.and IntKind.u64 (x : Int) (IntKind.u64.wrap (-(x : Int))) * 285870213051353865) / 288230376151711744 = (idx : Int))
    (hi : idx < 64) (hk : k < 64) (hcell : w.cell? ⟨0, idx, none⟩ = some (.int .u8 k)) :
    Calls Tryz.prog 147 #[.int .u64 x] w fun e w' => e = .returned (.int .i64 k) ∧ w' = w := by
  go_enter Tryz.func147, Tryz.ntmps147
  go_wp2_with (simp only [key])
  go_ret
  exact ⟨rfl, rfl⟩

def TabL (w : World) : Prop := ∀ j, j < 64 → w.cell? ⟨0, j, none⟩ = some (.int .u8 (Lib.deBruijn64tab.getD j 0 : Nat))

theorem tz_ok (x : Nat) (hx : x < 18446744073709551616) (hx0 : x ≠ 0) (w : World) (hT : TabL w) :
    Calls Tryz.prog 147 #[.int .u64 x] w fun e w' => e = .returned (.int .i64 (Lib.ctz 64 x)) ∧ w' = w := by
  obtain ⟨hlow, hk⟩ := Lib.lowest_bit 64 x hx0 hx
  obtain ⟨hi, htab⟩ := Lib.deBruijn64_at _ hk
  have hcell := hT _ hi
  rw [htab] at hcell
  exact tz_core x _ _ w (by simp; omega) (tz_key x _ hx hx0 hlow) hi hk hcell

theorem ctz_bit (x : Nat) (hx : x < 18446744073709551616) (hx0 : x ≠ 0) : x.testBit (Lib.ctz 64 x) = true ∧ Lib.ctz 64 x < 64 := by
  obtain ⟨m, h1, h2⟩ := Lib.ctzFrom_spec 64 x (by omega) hx
  have e : Lib.ctz 64 x = Lib.ctzFrom 64 x := if_neg hx0
  rw [e]
  refine ⟨?_, h2⟩
  generalize Lib.ctzFrom 64 x = c at *
  rw [h1, Nat.mul_comm, Nat.testBit_mul_two_pow]
  simp
end

section
/-! ### Regions: a quiet head, then a chain -/
section
variable {F : Fence} {n : Nat} {P : Program} {ops : Array Oper} {md : Region.Mode} {C : World → Prop}

def noDefer (l : List Oper) : Bool := l.all fun o => match o.op with | .defer _ => false | _ => true
theorem noDefer_spec {l : List Oper} (h : noDefer l = true) {i : Nat} {o : Oper} (ho : l.toArray[i]? = some o) : ∀ c, o.op ≠ .defer c := by
  have hm : o ∈ l := by
    have : l[i]? = some o := by simpa using ho
    exact List.mem_of_getElem? this
  have := List.all_eq_true.1 h o hm
  intro c hc
  simp [hc] at this

theorem opIn_of_quiet {i : Nat} {a : Act} {K : Act → Prop} {K' : Act → World → Prop} {Q' : Exit → Act → World → Prop} {w : World} (hnd : ∀ o, ops[i]? = some o → ∀ c, o.op ≠ .defer c) (hC : C w) (h : ∀ a w', C w' → K a → K' a w')
    (hh : qOpIn F n P ops C i K a) : wpOpIn F n P ops Q' i K' a w := by
  unfold qOpIn at hh
  unfold wpOpIn
  split
  · rename_i ho; simp only [ho] at hh; exact h _ _ hC hh
  · rename_i o ho
    simp only [ho] at hh
    obtain ⟨ha, hh⟩ := hh
    split
    · rename_i hw
      simp only [hw, if_true] at hh
      obtain ⟨v, h1, h2⟩ := hh
      have h3 := h1 w hC
      unfold Oper.quietAtIn at h3
      unfold Oper.wpIn
      refine ⟨ha w hC, ?_⟩
      rw [Oper.semAt_eq _ _ _ (hnd o ho)]
      generalize (execOp a.eval o).run P w = r at *
      cases r with
      | ok x w' =>
        cases x <;> simp only [Oper.quietUponIn] at h3 <;> simp only [Oper.uponIn]
        case value u =>
          obtain ⟨e1, e2⟩ := h3
          rw [e1, e2]
          exact h _ _ hC h2
        case skip =>
          obtain ⟨e1, e2⟩ := h3
          rw [e1, ← e2]
          exact h _ _ hC h2
        case enter f args =>
          obtain ⟨e1, hd, hc⟩ := h3
          rw [e1]
          exact ⟨hd, hc.mono fun e w'' ⟨he, hw''⟩ => by subst he; exact h _ _ hw'' h2⟩
      | halt x w' => simp only [Oper.quietUponIn] at h3
    · rename_i hw; simp only [hw] at hh; exact ⟨ha w hC, h _ _ hC hh⟩

def headIn (F : Fence) (m : Nat) (P : Program) (md : Region.Mode) (ops : Array Oper) (C : World → Prop) (n : Nat) (L : Array Bool → Act → Prop) : Nat → Array Bool → Act → Prop
  | 0, listed, a => L listed a
  | f + 1, listed, a => Region.ready md ops listed ≠ [] ∧ ∀ i ∈ Region.ready md ops listed, i < n ∧ qOpIn F m P ops C i (headIn F m P md ops C n L f (listed.setIfInBounds i true)) a

theorem any_of_head {m n g : Nat} {L : Array Bool → Act → Prop} {Q' : Exit → Act → World → Prop} (hnd : ∀ (i : Nat) (o : Oper), ops[i]? = some o → ∀ c, o.op ≠ .defer c)
    (hL : ∀ listed a w, C w → L listed a → wpAnyIn F m P md ops Q' g listed a w) : ∀ (f : Nat) (listed : Array Bool) (a : Act) (w : World), C w → headIn F m P md ops C n L f listed a → wpAnyIn F m P md ops Q' (f + g) listed a w
  | 0, listed, a, w, hC, h => by rw [Nat.zero_add]; exact hL _ _ _ hC h
  | f + 1, listed, a, w, hC, h => by
    rw [show f + 1 + g = (f + g) + 1 by omega]
    exact ⟨fun h0 => absurd h0 h.1, fun i hi => opIn_of_quiet (hnd i) hC (fun a' w' hC' h' => any_of_head hnd hL f _ a' w' hC' h') (h.2 i hi).2⟩

theorem head_first {m n i : Nat} {oi : Oper} {v : Value} {L : Array Bool → Act → Prop} (hi : ops[i]? = some oi) (hsel : ∀ (j : Nat) (o : Oper) cs b, ops[j]? = some o → o.op ≠ .select cs b)
    (hs : Region.sinkB md ops n = true) (hc : Region.chainB md ops n = true) (hn : n < ops.size) (hin : i < n)
    (hdone : ∀ listed a, L listed a → ∀ j ∈ Region.ready md ops listed, n ≤ j) :
    ∀ (f : Nat) (listed : Array Bool) (a : Act), HeadInv md ops n listed →
      (∀ j oj, ops[j]? = some oj → j ≠ i → listed.getD j true = false → (∀ e ∈ oj.after, Region.binds md e = true → e.on ≠ i) → oi.apart ops oj = true) →
      i ∈ Region.ready md ops listed → YieldsQuiet F m P ops C oi v a →
      headIn F m P md ops C n L f (listed.setIfInBounds i true) (a.put oi.dst v) → headIn F m P md ops C n L (f + 1) listed a := by
  intro f
  have low : ∀ (listed : Array Bool), HeadInv md ops n listed → i ∈ Region.ready md ops listed → ∀ j ∈ Region.ready md ops listed, j < n := fun listed inv hr j hj => by
    rcases Nat.lt_or_ge j n with h | h
    · exact h
    · exact absurd hj (tail_waits hs hc hn inv _ i rfl hin (mem_ready.1 hr).1 j h)
  induction f with
  | zero =>
    intro listed a inv _ hr hy H
    refine ⟨fun h => (by rw [h] at hr; cases hr), fun j hj => ⟨low listed inv hr j hj, ?_⟩⟩
    by_cases hji : j = i
    · subst hji; exact hy.qOpIn hi H
    · have := hdone _ _ H j (ready_mono hj hji)
      have := low listed inv hr j hj
      omega
  | succ f ih =>
    intro listed a inv hfree hr hy H
    have hun := (mem_ready.1 hr).1
    refine ⟨fun h => (by rw [h] at hr; cases hr), fun j hj => ⟨low listed inv hr j hj, ?_⟩⟩
    by_cases hji : j = i
    · subst hji; exact hy.qOpIn hi H
    · have h1 := (H.2 j (ready_mono hj hji)).2
      obtain ⟨hjun, oj, hoj, hall⟩ := mem_ready.1 hj
      have hnot : ∀ e ∈ oj.after, Region.binds md e = true → e.on ≠ i := fun e he hb heq => by
        have h1 := hall e he hb
        rw [heq, getD_both hun] at h1
        cases h1
      have h2 := qOpIn_put hoj (hfree j oj hoj hji hjun hnot) (fun cs b => hsel i oi cs b hi) (fun cs b => hsel j oj cs b hoj) hy h1
      have hfree' : ∀ k ok, ops[k]? = some ok → k ≠ i → (listed.setIfInBounds j true).getD k true = false →
          (∀ e ∈ ok.after, Region.binds md e = true → e.on ≠ i) → oi.apart ops ok = true := fun k ok hk hki hun hno => by
        refine hfree k ok hk hki ?_ hno
        by_cases hjk : j = k
        · subst hjk; exact hjun
        · rw [getD_set_ne true hjk] at hun; exact hun
      refine qOpIn_mono (fun a' h3 => ih (listed.setIfInBounds j true) a' (inv.set hj (low listed inv hr j hj)) hfree' (ready_mono hr (Ne.symm hji)) h3.1 ?_) h2
      rw [Array.setIfInBounds_comm _ _ hji]
      exact h3.2

theorem head_lex {m n g : Nat} {Lq : Act → Prop} (hsel : Region.noSelect ops = true) (hs : Region.sinkB md ops n = true) (hc : Region.chainB md ops n = true) (hn : n < ops.size) :
    ∀ (l : List Oper) (k : Nat) (listed : Array Bool) (a : Act), (∀ j, j < l.length → l[j]? = ops[k + j]?) → k + l.length = n → HeadInv md ops n listed →
    Region.lexHead md ops g l.length k listed = true → wpQuietIn F m P ops C Lq l a →
    headIn F m P md ops C n (fun listed' a' => Region.seqB md ops g n listed' = true ∧ Lq a') l.length listed a
  | [], k, listed, a, _, hk, _, hB, h => by
    have : k = n := by simpa using hk
    subst this
    exact ⟨by simpa [Region.lexHead] using hB, h⟩
  | o :: l, k, listed, a, hl, hk, inv, hB, h => by
    have h0 : ops[k]? = some o := by simpa using (hl 0 (by simp)).symm
    simp only [List.length_cons, Region.lexHead, Bool.and_eq_true] at hB
    obtain ⟨⟨hr, hf⟩, hB'⟩ := hB
    have hkn : k < n := by simp only [List.length_cons] at hk; omega
    have hr' : k ∈ Region.ready md ops listed := by simpa using hr
    have hst : qOpIn F m P ops C k (wpQuietIn F m P ops C Lq l) a := by unfold qOpIn; simp only [h0]; exact h
    obtain ⟨v, hy, hK⟩ := yieldsQuiet_of_qOpIn h0 hst
    exact head_first h0 (Region.noSelect_spec hsel) hs hc hn hkn (fun listed' a' hL => seqB_ready hL.1) l.length listed a inv (Region.free_spec h0 hf) hr' hy
      (head_lex hsel hs hc hn l (k + 1) _ _ (fun j hj => by have := hl (j + 1) (by simp; omega); simpa [Nat.add_assoc, Nat.add_comm 1 j] using this) (by simp only [List.length_cons] at hk; omega) (inv.set hr' hkn) hB' hK)

theorem any_of_seq {m : Nat} {Q' : Exit → Act → World → Prop} : ∀ (l : List Oper) (k : Nat) (listed : Array Bool) (a : Act) (w : World), (∀ j, l[j]? = ops[k + j]?) →
    Region.seqB md ops l.length k listed = true → wpListIn F m P ops Q' l a w → wpAnyIn F m P md ops Q' l.length listed a w
  | [], _, _, _, _, _, hB, h => ⟨by simpa [Region.seqB] using hB, h⟩
  | o :: l, k, listed, a, w, hl, hB, h => by
    have h0 : ops[k]? = some o := by simpa using (hl 0).symm
    simp only [List.length_cons, Region.seqB, Bool.and_eq_true, decide_eq_true_eq] at hB
    refine ⟨fun h1 => (by rw [hB.1] at h1; cases h1), fun i hi => ?_⟩
    rw [hB.1] at hi
    have hik : i = k := by simpa using hi
    subst hik
    have hw : wpOpIn F m P ops Q' i (wpListIn F m P ops Q' l) a w := by unfold wpOpIn; simp only [h0]; exact h
    exact wpOpIn_mono (fun a' w' h' => any_of_seq l (i + 1) _ a' w' (fun j => by have := hl (j + 1); simpa [Nat.add_assoc, Nat.add_comm 1 j] using this) hB.2 h') hw

theorem region_tail {m id : Nat} {Q : Exit → Act → World → Prop} {a : Act} {w : World} {l : List Oper} (k : Nat) (hm : P.follows .mixedOrders = true) (hB : Region.lexTailB .any l.toArray k = true) (hd : noDefer l = true)
    (h : wpQuietIn F m P l.toArray (fun w' => ∃ n, w' = w.drewN n) (fun a' => ∀ w', (∃ n, w' = w.drewN n) → wpListIn F m P l.toArray Q (l.drop k) a' w') (l.take k) a) : (Code.region id l.toArray true).wpIn F m P Q a w := by
  simp only [Region.lexTailB, Bool.and_eq_true, decide_eq_true_eq] at hB
  obtain ⟨⟨⟨⟨hsel, hn⟩, hs⟩, hc⟩, hlex⟩ := hB
  have hn' : k < l.length := by simpa using hn
  have htl : (l.take k).length = k := by simp; omega
  have hdl : (l.drop k).length = l.toArray.size - k := by simp
  have inv0 : HeadInv .any l.toArray k (Array.replicate l.toArray.size false) :=
    ⟨by simp, fun j oj _ hl => (by rw [getD_replicate_false] at hl; cases hl), fun t _ ht => getD_in (by simpa using ht) (getD_replicate_false _ _)⟩
  have H := head_lex (F := F) (m := m) (P := P) (C := fun w' => ∃ n, w' = w.drewN n) (md := .any) (g := l.toArray.size - k) hsel hs hc hn (l.take k) 0 _ a (fun j hj => by
    have hj' : j < k := by rw [htl] at hj; exact hj
    simp [hj']) (by simpa using htl) inv0 (by rw [htl]; exact hlex) h
  refine wpIn_region_any hm ?_
  have := any_of_head (Q' := Q) (g := l.toArray.size - k) (fun i o ho => noDefer_spec hd ho) (fun listed a' w' hC hL => by
    have := any_of_seq (F := F) (m := m) (P := P) (md := .any) (Q' := Q) (l.drop k) k listed a' w' (fun j => by simp [List.getElem?_drop]) (by rw [hdl]; exact hL.1) (hL.2 w' hC)
    rwa [hdl] at this) _ _ _ { w with drawn := w.drawn + 1 } ⟨1, rfl⟩ H
  rw [htl, show k + (l.toArray.size - k) = l.toArray.size by omega] at this
  exact this

/-! ### The same outside a fence -/
def headP (P : Program) (md : Region.Mode) (ops : Array Oper) (C : World → Prop) (n : Nat) (L : Array Bool → Act → Prop) : Nat → Array Bool → Act → Prop
  | 0, listed, a => L listed a
  | f + 1, listed, a => Region.ready md ops listed ≠ [] ∧ ∀ i ∈ Region.ready md ops listed, i < n ∧ qOp P ops C i (headP P md ops C n L f (listed.setIfInBounds i true)) a

theorem any_of_headP {n g : Nat} {L : Array Bool → Act → Prop} {Q' : Exit → Act → World → Prop}     (hL : ∀ listed a w, C w → L listed a → wpAny P md ops Q' g listed a w) : ∀ (f : Nat) (listed : Array Bool) (a : Act) (w : World), C w → headP P md ops C n L f listed a → wpAny P md ops Q' (f + g) listed a w
  | 0, listed, a, w, hC, h => by rw [Nat.zero_add]; exact hL _ _ _ hC h
  | f + 1, listed, a, w, hC, h => by
    rw [show f + 1 + g = (f + g) + 1 by omega]
    exact ⟨fun h0 => absurd h0 h.1, fun i hi => wpOp_of_qOp hC (fun a' w' hC' h' => any_of_headP hL f _ a' w' hC' h') (h.2 i hi).2⟩

theorem head_firstP {n i : Nat} {oi : Oper} {v : Value} {L : Array Bool → Act → Prop} (hi : ops[i]? = some oi) (hsel : ∀ (j : Nat) (o : Oper) cs b, ops[j]? = some o → o.op ≠ .select cs b)
    (hs : Region.sinkB md ops n = true) (hc : Region.chainB md ops n = true) (hn : n < ops.size) (hin : i < n)
    (hdone : ∀ listed a, L listed a → ∀ j ∈ Region.ready md ops listed, n ≤ j) :
    ∀ (f : Nat) (listed : Array Bool) (a : Act), HeadInv md ops n listed →
      (∀ j oj, ops[j]? = some oj → j ≠ i → listed.getD j true = false → (∀ e ∈ oj.after, Region.binds md e = true → e.on ≠ i) → oi.apart ops oj = true) →
      i ∈ Region.ready md ops listed → YieldsIn P ops C oi v a →
      headP P md ops C n L f (listed.setIfInBounds i true) (a.put oi.dst v) → headP P md ops C n L (f + 1) listed a := by
  intro f
  have low : ∀ (listed : Array Bool), HeadInv md ops n listed → i ∈ Region.ready md ops listed → ∀ j ∈ Region.ready md ops listed, j < n := fun listed inv hr j hj => by
    rcases Nat.lt_or_ge j n with h | h
    · exact h
    · exact absurd hj (tail_waits hs hc hn inv _ i rfl hin (mem_ready.1 hr).1 j h)
  induction f with
  | zero =>
    intro listed a inv _ hr hy H
    refine ⟨fun h => (by rw [h] at hr; cases hr), fun j hj => ⟨low listed inv hr j hj, ?_⟩⟩
    by_cases hji : j = i
    · subst hji; exact hy.qOp hi H
    · have := hdone _ _ H j (ready_mono hj hji)
      have := low listed inv hr j hj
      omega
  | succ f ih =>
    intro listed a inv hfree hr hy H
    have hun := (mem_ready.1 hr).1
    refine ⟨fun h => (by rw [h] at hr; cases hr), fun j hj => ⟨low listed inv hr j hj, ?_⟩⟩
    by_cases hji : j = i
    · subst hji; exact hy.qOp hi H
    · have h1 := (H.2 j (ready_mono hj hji)).2
      obtain ⟨hjun, oj, hoj, hall⟩ := mem_ready.1 hj
      have hnot : ∀ e ∈ oj.after, Region.binds md e = true → e.on ≠ i := fun e he hb heq => by
        have h1 := hall e he hb
        rw [heq, getD_both hun] at h1
        cases h1
      have h2 := qOp_put hoj (hfree j oj hoj hji hjun hnot) (fun cs b => hsel i oi cs b hi) (fun cs b => hsel j oj cs b hoj) hy h1
      have hfree' : ∀ k ok, ops[k]? = some ok → k ≠ i → (listed.setIfInBounds j true).getD k true = false →
          (∀ e ∈ ok.after, Region.binds md e = true → e.on ≠ i) → oi.apart ops ok = true := fun k ok hk hki hun hno => by
        refine hfree k ok hk hki ?_ hno
        by_cases hjk : j = k
        · subst hjk; exact hjun
        · rw [getD_set_ne true hjk] at hun; exact hun
      refine qOp_mono (fun a' h3 => ih (listed.setIfInBounds j true) a' (inv.set hj (low listed inv hr j hj)) hfree' (ready_mono hr (Ne.symm hji)) h3.1 ?_) h2
      rw [Array.setIfInBounds_comm _ _ hji]
      exact h3.2

theorem head_lexP {n g : Nat} {Lq : Act → Prop} (hsel : Region.noSelect ops = true) (hs : Region.sinkB md ops n = true) (hc : Region.chainB md ops n = true) (hn : n < ops.size) :
    ∀ (l : List Oper) (k : Nat) (listed : Array Bool) (a : Act), (∀ j, j < l.length → l[j]? = ops[k + j]?) → k + l.length = n → HeadInv md ops n listed →
    Region.lexHead md ops g l.length k listed = true → wpQuiet P ops C Lq l a →
    headP P md ops C n (fun listed' a' => Region.seqB md ops g n listed' = true ∧ Lq a') l.length listed a
  | [], k, listed, a, _, hk, _, hB, h => by
    have : k = n := by simpa using hk
    subst this
    exact ⟨by simpa [Region.lexHead] using hB, h⟩
  | o :: l, k, listed, a, hl, hk, inv, hB, h => by
    have h0 : ops[k]? = some o := by simpa using (hl 0 (by simp)).symm
    simp only [List.length_cons, Region.lexHead, Bool.and_eq_true] at hB
    obtain ⟨⟨hr, hf⟩, hB'⟩ := hB
    have hkn : k < n := by simp only [List.length_cons] at hk; omega
    have hr' : k ∈ Region.ready md ops listed := by simpa using hr
    have hst : qOp P ops C k (wpQuiet P ops C Lq l) a := by unfold qOp; simp only [h0]; exact h
    obtain ⟨v, hy, hK⟩ := yieldsIn_of_qOp h0 hst
    exact head_firstP h0 (Region.noSelect_spec hsel) hs hc hn hkn (fun listed' a' hL => seqB_ready hL.1) l.length listed a inv (Region.free_spec h0 hf) hr' hy
      (head_lexP hsel hs hc hn l (k + 1) _ _ (fun j hj => by have := hl (j + 1) (by simp; omega); simpa [Nat.add_assoc, Nat.add_comm 1 j] using this) (by simp only [List.length_cons] at hk; omega) (inv.set hr' hkn) hB' hK)

theorem region_tailP {id : Nat} {Q : Exit → Act → World → Prop} {a : Act} {w : World} {l : List Oper} (k : Nat) (hm : P.follows .mixedOrders = true) (hB : Region.lexTailB .any l.toArray k = true)
    (h : wpQuiet P l.toArray (fun w' => ∃ n, w' = w.drewN n) (fun a' => ∀ w', (∃ n, w' = w.drewN n) → wpList P l.toArray Q (l.drop k) a' w') (l.take k) a) : (Code.region id l.toArray true).wp P Q a w := by
  simp only [Region.lexTailB, Bool.and_eq_true, decide_eq_true_eq] at hB
  obtain ⟨⟨⟨⟨hsel, hn⟩, hs⟩, hc⟩, hlex⟩ := hB
  have hn' : k < l.length := by simpa using hn
  have htl : (l.take k).length = k := by simp; omega
  have hdl : (l.drop k).length = l.toArray.size - k := by simp
  have inv0 : HeadInv .any l.toArray k (Array.replicate l.toArray.size false) :=
    ⟨by simp, fun j oj _ hl => (by rw [getD_replicate_false] at hl; cases hl), fun t _ ht => getD_in (by simpa using ht) (getD_replicate_false _ _)⟩
  have H := head_lexP (P := P) (C := fun w' => ∃ n, w' = w.drewN n) (md := .any) (g := l.toArray.size - k) hsel hs hc hn (l.take k) 0 _ a (fun j hj => by
    have hj' : j < k := by rw [htl] at hj; exact hj
    simp [hj']) (by simpa using htl) inv0 (by rw [htl]; exact hlex) h
  refine wp_region_any hm ?_
  have := any_of_headP (Q' := Q) (g := l.toArray.size - k) (fun listed a' w' hC hL => by
    have := wpAny_of_seq (P := P) (md := .any) (Q' := Q) (l.drop k) k listed a' w' (fun j => by simp [List.getElem?_drop]) (by rw [hdl]; exact hL.1) (hL.2 w' hC)
    rwa [hdl] at this) _ _ _ { w with drawn := w.drawn + 1 } ⟨1, rfl⟩ H
  rw [htl, show k + (l.toArray.size - k) = l.toArray.size by omega] at this
  exact this
end

/-! ### A round that may panic -/
def rndPost (P : Program) (l : Nat) (R : Ending → World → Prop) : Exit → Act → World → Prop
  | .normal, _, w => ∃ v w', (Instr.endRound l none).run P w = .ok v w' ∧ R (.returned v) w'
  | .ret, _, w => ∃ v w', (Instr.endRound l (some .ret)).run P w = .ok v w' ∧ R (.returned v) w'
  | .panic ch, a, w => a.defers = [] ∧ R (.panicked ch) w
  | _, _, _ => False

theorem round_of_wp {F : Fence} {n : Nat} {P : Program} {l : Nat} {f : FuncId} {tmps : Array Value} {assign body : Code} {w : World} {R : Ending → World → Prop} (hF : F.fn f) (hfn : ∃ fn, P.funcs[f]? = some fn)
    (h : assign.wpIn (F.inRound l) n P (Exit.then (fun a₁ w₁ => ∃ w₂, (Instr.beginRound l).run P w₁ = .ok () w₂ ∧ body.wpIn (F.inRound l) n P (rndPost P l R) a₁ w₂) (fun _ _ _ => False))
      { tmps := tmps, defers := [] } w) :
    RoundIn F n P l f tmps assign body w R := by
  refine ⟨hF, fun c cs hr => ?_⟩
  let b : Frame := { (default : Frame) with fn := f, kind := .normal, roundOf := some l }
  have hb0 : Frame.round l f tmps assign body .normal = b.atR { tmps := tmps, defers := [] } [.code assign, .beginRound, .code body] := by
    simp [Frame.round, Frame.atR, b]
  have hr' : (F.inRound l).room ((c :: cs).length + 1 + n) := hr
  have hF' : (F.inRound l).fn b.fn := hF
  obtain ⟨e, a₁, w₁, hq, harr⟩ := h b [.beginRound, .code body] (c :: cs) rfl hF' hr'
  rw [← hb0] at harr
  cases e with
  | normal =>
    obtain ⟨w₂, hbr, hbody⟩ := hq
    have s1 : StepsIn (Machine.fenced P (F.inRound l)) P (lone (b.atR a₁ [.beginRound, .code body]) (c :: cs) w₁) (lone (b.atR a₁ [.code body]) (c :: cs) w₂) :=
      .one (fenced_calm (fr := b.atR a₁ [.beginRound, .code body]) hF' hr' rfl) (stepR_beginRound rfl hbr)
    obtain ⟨e₂, a₂, w₃, hq₂, harr₂⟩ := hbody b [] (c :: cs) rfl hF' hr'
    cases e₂ with
    | normal =>
      obtain ⟨v, w₄, hend, hR⟩ := hq₂
      exact ⟨.returned v, w₄, hR, (StepsIn.trans harr s1).trans (StepsIn.trans harr₂ (.one (fenced_calm (fr := b.atR a₂ []) hF' hr' rfl) (stepR_round_end rfl rfl hend)))⟩
    | ret =>
      obtain ⟨v, w₄, hend, hR⟩ := hq₂
      obtain ⟨k₁, hs⟩ := harr₂.2 rfl
      exact ⟨.returned v, w₄, hR, (StepsIn.trans harr s1).trans (StepsIn.trans hs (.one (fenced_calm (fr := b.atR a₂ (.code .ret :: k₁)) hF' hr' rfl) (stepR_round_ret rfl rfl hend)))⟩
    | panic ch =>
      obtain ⟨hd, hR⟩ := hq₂
      obtain ⟨todo, hs⟩ := harr₂
      have hl : Frame.leaving P { b.atR a₂ todo with mode := .panicking ch } w₃ (.panicked ch) := ⟨rfl, hd, hfn⟩
      exact ⟨.panicked ch, w₃, hR, (StepsIn.trans harr s1).trans (StepsIn.trans hs (.one (fenced_leaving (n := n) hF' hr' hl) (step_leave_panicked hl)))⟩
    | exit id => exact hq₂.elim
    | goto t => exact hq₂.elim
    | outgrown => exact hq₂.elim
  | exit id => exact hq.elim
  | goto t => exact hq.elim
  | ret => exact hq.elim
  | panic chain => exact hq.elim
  | outgrown => exact hq.elim

theorem Fr.putObj {F : Nat → Prop} {a w : World} (h : Fr F a w) {r : Nat} (hr : F r ∨ a.heap.size ≤ r) (o : Obj) : Fr F a (w.putObj r o) :=
  h.trans' (G := fun k => k = r) ⟨rfl, rfl, rfl, by simp, fun k _ hk => World.putObj_heap_other hk⟩ (fun k e => by subst e; exact hr)

def pair (D : Nat) : Nat → Prop := fun k => k = D ∨ k = D + 1

def Iter (m : Nat) (P : Program) (gf : Nat) (lb : Array Value) (enc : Nat → Value) (N l : Nat) (J : Nat → World → Prop) : Prop :=
  ∀ (J' : Nat → World → Prop) (Jx : World → Prop) (Jp : List PanicEntry → World → Prop), (∀ k W, J' k W → J k W) → (∀ k W n, J' k W → J' k (W.drewN n)) →
    (∀ k W, k < N → J' k W → YieldAt Fence.wide (m - 1) P l #[enc k] W fun e W' => (e = .returned (.bool true) ∧ J' (k + 1) W') ∨ (e = .returned (.bool false) ∧ Jx W') ∨ ∃ ch, e = .panicked ch ∧ Jp ch W') →
    ∀ W, J' 0 W → CallsIn Fence.wide m P gf (#[.func (.yield l) #[] #[]] ++ lb) W fun e W' => (∃ v, e = .returned v ∧ J' N W') ∨ (∃ v, e = .returned v ∧ Jx W') ∨ ∃ ch, e = .panicked ch ∧ Jp ch W'

def bodyEnds (D : Nat) (J : World → Prop) (Jr : World → Prop) (Jp : List PanicEntry → World → Prop) (W : World) : Exit → Act → World → Prop
  | .normal, _, W' => (W'.heap[D]? = W.heap[D]? ∧ W'.heap[D + 1]? = W.heap[D + 1]?) ∧ J W'
  | .ret, _, W' => (W'.heap[D]? = W.heap[D]? ∧ W'.heap[D + 1]? = W.heap[D + 1]?) ∧ Jr W'
  | .panic ch, a, W' => a.defers = [] ∧ W'.heap[D]? = W.heap[D]? ∧ Jp ch W'
  | _, _, _ => False

/-! ### Walks of one function's own frames -/
def wpOf (P : Program) (f : FuncId) (c : Code) (Q : Exit → Act → World → Prop) (a : Act) (w : World) : Prop :=
  ∀ (b : Frame) (k : List Item) (cs : List Frame), b.roundOf = none → b.fn = f → ∃ e a' w', Q e a' w' ∧ ArrivesIn (Machine.fenced P Fence.wide) P (lone (b.atR a (.code c :: k)) cs w) b k cs e a' w'

section
variable {P : Program} {f : FuncId} {Q : Exit → Act → World → Prop} {a : Act} {w : World}
theorem wpOf_of_wp {c : Code} (h : c.wp P Q a w) : wpOf P f c Q a w := fun b k cs hro _ => (wpIn_wide (n := 0)).2 h b k cs hro trivial (room_wide _)
theorem wpOf_mono {c : Code} {Q' : Exit → Act → World → Prop} (h : wpOf P f c Q a w) (hq : ∀ e a w, Q e a w → Q' e a w) : wpOf P f c Q' a w :=
  fun b k cs hro hb => let ⟨e, a', w', q, r⟩ := h b k cs hro hb; ⟨e, a', w', hq _ _ _ q, r⟩

theorem wpOf_seq {x y : Code} (h : wpOf P f x (Exit.then (wpOf P f y Q) Q) a w) : wpOf P f (Code.seq x y) Q a w := by
  intro b k cs hro hb
  obtain ⟨e, a₁, w₁, hq, harr⟩ := h b (.code y :: k) cs hro hb
  have s0 : StepsIn (Machine.fenced P Fence.wide) P (lone (b.atR a (.code (.seq x y) :: k)) cs w) (lone (b.atR a (.code x :: .code y :: k)) cs w) := .one (fenced_wide P _) stepR_seq
  cases e with
  | normal =>
    obtain ⟨e₂, a₂, w₂, hq₂, harr₂⟩ := hq b k cs hro hb
    exact ⟨e₂, a₂, w₂, hq₂, .of_steps (s0.trans harr) harr₂⟩
  | exit id => exact ⟨_, a₁, w₁, hq, .of_steps s0 (ArrivesIn.pass rfl (fun _ _ => .inl (by simp)) harr)⟩
  | goto l => exact ⟨_, a₁, w₁, hq, .of_steps s0 (ArrivesIn.pass rfl (fun _ _ => .inl (by simp)) harr)⟩
  | ret => exact ⟨_, a₁, w₁, hq, .of_steps s0 (ArrivesIn.pass rfl (fun _ _ => .inl (by simp)) harr)⟩
  | panic ch => exact ⟨_, a₁, w₁, hq, .of_steps s0 (ArrivesIn.pass rfl (fun _ _ => .inl (by simp)) harr)⟩
  | outgrown => exact ⟨_, a₁, w₁, hq, .of_steps s0 (ArrivesIn.pass rfl (fun _ _ => .inl (by simp)) harr)⟩

theorem wpOf_block {id : Nat} {c : Code} (h : wpOf P f c (Exit.inBlock id Q) a w) : wpOf P f (Code.block id c) Q a w := by
  intro b k cs hro hb
  have s0 : StepsIn (Machine.fenced P Fence.wide) P (lone (b.atR a (.code (.block id c) :: k)) cs w) (lone (b.atR a (.code c :: .inBlock id :: k)) cs w) := .one (fenced_wide P _) stepR_block
  obtain ⟨e, a₁, w₁, hq, harr⟩ := h b (.inBlock id :: k) cs hro hb
  cases e with
  | normal => exact ⟨.normal, a₁, w₁, hq, s0.trans (StepsIn.trans harr (.one (fenced_wide P _) stepR_inBlock))⟩
  | exit id' =>
    by_cases hid : id' = id
    · simp only [Exit.inBlock, hid, if_true] at hq
      exact ⟨.normal, a₁, w₁, hq, s0.trans (harr.1 k (by simp [exitTo, hid]))⟩
    · simp only [Exit.inBlock, hid, if_false] at hq
      have this : (id == id') = false := by simp; exact fun h => hid h.symm
      have hx : exitTo id' (.inBlock id :: k) = exitTo id' k := by simp [exitTo, this]
      exact ⟨.exit id', a₁, w₁, hq, fun k' hk => s0.trans (harr.1 k' (by rw [hx]; exact hk)),
        fun hr' hk => let ⟨k₁, h1, h2⟩ := harr.2 hr' (by rw [hx]; exact hk); ⟨k₁, h1, s0.trans h2⟩⟩
  | goto l =>
    have hx : gotoIn l (.inBlock id :: k) = gotoIn l k := by simp [gotoIn]
    exact ⟨_, a₁, w₁, hq, fun k' hk => s0.trans (harr.1 k' (by rw [hx]; exact hk)),
      fun hr' hk => let ⟨k₁, h1, h2⟩ := harr.2 hr' (by rw [hx]; exact hk); ⟨k₁, h1, s0.trans h2⟩⟩
  | ret => exact ⟨_, a₁, w₁, hq, .of_steps s0 harr⟩
  | panic ch => exact ⟨_, a₁, w₁, hq, .of_steps s0 harr⟩
  | outgrown => exact ⟨_, a₁, w₁, hq, .of_steps s0 harr⟩

theorem calls_of_wpOf {fn : Func} {c : Code} {args : Array Value} {R : Ending → World → Prop} (hf : P.funcs[f]? = some fn) (hb : fn.body = some c)
    (h : wpOf P f c (bodyPostM Fence.wide 0 P fn R) { tmps := args ++ Array.replicate (fn.ntmps - args.size) undef, defers := [] } w) : Calls P f args w R := by
  refine (callsIn_wide (n := 0)).1 ⟨trivial, fun cs hr => ?_⟩
  let b : Frame := { (default : Frame) with fn := f, kind := .normal, roundOf := none }
  have henter : Frame.enter P f args .normal = b.atR { tmps := args ++ Array.replicate (fn.ntmps - args.size) undef, defers := [] } [.code c] := by
    simp [Frame.enter, Frame.atR, hf, hb, b]
  obtain ⟨e, a', w', hq, harr⟩ := h b [] cs rfl rfl
  rw [← henter] at harr
  cases e with
  | normal =>
    obtain ⟨e', w'', fr', hR, hs, hfn, hl⟩ := leaves_stepsInM (F := Fence.wide) a'.defers .returning w' { b.atR a' [] with mode := .returning } cs rfl rfl rfl hf rfl trivial hr hq
    exact ⟨e', w'', fr', hR, ComesIn.of_steps (StepsIn.trans harr (.one (fenced_wide P _) (stepR_end rfl))) hs, hfn, hl⟩
  | ret =>
    obtain ⟨todo, hs₀⟩ := harr.1 rfl
    obtain ⟨e', w'', fr', hR, hs, hfn, hl⟩ := leaves_stepsInM (F := Fence.wide) a'.defers .returning w' { b.atR a' todo with mode := .returning } cs rfl rfl rfl hf rfl trivial hr hq
    exact ⟨e', w'', fr', hR, ComesIn.of_steps hs₀ hs, hfn, hl⟩
  | panic chain =>
    obtain ⟨todo, hs₀⟩ := harr
    obtain ⟨e', w'', fr', hR, hs, hfn, hl⟩ := leaves_stepsInM (F := Fence.wide) a'.defers (.panicking chain) w' { b.atR a' todo with mode := .panicking chain } cs rfl rfl rfl hf rfl trivial hr hq
    exact ⟨e', w'', fr', hR, ComesIn.of_steps hs₀ hs, hfn, hl⟩
  | exit id => exact hq.elim
  | goto l => exact hq.elim
  | outgrown => exact ⟨.outgrown, w', b, hq, harr.resolve_left (by simp [b]), rfl, trivial⟩

theorem wpOf_range {g : Operand} {ps : Array Tmp} {assign body : Code} {l : Nat} {mark : List Deferred} {w₁ w₁' w₂ : World} {d : Deferred} {gf : FuncId} {args : Array Value}
    (he : (Instr.enterLoop f a.tmps ps assign body none).run P w = .ok (l, mark) w₁) (hres : (resolve a.eval (rangeCall g l) 0).run P w₁ = .ok d w₁') (hinv : (invoke d.target d.args).run P w₁' = .ok (.enter gf args) w₂)
    (hcall : CallsIn Fence.wide 0 P gf args w₂ (rangePost Fence.wide 0 P l Q { a with defers := mark ++ a.defers })) : wpOf P f (Code.rangeFunc g ps assign body) Q a w := by
  intro b k cs hro hb
  subst hb
  rw [← hro] at he
  have henter := stepR_rangeFunc (P := P) (b := b) (a := a) (k := k) (cs := cs) (w := w) he hres hinv
  have s0 := StepsIn.one (fenced_wide P (lone (b.atR a (.code (.rangeFunc g ps assign body) :: k)) cs w)) henter
  obtain ⟨e, w₃, fr, hR, hsteps, _, hleave⟩ := hcall.2 (b.atR { a with defers := mark ++ a.defers } (.inRangeFunc l :: k) :: cs) (room_wide _)
  cases e with
  | outgrown =>
    obtain ⟨a₀, w₀, hq⟩ := hR
    exact ⟨.outgrown, a₀, w₀, hq, .inr (Outgrown.of_steps (.one henter) hsteps)⟩
  | returned v =>
    obtain ⟨jump, w₄, hend, hj⟩ := hR
    have sback : StepsIn (Machine.fenced P Fence.wide) P (lone (b.atR a (.code (.rangeFunc g ps assign body) :: k)) cs w) (lone (b.atR { a with defers := mark ++ a.defers } ((jump.map Item.code).toList ++ k)) cs w₄) := by
      refine s0.trans (StepsIn.trans hsteps (.head (fenced_wide P _) ?_ (.one (fenced_wide P _) (stepR_endRangeFunc hend))))
      rw [← finish_atR_inRangeFunc l v]; exact step_leave_returned hleave
    cases jump with
    | none => exact ⟨.normal, _, w₄, hj, sback⟩
    | some c =>
      obtain ⟨e', a'', w₅, hq, harr⟩ := hj b k cs hro trivial (room_wide _)
      exact ⟨e', a'', w₅, hq, .of_steps sback harr⟩
  | panicked chain =>
    refine ⟨.panic chain, _, w₃, hR, .inRangeFunc l :: k, s0.trans (StepsIn.trans hsteps (.one (fenced_wide P _) ?_))⟩
    rw [← Frame.raise_atR]; exact step_leave_panicked hleave
end

theorem range_ok {P : Program} {f : FuncId} {g : Operand} {ps : Array Tmp} {assign body : Code} {Q : Exit → Act → World → Prop} {a : Act} {w : World}
    {gf : Nat} {lb : Array Value} (hg : a.eval g = .func (.func gf) #[] lb) (eg : ∀ args w, (callFunc gf args).run P w = .ok (.enter gf args) w) (hps : ps.size = 1) (hfn : ∃ fn, P.funcs[f]? = some fn)
    {N : Nat} {enc : Nat → Value} (J : Nat → World → Prop) (JA : Nat → Act → World → Prop) (Jr : World → Prop) (Jp : List PanicEntry → World → Prop)
    (hJ : ∀ k W W', J k W → Fr (pair w.heap.size) W W' → J k W') (hJA : ∀ k a W W', JA k a W → Fr (pair w.heap.size) W W' → JA k a W') (hJr : ∀ W W', Jr W → Fr (pair w.heap.size) W W' → Jr W')
    (hseq : Iter 0 P gf lb enc N (w.heap.size + 1) J) (h0 : ∀ o1 o2, J 0 ((w.alloc o1).alloc o2))
    (hassign : ∀ (l k : Nat) (W : World) (K : Act → World → Prop), J k W → k < N → (∀ a' W', JA k a' W' → W'.heap[w.heap.size]? = W.heap[w.heap.size]? → W'.heap[w.heap.size + 1]? = W.heap[w.heap.size + 1]? → K a' W') →
      assign.wpIn (Fence.wide.inRound l) 0 P (Exit.then K (fun _ _ _ => False)) { tmps := (ps.zip #[enc k]).foldl (fun t (p, v) => t.setIfInBounds p v) a.tmps, defers := [] } W)
    (hbody : ∀ (l k : Nat) (a' : Act) (W : World), JA k a' W → k < N → body.wpIn (Fence.wide.inRound l) 0 P (bodyEnds w.heap.size (J (k + 1)) Jr Jp W) a' W)
    (hdone : ∀ (W : World), J N W → W.heap[w.heap.size]? = some (.deferred (some [])) → Q .normal { a with defers := { target := .collected w.heap.size, args := #[] } :: a.defers } W)
    (hret : ∀ (W : World), Jr W → W.heap[w.heap.size]? = some (.deferred (some [])) → Code.ret.wpIn Fence.wide 0 P Q { a with defers := { target := .collected w.heap.size, args := #[] } :: a.defers } W)
    (hpan : ∀ (ch : List PanicEntry) (W : World), Jp ch W → W.heap[w.heap.size]? = some (.deferred (some [])) → Q (.panic ch) { a with defers := { target := .collected w.heap.size, args := #[] } :: a.defers } W) :
    wpOf P f (Code.rangeFunc g ps assign body) Q a w := by
  obtain ⟨rec, hrec⟩ : ∃ rec : LoopState → Option Code → Loop, rec = fun st pe => { state := st, pending := pe, fn := f, tmps := a.tmps, params := ps, assign, body, defers := w.heap.size } := ⟨_, rfl⟩
  obtain ⟨W1, hW1⟩ : ∃ W1, (w.alloc (.deferred (some []))).alloc (.loop (rec .ready none)) = W1 := ⟨_, rfl⟩
  have hL1 : W1.heap[w.heap.size + 1]? = some (.loop (rec .ready none)) := by
    rw [← hW1]; have := World.alloc_heap_new (w.alloc (.deferred (some []))) (.loop (rec .ready none)); rwa [World.size_alloc] at this
  have hK1 : W1.heap[w.heap.size]? = some (.deferred (some [])) := by
    rw [← hW1]; exact (Below.heap_alloc _ _ _ (by simp)).trans (World.alloc_heap_new w _)
  have put : ∀ (W : World) (o : Obj), Fr (pair w.heap.size) W (W.putObj (w.heap.size + 1) o) := fun W o => (Fr.refl _ W).putObj (.inl (.inr rfl)) o
  refine wpOf_range (l := w.heap.size + 1) (mark := [{ target := .collected w.heap.size, args := #[] }]) (w₁ := W1) (w₁' := W1) (w₂ := W1) (d := { target := .fn (.func gf) lb, args := #[.func (.yield (w.heap.size + 1)) #[] #[]] })
    (gf := gf) (args := #[.func (.yield (w.heap.size + 1)) #[] #[]] ++ lb) ?_ ?_ ?_ ?_
  · rw [← hW1, hrec]; exact run_enterLoop_outer _ _ _ _ _
  · simp only [resolve, hg]
    simp [go_sem]
  · simp [invoke, go_sem, eg]
  · refine (hseq
      (fun k W => J k W ∧ W.heap[w.heap.size + 1]? = some (.loop (rec .ready none)) ∧ W.heap[w.heap.size]? = some (.deferred (some [])))
      (fun W => Jr W ∧ W.heap[w.heap.size + 1]? = some (.loop (rec .done (some .ret))) ∧ W.heap[w.heap.size]? = some (.deferred (some [])))
      (fun ch W => Jp ch W ∧ W.heap[w.heap.size]? = some (.deferred (some [])))
      (fun k W h => h.1) (fun k W n h => ⟨hJ k W _ h.1 ((Fr.refl _ W).drewN n), h.2⟩) ?_ W1 ⟨by rw [← hW1]; exact h0 _ _, hL1, hK1⟩).mono ?_
    · rintro k W hk ⟨hj, hl, hd⟩
      have hlt : w.heap.size + 1 < W.heap.size := (Array.getElem?_eq_some_iff.1 hl).1
      have hy := run_yield (P := P) (args := #[enc k]) hl (by rw [hrec]; simp [hps])
      rw [hrec] at hy
      refine ⟨f, _, assign, body, hy, round_of_wp trivial hfn (hassign _ k W _ hj hk ?_)⟩
      intro a' W2 hA e1 e2
      rw [hl] at e2; rw [hd] at e1
      refine ⟨_, run_beginRound e2 (by rw [hrec]), ?_⟩
      have hlt2 : w.heap.size + 1 < W2.heap.size := (Array.getElem?_eq_some_iff.1 e2).1
      have hl3 : (W2.putObj (w.heap.size + 1) (.loop { rec .ready none with state := .busy })).heap[w.heap.size + 1]? = some (.loop { rec .ready none with state := .busy }) := World.putObj_heap_same hlt2
      have hd3 : (W2.putObj (w.heap.size + 1) (.loop { rec .ready none with state := .busy })).heap[w.heap.size]? = some (.deferred (some [])) := (World.putObj_heap_other (by omega)).trans e1
      refine wpIn_mono (hbody _ k a' _ (hJA k a' W2 _ hA (put W2 _)) hk) ?_
      have fin : ∀ (jump : Option Code) (W3 : World), W3.heap[w.heap.size + 1]? = some (.loop { rec .ready none with state := .busy }) →
          (Instr.endRound (w.heap.size + 1) jump).run P W3 = .ok (.bool jump.isNone) (W3.putObj (w.heap.size + 1) (.loop (rec (if jump.isNone then .ready else .done) jump))) ∧
          (W3.putObj (w.heap.size + 1) (.loop (rec (if jump.isNone then .ready else .done) jump))).heap[w.heap.size + 1]? = some (.loop (rec (if jump.isNone then .ready else .done) jump)) := fun jump W3 h3 => by
        have := run_endRound (P := P) jump h3
        rw [hrec] at this ⊢
        exact ⟨this, World.putObj_heap_same (Array.getElem?_eq_some_iff.1 h3).1⟩
      rintro e a3 W3 hp
      cases e with
      | normal =>
        obtain ⟨⟨k1, k2⟩, hj3⟩ := hp
        obtain ⟨hr, hl4⟩ := fin none W3 (k2.trans hl3)
        exact ⟨_, _, hr, .inl ⟨rfl, hJ _ _ _ hj3 (put W3 _), hl4, (World.putObj_heap_other (by omega)).trans (k1.trans hd3)⟩⟩
      | ret =>
        obtain ⟨⟨k1, k2⟩, hj3⟩ := hp
        obtain ⟨hr, hl4⟩ := fin (some .ret) W3 (k2.trans hl3)
        exact ⟨_, _, hr, .inr (.inl ⟨rfl, hJr _ _ hj3 (put W3 _), hl4, (World.putObj_heap_other (by omega)).trans (k1.trans hd3)⟩)⟩
      | panic ch =>
        obtain ⟨d0, k1, hj3⟩ := hp
        exact ⟨d0, .inr (.inr ⟨ch, rfl, hj3, k1.trans hd3⟩)⟩
      | exit id => exact hp.elim
      | goto t => exact hp.elim
      | outgrown => exact hp.elim
    · rintro e W2 (⟨v, rfl, hj, hl, hd⟩ | ⟨v, rfl, hj, hl, hd⟩ | ⟨ch, rfl, hj, hd⟩)
      · exact ⟨none, _, by have := run_endLoop (P := P) hl (by rw [hrec]; simp); rw [hrec] at this; exact this, hdone _ (hJ _ _ _ hj (put W2 _)) ((World.putObj_heap_other (by omega)).trans hd)⟩
      · exact ⟨some .ret, _, by have := run_endLoop (P := P) hl (by rw [hrec]; simp); rw [hrec] at this; exact this, hret _ (hJr _ _ hj (put W2 _)) ((World.putObj_heap_other (by omega)).trans hd)⟩
      · exact hpan ch W2 hj hd
end

section
structure HpL (nu sz : Nat) (w : World) (hb sb : Nat) : Prop where
  geo : Geo nu sz
  c0 : w.cell? ⟨hb, 0, none⟩ = some (ptr sb)
  c1 : w.cell? ⟨hb, 1, none⟩ = some (.int .i64 nu)
  cb : ∀ k, k < 7 → w.cell? ⟨hb, 2 + k, none⟩ = some (.int .i64 (Bw nu k : Nat))
  c9 : w.cell? ⟨hb, 9, none⟩ = some (.int .i64 (aw nu))
  c10 : w.cell? ⟨hb, 10, none⟩ = some (.int .i64 (fi nu))
  tab : TabL w

theorem HpL.kept {nu sz : Nat} {w w' : World} {hb sb : Nat} (h : HpL nu sz w hb sb) {F : Nat → Prop} (hf : Fr F w w') (n1 : ¬ F hb) (n2 : ¬ F 0) : HpL nu sz w' hb sb where
  geo := h.geo
  c0 := hf.cell' h.c0 n1
  c1 := hf.cell' h.c1 n1
  cb := fun k hk => hf.cell' (h.cb k hk) n1
  c9 := hf.cell' h.c9 n1
  c10 := hf.cell' h.c10 n1
  tab := fun j hj => hf.cell' (h.tab j hj) n2


def Rds (sz : Nat) (w : World) (sb : Nat) (f : Nat → Int) : Prop := ∀ (q : Nat) (i : Nat), i < sz → Calls Tryz.prog 62 #[ptr sb, .int .i64 i] (w.drewN q) fun e w' => e = .returned (u64 (f i)) ∧ w' = w.drewN q
theorem HpL.drew {nu sz : Nat} {w : World} {hb sb : Nat} (h : HpL nu sz w hb sb) (q : Nat) : HpL nu sz (w.drewN q) hb sb := h.kept ((Fr.refl (fun _ => False) w).drewN q) (fun x => x) (fun x => x)

section
variable {nu sz : Nat} {w : World} {hb sb : Nat} {f : Nat → Int}
theorem Rds.drew (h : Rds sz w sb f) (q : Nat) : Rds sz (w.drewN q) sb f := fun p i hi => by
  have e : (w.drewN q).drewN p = w.drewN (q + p) := by simp [World.drewN, Nat.add_assoc]
  rw [e]
  exact h (q + p) i hi

def Dr (w wr : World) : Prop := ∃ q, wr = w.drewN q
theorem Dr.refl (w : World) : Dr w w := ⟨0, rfl⟩
theorem Dr.trans {w1 w2 : World} (h : Dr w w1) (k : Dr w1 w2) : Dr w w2 := by
  obtain ⟨q, rfl⟩ := h
  obtain ⟨p, rfl⟩ := k
  exact ⟨q + p, by simp [World.drewN, Nat.add_assoc]⟩
theorem Dr.still {w1 : World} (h : Dr w w1) : Fr (fun _ => False) w w1 := by obtain ⟨q, rfl⟩ := h; exact (Fr.refl _ w).drewN q
theorem HpL.dr {w1 : World} (h : HpL nu sz w hb sb) (k : Dr w w1) : HpL nu sz w1 hb sb := by obtain ⟨q, rfl⟩ := k; exact h.drew q
theorem Rds.dr {w1 : World} (h : Rds sz w sb f) (k : Dr w w1) : Rds sz w1 sb f := by obtain ⟨q, rfl⟩ := k; exact h.drew q

theorem small_w64 {x : Int} (h : -9223372036854775808 ≤ x ∧ x < 9223372036854775808) : wrap64 x = x := by unfold wrap64; omega
theorem shr_dig (x i : Nat) (_hi : i < 4) (hx : x < 18446744073709551616) : bits .and .u64 ((x : Int) / 2 ^ (i * 16)) 65535 = (dig x i : Int) := by
  have e : ((x : Int) / 2 ^ (i * 16)) = ((x / 2 ^ (16 * i) : Nat) : Int) := by rw [Nat.mul_comm]; simp
  rw [e, show (65535 : Int) = ((65535 : Nat) : Int) from rfl, u64_and_nat _ _ (Nat.lt_of_le_of_lt (Nat.div_le_self _ _) hx) (by omega), nat_mask16]
  rfl

set_option maxHeartbeats 1000000 in
theorem h_asked (h : HpL nu sz w hb sb) (rd : Rds sz w sb f) (u : Nat) (hu : u < 4 * qa nu) (r0 : 0 ≤ f (aw nu + u / 4)) (r1 : f (aw nu + u / 4) < 18446744073709551616) :
    Calls Tryz.prog 122 #[ptr hb, .int .i64 u] w fun e w' => e = .returned (.int .i64 (ask nu f u)) ∧ ∃ q, w' = w.drewN q := by
  have c0 := h.c0; have c9 := h.c9
  obtain ⟨g1, g2, g3, g4, g5, g6⟩ := h.geo.b
  have LD := fun q => rd q (aw nu + u / 4) (by omega)
  obtain ⟨x, hx⟩ : ∃ x : Nat, f (aw nu + u / 4) = x := ⟨(f (aw nu + u / 4)).toNat, by omega⟩
  have e1 : ask nu f u = dig x (u % 4) := by rw [ask_of hu, hx]; rfl
  have SD := shr_dig x (u % 4) (by omega) (by omega)
  rw [e1]
  have e2 : ((aw nu + u / 4 : Nat) : Int) = (aw nu : Int) + (u : Int) / 4 := by omega
  simp only [hx, e2] at LD
  have HLD := @hide _ LD
  have HSD := hide SD
  have hu8 : u ≤ 8000 := by omega
  have ha3 := g1.2
  clear LD h rd SD e1 e2 hx r0 r1 hu g1 g2 g3 g4 g5 g6
  generalize aw nu = a at *
  go_enter Tryz.func122, Tryz.ntmps122
  go_wp2_with fail
  refine region_tailP 18 (by kernel_rfl) (by kernel_rfl) ?_
  simp only [List.take_succ_cons, List.take_zero, List.drop_succ_cons, List.drop_zero]
  repeat (go_big_quiet_step (first | (go_at_call 62; exact Calls.quiet_of_same (unhide HLD _))))
  refine wpQuiet_nil ?_
  rintro _ ⟨nq, rfl⟩
  rw [unhide HSD, small_w64 (by have : dig x (u % 4) < 65536 := Nat.mod_lt _ (by omega); omega)]
  go_wp2
  go_ret
  exact ⟨rfl, nq, rfl⟩

def begs (nu : Nat) (K : Nat → Nat) (u : Nat) : Bool := decide (K u ≠ 0 ∧ K u ≤ 512 ∧ u % 2 ^ lv (K u) = 0 ∧ u + 2 ^ lv (K u) ≤ nu)

set_option maxHeartbeats 1000000 in
theorem h_begins (h : HpL nu sz w hb sb) (rd : Rds sz w sb f) (u : Nat) (hu : u < 4 * qa nu) (r0 : 0 ≤ f (aw nu + u / 4)) (r1 : f (aw nu + u / 4) < 18446744073709551616) :
    Calls Tryz.prog 67 #[ptr hb, .int .i64 u] w fun e w' => e = .returned (.bool (begs nu (ask nu f) u)) ∧ ∃ q, w' = w.drewN q := by
  have K := h_asked h rd u hu r0 r1
  have HK := hide K
  have c1 := h.c1
  obtain ⟨g1, g2, g3, g4, g5, g6⟩ := h.geo.b
  have hu8 : u ≤ 8000 := by omega
  have hn8 := g5.2
  unfold begs
  generalize ask nu f u = x at *
  clear K h rd r0 r1 hu g1 g2 g3 g4 g5 g6
  go_enter Tryz.func67, Tryz.ntmps67
  go_wp2_with fail
  refine (unhide HK).mono ?_
  clear HK
  rintro e w1 ⟨rfl, q, rfl⟩
  by_cases h1 : x = 0
  · subst h1
    go_wp2
    go_ret
    exact ⟨rfl, q, rfl⟩
  · by_cases h2 : x ≤ 512
    · have L := h_level x (by omega) h2 (w.drewN q)
      have hl := lv_le x
      have p1 := two_pos (lv x)
      have p2 : 2 ^ lv x ≤ 2 ^ 6 := Nat.pow_le_pow_right (by omega) hl
      have hw : wrap64 (2 ^ lv x) = ((2 ^ lv x : Nat) : Int) := by
        have e : ((2 ^ lv x : Nat) : Int) = 2 ^ lv x := by simp
        rw [← e]
        exact small_w64 (by omega)
      have c1' : (w.drewN q).cell? ⟨hb, 1, none⟩ = some (.int .i64 nu) := c1
      generalize hm : 2 ^ lv x = m at *
      by_cases d1 : u % m = 0
      · have d1' : (u : Int) % m = 0 := by omega
        by_cases d2 : u + m ≤ nu
        · go_wp2_with (go_at_call 118; refine L.mono ?_; rintro e w' ⟨rfl, hh⟩; replace hh := hh.symm; subst hh)
          go_ret
          exact ⟨by simp [hm, h1, h2, d1, d2]; omega, q, rfl⟩
        · go_wp2_with (go_at_call 118; refine L.mono ?_; rintro e w' ⟨rfl, hh⟩; replace hh := hh.symm; subst hh)
          go_ret
          exact ⟨by simp [hm, d2]; omega, q, rfl⟩
      · have d1' : ((u : Int) % m == 0) = false := by simp; omega
        go_wp2_with (go_at_call 118; refine L.mono ?_; rintro e w' ⟨rfl, hh⟩; replace hh := hh.symm; subst hh)
        go_ret
        exact ⟨by simp [hm, d1], q, rfl⟩
    · go_wp2
      go_ret
      exact ⟨by simp [h2], q, rfl⟩
end
end
end Go.Proofs.YtflnaiijdpihcaaGreatDoor
