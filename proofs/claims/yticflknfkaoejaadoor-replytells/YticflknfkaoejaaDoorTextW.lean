/- num's Text at whole numbers and at great ones. -/
import Derived.Test.YticflknfkaoejaaDoorWh2
import Derived.Test.YticflknfkaoejaaDoorInf
import Derived.Test.YticflknfkaoejaaDoorShelfT
import Derived.Lib.AppendIntMem
namespace Go.Proofs.YticflknfkaoejaaDoor
open Go.RowKit

/-- The table of powers of ten. -/
abbrev Pow (w : World) : Prop := Lib.TabIs Tryd.prog w "internal/strconv.uint64pow10" .u64 Lib.pow10Tab

theorem ord_lt15 (r : Nat) (h : r < 4831355200913801216) : (FloatKind.f64.format.order r 4831355200913801216 == some Ordering.lt) = true := by
  have hn : nanB r = false := by simp only [nanB, decide_eq_false_iff_not, Nat.not_lt]; omega
  rw [show FloatKind.f64.format.order r 4831355200913801216 = _ from ord_eq r _ (by omega) (by decide) hn (by decide)]
  have : val r < val 4831355200913801216 := by
    unfold val
    rw [if_pos (by omega), if_pos (by decide), Nat.mod_eq_of_lt (by omega), Nat.mod_eq_of_lt (by decide)]
    exact_mod_cast sz_lt h
  unfold cmpI; rw [if_pos this]; rfl
theorem ord_ge15 (r : Nat) (h : 4831355200913801216 ≤ r) (h2 : r < 9218868437227405312) : (FloatKind.f64.format.order r 4831355200913801216 == some Ordering.lt) = false := by
  have hn : nanB r = false := by simp only [nanB, decide_eq_false_iff_not, Nat.not_lt]; omega
  rw [show FloatKind.f64.format.order r 4831355200913801216 = _ from ord_eq r _ (by omega) (by decide) hn (by decide)]
  have : ¬ val r < val 4831355200913801216 := by
    unfold val
    rw [if_pos (by omega), if_pos (by decide), Nat.mod_eq_of_lt (by omega), Nat.mod_eq_of_lt (by decide)]
    intro k
    have := (sz_lt_iff _ _).1 (by exact_mod_cast k)
    omega
  unfold cmpI; rw [if_neg this]
  split <;> rfl
theorem ord_zero (b : Nat) (hb : b < 18446744073709551616) (hn : nanB b = false) : (FloatKind.f64.format.order b 0 == some Ordering.eq) = decide (b % 9223372036854775808 = 0) := by
  rw [show FloatKind.f64.format.order b 0 = _ from ord_eq b 0 hb (by decide) hn (by decide), show val 0 = 0 by decide]
  unfold cmpI
  by_cases h : b % 9223372036854775808 = 0
  · have : val b = 0 := by unfold val; rw [h, show sz 0 = 0 from rfl]; split <;> rfl
    rw [if_neg (by omega), if_pos this, decide_eq_true h]; rfl
  · have : val b ≠ 0 := fun e => by rcases val_zero b hb e with h1 | h1 <;> omega
    rw [decide_eq_false h]
    by_cases k : val b < 0
    · rw [if_pos k]; rfl
    · rw [if_neg k, if_neg this]; rfl

theorem below_pow {w w' : World} (h : Pow w) (hb : Below w.heap.size w w') : Pow w' := Lib.tabBelow_of_tabIs h w' hb

set_option maxRecDepth 100000 in
set_option maxHeartbeats 1000000 in
theorem text_whole (n : Int) (h : n.natAbs < 1000000000000000) (w : World) (hp : Pow w) : Calls Tryd.prog 43 #[.float .f64 (fl n)] w fun e w' => e = .returned (.string ⟨(Lib.itoa n).toArray⟩) ∧ Below w.heap.size w w' := by
  obtain ⟨f1, f2, f3, f4⟩ := wb_facts (decide (n < 0)) n.natAbs (by omega)
  rw [← fl_small n h] at f1 f2 f3 f4
  have hs := wr_small n.natAbs h
  have hi1 : infS 1 (fl n) = false := by unfold infS; rw [if_pos rfl]; exact decide_eq_false (fun e => by rw [e] at f3; omega)
  have hi2 : infS (-1) (fl n) = false := by unfold infS; rw [if_neg (by decide)]; exact decide_eq_false (fun e => by rw [e] at f3; omega)
  have ha := abs_ok (fl n) f1
  rw [f3] at ha
  have hint : (Ieee.double.read (fl n)).integral .zero = .number (decide (n < 0)) n.natAbs 0 := by rw [fl_small n h]; exact whole_integral _ _ (by omega)
  have ht := trunc_ok (fl n) (fl n) f2 (by show Ieee.double.write ((Ieee.double.read (fl n)).integral .zero) = _; rw [hint]; rfl)
  have h3 := ord_lt15 _ hs
  have h4 : (FloatKind.f64.format.order (fl n) (fl n) == some Ordering.eq) = true := by rw [ord_self' _ f1, f2]; rfl
  have h5 := ord_zero _ f1 f2
  rw [f3] at h5
  have hsb := signbit_ok (fl n) f1
  have hcv : ∀ w, (convert 35 2 (.float .f64 (fl n))).run Tryd.prog w = .ok (.int .i64 n) w := fun w => run_convert_float_int w 35 2 .f64 .i64 _ n (by kernel_rfl) Tryd.underlying2 (by
    unfold floatToIntVal
    have e : (FloatKind.f64.decode (fl n)).toInt .zero = some n := by
      show (Ieee.double.read (fl n)).toInt .zero = some n
      unfold Ieee.Datum.toInt
      rw [hint]
      show some (Ieee.signed (decide (n < 0)) n.natAbs 0) = some n
      unfold Ieee.signed
      rw [Nat.shiftLeft_zero]
      by_cases k : n < 0
      · rw [if_pos (by simpa using k)]; congr 1; omega
      · rw [if_neg (by simpa using k)]; congr 1; omega
    rw [e]
    show (if IntKind.i64.min ≤ n ∧ n ≤ IntKind.i64.max then some n else none) = some n
    rw [if_pos]
    show -9223372036854775808 ≤ n ∧ n ≤ 9223372036854775807
    omega)
  have hd : (decide (wr n.natAbs = 0) = false) ∨ (decide (wr n.natAbs = 0) = true ∧ decide (9223372036854775808 ≤ fl n) = false) := by
    by_cases k : wr n.natAbs = 0
    · right
      refine ⟨decide_eq_true k, decide_eq_false ?_⟩
      have hq : n.natAbs = 0 := by
        rcases Nat.eq_zero_or_pos n.natAbs with q | q
        · exact q
        · obtain ⟨_, g1, _⟩ := wr_facts n.natAbs (by omega) (by omega)
          unfold wr at k; rw [if_neg (by omega)] at k; omega
      have e : fl n = wb (decide (n < 0)) n.natAbs := fl_small n h
      rw [e, hq, show decide (n < 0) = false from decide_eq_false (by omega)]
      decide
    · exact .inl (decide_eq_false k)
  clear hint f3 f4 hs
  generalize fl n = b at *
  generalize wr n.natAbs = r at *
  rcases hd with d1 | ⟨d1, d2⟩
  · rw [d1] at h5
    clear d1
    go_enter Tryd.func43, Tryd.ntmps43
    go_wp2_with (first | (go_at_call 50; refine (isNaN_ok _ f1 _).mono ?_; rintro e w' ⟨rfl, rfl⟩) | (go_at_call 63; refine (Tryd.strconv_FormatInt_10 n (by omega) (by omega) _ hp).mono ?_; rintro e w' ⟨rfl, k, os, hw⟩) | (go_at_call 51; refine (isInf_s _ f1 _ (by decide) _).mono ?_; rintro e w' ⟨rfl, rfl⟩) | (go_at_call 52; go_in) | (go_at_call 53; go_in) | (go_at_call 61; refine (ht _).mono ?_; rintro e w' ⟨rfl, rfl⟩) | (go_at_call 60; refine (ha _).mono ?_; rintro e w' ⟨rfl, rfl⟩))
    go_ret
    exact ⟨rfl, Lib.below_grow _ _ (Nat.le_refl _) k os⟩
  · rw [d1] at h5
    rw [d2] at hsb
    clear d1 d2
    go_enter Tryd.func43, Tryd.ntmps43
    go_wp2_with (first | (go_at_call 50; refine (isNaN_ok _ f1 _).mono ?_; rintro e w' ⟨rfl, rfl⟩) | (go_at_call 63; refine (Tryd.strconv_FormatInt_10 n (by omega) (by omega) _ hp).mono ?_; rintro e w' ⟨rfl, k, os, hw⟩) | (go_at_call 51; refine (isInf_s _ f1 _ (by decide) _).mono ?_; rintro e w' ⟨rfl, rfl⟩) | (go_at_call 52; go_in) | (go_at_call 53; go_in) | (go_at_call 61; refine (ht _).mono ?_; rintro e w' ⟨rfl, rfl⟩) | (go_at_call 62; refine (hsb _).mono ?_; rintro e w' ⟨rfl, rfl⟩) | (go_at_call 60; refine (ha _).mono ?_; rintro e w' ⟨rfl, rfl⟩))
    go_ret
    exact ⟨rfl, Lib.below_grow _ _ (Nat.le_refl _) k os⟩

set_option maxRecDepth 100000 in
set_option maxHeartbeats 1000000 in
theorem text_big (b : Nat) (hb : b < 18446744073709551616) (h1 : 4831355200913801216 ≤ b % 9223372036854775808) (h2 : b % 9223372036854775808 < 9218868437227405312) (w : World) (ht : Tab w) : Calls Tryd.prog 43 #[.float .f64 b] w fun e w' => e = .returned (.string ⟨(hexT b).toArray⟩) ∧ Below w.heap.size w w' := by
  have hbit := bits_run
  have hn : nanB b = false := by simp only [nanB, decide_eq_false_iff_not, Nat.not_lt]; omega
  have hi1 : infS 1 b = false := by unfold infS; rw [if_pos rfl]; exact decide_eq_false (fun e => by rw [e] at h2; omega)
  have hi2 : infS (-1) b = false := by unfold infS; rw [if_neg (by decide)]; exact decide_eq_false (fun e => by rw [e] at h2; omega)
  have ha := abs_ok b hb
  have h3 := ord_ge15 _ h1 h2
  have hx := hexText_ok b hb w ht
  clear h1 h2
  generalize b % 9223372036854775808 = r at *
  generalize hexT b = t at *
  go_enter Tryd.func43, Tryd.ntmps43
  go_wp2_with (first | (go_at_call 50; refine (isNaN_ok _ hb _).mono ?_; rintro e w' ⟨rfl, rfl⟩) | (go_at_call 54; refine hx.mono ?_; rintro e w2 ⟨rfl, hb2⟩) | (go_at_call 51; refine (isInf_s _ hb _ (by decide) _).mono ?_; rintro e w' ⟨rfl, rfl⟩) | (go_at_call 52; go_in) | (go_at_call 60; refine (ha _).mono ?_; rintro e w' ⟨rfl, rfl⟩))
  go_ret
  exact ⟨rfl, hb2⟩
end Go.Proofs.YticflknfkaoejaaDoor
