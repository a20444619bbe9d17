/- num's Text at numbers that are not whole; sixteen digits told in two ways. -/
import Derived.Test.YticflknfkaoejaaDoorRefN
import Derived.Test.YticflknfkaoejaaDoorRefL
import Derived.Test.YticflknfkaoejaaDoorTextW
namespace Go.Proofs.YticflknfkaoejaaDoor
open Go.RowKit

theorem hexGo_app (f v : Nat) (l : List UInt8) : hexGo f v l = hexGo f v [] ++ l := by
  induction f generalizing v l with
  | zero => rfl
  | succ f ih =>
    rw [hexGo, hexGo]
    split
    · rfl
    · rw [ih (v / 16) (hexd (v % 16) :: l), ih (v / 16) [hexd (v % 16)]]; simp
theorem hexN_zero (k : Nat) : hexN k 0 = List.replicate k 48 := by
  induction k with
  | zero => rfl
  | succ k ih => rw [hexN, Nat.zero_div, ih, show hexd (0 % 16) = 48 by decide, List.replicate_succ']
theorem hexN_go (f v : Nat) (hv : v < 16 ^ f) (hf : 1 ≤ f) : hexN f v = List.replicate (f - (hexGo f v []).length) 48 ++ hexGo f v [] := by
  induction f generalizing v with
  | zero => omega
  | succ f ih =>
    rw [hexN, hexGo]
    split
    · rename_i h
      rw [show v / 16 = 0 by omega, show v % 16 = v by omega, hexN_zero]; simp
    · rename_i h
      rcases Nat.eq_zero_or_pos f with rfl | h0
      · simp at hv; omega
      · have hv2 : v / 16 < 16 ^ f := Nat.div_lt_of_lt_mul (by rw [Nat.pow_succ] at hv; omega)
        have hlen := hexGo_length f (v / 16) [] hv2 h0
        rw [ih (v / 16) hv2 h0, hexGo_app f (v / 16) [hexd (v % 16)]]
        simp only [List.length_append, List.length_cons, List.length_nil] at hlen ⊢
        rw [show f + 1 - ((hexGo f (v / 16) []).length + (0 + 1)) = f - (hexGo f (v / 16) []).length by omega, List.append_assoc]
theorem hexT_N (b : Nat) (hb : b < 18446744073709551616) : hexT b = 48 :: 120 :: hexN 16 b := by
  unfold hexT
  rw [hexN_go 16 b (by simpa using hb) (by decide)]; rfl

theorem cut_zero_le (neg : Bool) (m d : Nat) : Ieee.Toward.zero.cut neg m d * 2 ^ d ≤ m := by
  unfold Ieee.Toward.cut
  simp only [Nat.shiftLeft_eq, Nat.one_mul]
  show (m / 2 ^ min d (m.log2 + 2) + 0) * 2 ^ d ≤ m
  rw [Nat.add_zero]
  rcases Nat.le_total d (m.log2 + 2) with h | h
  · rw [Nat.min_eq_left h]; exact Nat.div_mul_le_self m _
  · rw [Nat.min_eq_right h]
    by_cases h0 : m = 0
    · subst h0; simp
    · have : m < 2 ^ (m.log2 + 2) := Nat.lt_trans ((Nat.log2_lt h0).1 (Nat.lt_succ_self _)) (Nat.pow_lt_pow_right (by omega) (by omega))
      rw [Nat.div_eq_of_lt this]; simp

theorem trunc_not (b : Nat) (hb : b < 18446744073709551616) (hr : b % 9223372036854775808 < 4831355200913801216) (hno : NotWhole b) :
    (FloatKind.f64.format.order (FloatKind.f64.encode ((FloatKind.f64.decode b).integral .zero)) b == some Ordering.eq) = false := by
  obtain ⟨m, p, e, k, _⟩ := read_num b (by omega)
  obtain ⟨K, hK⟩ : ∃ K : Nat, K = 1074 := ⟨_, rfl⟩
  have hp : p ≤ K := by
    have := read_place b (by omega) m p e
    omega
  have hint : (Ieee.double.read b).integral .zero = .number (sgn b) (Ieee.Toward.zero.cut (sgn b) m (K - p)) 0 := by
    rw [e]
    show Ieee.Datum.number (sgn b) (Ieee.Toward.zero.cut (sgn b) (m <<< (-1074 + (p : Int)).toNat) (-(-1074 + (p : Int))).toNat) 0 = _
    rw [show (-1074 + (p : Int)).toNat = 0 by omega, show (-(-1074 + (p : Int))).toNat = K - p by omega, Nat.shiftLeft_zero]
  have hcl := cut_zero_le (sgn b) m (K - p)
  generalize Ieee.Toward.zero.cut (sgn b) m (K - p) = q at *
  have hq : q < 1000000000000000 := by
    have h1 : sz (b % 9223372036854775808) < 1000000000000000 * 2 ^ K := by
      rw [← sz_wr 1000000000000000 (by omega) K hK, r15]; exact sz_lt hr
    have h2 : q * 2 ^ K ≤ sz (b % 9223372036854775808) := by
      rw [← k, show q * 2 ^ K = q * 2 ^ (K - p) * 2 ^ p by rw [Nat.mul_assoc, ← Nat.pow_add, show K - p + p = K by omega]]
      exact Nat.mul_le_mul_right _ hcl
    exact Nat.lt_of_mul_lt_mul_right (Nat.lt_of_le_of_lt h2 h1)
  have hc : FloatKind.f64.encode ((FloatKind.f64.decode b).integral .zero) = wb (sgn b) q := by
    show Ieee.double.write ((Ieee.double.read b).integral .zero) = _
    rw [hint]
    show Ieee.double.nearest (sgn b) q 0 = _
    rw [nearest_whole _ _ (by omega), wb_word]
  rw [hc]
  obtain ⟨f1, f2, f3, f4⟩ := wb_facts (sgn b) q (by omega)
  have hnb : nanB b = false := by simp only [nanB, decide_eq_false_iff_not, Nat.not_lt]; omega
  rw [show FloatKind.f64.format.order (wb (sgn b) q) b = _ from ord_eq _ b f1 hb f2 hnb]
  have hne : val (wb (sgn b) q) ≠ val b := by
    intro hv
    have hs : sz (wr q) = sz (b % 9223372036854775808) := by
      rw [sgn_eq _ f1, sgn_eq b hb] at f4
      have f5 : (9223372036854775808 ≤ wb (sgn b) q) ↔ (9223372036854775808 ≤ b) := by
        rw [sgn_eq b hb]; exact decide_eq_decide.1 f4
      unfold val at hv
      rw [f3] at hv
      by_cases h1 : b < 9223372036854775808
      · rw [if_pos h1, if_pos (by omega)] at hv; omega
      · rw [if_neg h1, if_neg (by omega)] at hv; omega
    exact hno q hq (sz_inj hs).symm
  unfold cmpI
  split
  · rfl
  · first | rfl | (rw [if_neg hne]; rfl)

set_option maxRecDepth 100000 in
set_option maxHeartbeats 1000000 in
theorem text_hex (b : Nat) (hb : b < 18446744073709551616) (hr : b % 9223372036854775808 < 9218868437227405312) (hno : NotWhole b) (w : World) (ht : Tab w) : Calls Tryd.prog 43 #[.float .f64 b] w fun e w' => e = .returned (.string ⟨(hexT b).toArray⟩) ∧ Below w.heap.size w w' := by
  by_cases h15 : 4831355200913801216 ≤ b % 9223372036854775808
  · exact text_big b hb h15 hr w ht
  · have hbit := bits_run
    have hn : nanB b = false := by simp only [nanB, decide_eq_false_iff_not, Nat.not_lt]; omega
    have hi1 : infS 1 b = false := by unfold infS; rw [if_pos rfl]; exact decide_eq_false (fun e => by rw [e] at hr; omega)
    have hi2 : infS (-1) b = false := by unfold infS; rw [if_neg (by decide)]; exact decide_eq_false (fun e => by rw [e] at hr; omega)
    have ha := abs_ok b hb
    have h3 := ord_lt15 (b % 9223372036854775808) (by omega)
    have h4 := trunc_not b hb (by omega) hno
    have htr := trunc_ok b _ hn rfl
    have hx := hexText_ok b hb w ht
    clear h15 hr hno
    generalize FloatKind.f64.encode ((FloatKind.f64.decode b).integral .zero) = c at *
    generalize b % 9223372036854775808 = r at *
    generalize hexT b = t at *
    go_enter Tryd.func43, Tryd.ntmps43
    go_wp2_with (first | (go_at_call 50; refine (isNaN_ok _ hb _).mono ?_; rintro e w' ⟨rfl, rfl⟩) | (go_at_call 54; refine hx.mono ?_; rintro e w2 ⟨rfl, hb2⟩) | (go_at_call 51; refine (isInf_s _ hb _ (by decide) _).mono ?_; rintro e w' ⟨rfl, rfl⟩) | (go_at_call 52; go_in) | (go_at_call 61; refine (htr _).mono ?_; rintro e w' ⟨rfl, rfl⟩) | (go_at_call 60; refine (ha _).mono ?_; rintro e w' ⟨rfl, rfl⟩))
    go_ret
    exact ⟨rfl, hb2⟩
end Go.Proofs.YticflknfkaoejaaDoor
