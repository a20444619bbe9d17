/- The document's own bits of a whole number, and its own look whether a number is whole. -/
import Derived.Test.YticflknfkaoejaaDoorWh2
import Derived.Test.YticflknfkaoejaaDoorInf
import Derived.LoopTactic
namespace Go.Proofs.YticflknfkaoejaaDoor
open Go.RowKit

theorem or_52 (a v : Nat) (hv : v < 4503599627370496) : (a * 4503599627370496) ||| v = a * 4503599627370496 + v := by
  have := Nat.two_pow_add_eq_or_of_lt (i := 52) (b := v) (by omega) a
  rw [show 2 ^ 52 * a = a * 4503599627370496 by omega] at this
  exact this.symm

/-- A word's exponent and digits, as the document's own look takes them. -/
theorem parts (b : Nat) (hb : b < 18446744073709551616) :
    bits .and .u64 ((b : Int) / 4503599627370496) 2047 = ((b % 9223372036854775808 / 4503599627370496 : Nat) : Int) ∧ bits .or .u64 (bits .and .u64 (b : Int) 4503599627370495) 4503599627370496 = ((4503599627370496 + b % 4503599627370496 : Nat) : Int) := by
  constructor
  · rw [show (b : Int) / 4503599627370496 = ((b / 4503599627370496 : Nat) : Int) by omega, show (2047 : Int) = ((2047 : Nat) : Int) from rfl, u64_and_nat _ _ (by omega) (by decide), show (2047 : Nat) = 2 ^ 11 - 1 by decide, Nat.and_two_pow_sub_one_eq_mod]
    omega
  · rw [show (4503599627370495 : Int) = ((4503599627370495 : Nat) : Int) from rfl, u64_and_nat b _ hb (by decide), show (4503599627370495 : Nat) = 2 ^ 52 - 1 by decide, Nat.and_two_pow_sub_one_eq_mod, show (4503599627370496 : Int) = ((4503599627370496 : Nat) : Int) from rfl, u64_or_nat _ _ (by omega) (by decide), Nat.or_comm]
    have := or_52 1 (b % 2 ^ 52) (by omega)
    rw [Nat.one_mul] at this
    rw [this]

set_option maxRecDepth 100000 in
set_option maxHeartbeats 1000000 in
theorem refWhole_yes (neg : Bool) (q : Nat) (hq : q < 1000000000000000) (w : World) : Calls Tryd.prog 55 #[.int .u64 (wb neg q)] w fun e w' => e = .returned (.tuple #[.int .u64 q, .bool true]) ∧ w' = w := by
  obtain ⟨f1, f2, f3, f4⟩ := wb_facts neg q (by omega)
  obtain ⟨p1, p2⟩ := parts _ f1
  rw [f3] at p1
  have hn : bits .andNot .u64 ((wb neg q : Nat) : Int) 9223372036854775808 = (wr q : Int) := by
    rw [show (9223372036854775808 : Int) = ((9223372036854775808 : Nat) : Int) from rfl, u64_andNot_nat _ _ f1 (by decide), show (18446744073709551615 - 9223372036854775808 : Nat) = 9223372036854775807 by decide, and_low, f3]
  by_cases h0 : q = 0
  · subst h0
    rw [show wr 0 = 0 from rfl] at hn p1
    obtain ⟨y, hy⟩ : ∃ y, ((4503599627370496 + wb neg 0 % 4503599627370496 : Nat) : Int) = y := ⟨_, rfl⟩
    rw [hy] at p2
    generalize wb neg 0 = b at *
    clear hy
    go_enter Tryd.func55, Tryd.ntmps55
    go_wp2
    go_ret2
    exact ⟨rfl, rfl⟩
  · obtain ⟨g1, g2, g3⟩ := wr_facts q h0 (by omega)
    have e0 : wr q = (q.log2 + 1022) * 4503599627370496 + q * 2 ^ (52 - q.log2) := by unfold wr; rw [if_neg h0]
    obtain ⟨d, hd⟩ : ∃ d, q.log2 = 52 - d ∧ d ≤ 52 := ⟨52 - q.log2, by omega, by omega⟩
    obtain ⟨hd1, hd2⟩ := hd
    rw [hd1, show 52 - (52 - d) = d by omega] at e0 g2 g3
    have hM : 4503599627370496 + wb neg q % 4503599627370496 = q * 2 ^ d := by
      have : wb neg q % 4503599627370496 = wr q % 4503599627370496 := by unfold wb; split <;> omega
      rw [this, e0]; omega
    have hE : wr q / 4503599627370496 = 1075 - d := by rw [e0]; omega
    rw [hM] at p2
    rw [hE] at p1
    have hwr : (((wr q : Nat) : Int) == 0) = false := by simp; omega
    have hp := Nat.two_pow_pos d
    have hp52 : 2 ^ d ≤ 4503599627370496 := by
      have := Nat.pow_le_pow_right (n := 2) (by omega) hd2
      simpa using this
    have hmask : bits .and .u64 ((q * 2 ^ d : Nat) : Int) ((2 ^ d - 1 : Nat) : Int) = 0 := by
      rw [u64_and_nat _ _ (by omega) (by omega), Nat.and_two_pow_sub_one_eq_mod, Nat.mul_mod_left]; rfl
    have hq15 : ((q : Int) < 1000000000000000) = True := by simp; omega
    have hdiv : ((q * 2 ^ d : Nat) : Int) / 2 ^ d = (q : Int) := by
      rw [show ((2 : Int) ^ d) = ((2 ^ d : Nat) : Int) by simp, ← Int.natCast_ediv, Nat.mul_div_cancel q hp]
    have hw1 : IntKind.u64.wrap (2 ^ d) = ((2 ^ d : Nat) : Int) := by
      rw [IntKind.wrap_u64, show ((2 : Int) ^ d) = ((2 ^ d : Nat) : Int) by simp]; omega
    have hw2 : IntKind.u64.wrap (((2 ^ d : Nat) : Int) - 1) = ((2 ^ d - 1 : Nat) : Int) := by rw [IntKind.wrap_u64]; omega
    obtain ⟨E, hE2⟩ : ∃ E, E = 1075 - d := ⟨_, rfl⟩
    rw [← hE2] at p1
    have k1 : ((1075 : Int) < (E : Int)) = False := by simp; omega
    have k2 : ((E : Int) - 1075 < -52) = False := by simp; omega
    have k3 : (-((E : Int) - 1075)).toNat = d := by omega
    have hE3 : 1023 ≤ E ∧ E ≤ 1075 := by omega
    obtain ⟨M, hM2⟩ : ∃ M, M = q * 2 ^ d := ⟨_, rfl⟩
    obtain ⟨P, hP⟩ : ∃ P, P = 2 ^ d := ⟨_, rfl⟩
    obtain ⟨Q, hQ⟩ : ∃ Q, Q = 2 ^ d - 1 := ⟨_, rfl⟩
    rw [← hM2] at p2 hmask hdiv
    rw [← hQ] at hmask hw2
    rw [← hP] at hw1 hw2
    generalize wb neg q = b at *
    generalize wr q = r at *
    clear g1 g2 g3 e0 hd1 hM hE hM2 f2 f3 f4 hE2 hP hQ hp hp52
    go_enter Tryd.func55, Tryd.ntmps55
    go_wp2
    go_ret2
    exact ⟨rfl, rfl⟩
end Go.Proofs.YticflknfkaoejaaDoor
