/- The document's own bits of a whole number, and its own look whether a number is whole. -/
import Derived.Test.YticflknfkaoejaaGreatDoorWh2
import Derived.Test.YticflknfkaoejaaGreatDoorInf
import Derived.LoopTactic
namespace Go.Proofs.YticflknfkaoejaaGreatDoor
open Go.RowKit

theorem or_52 (a v : Nat) (hv : v < 4503599627370496) : (a * 4503599627370496) ||| v = a * 4503599627370496 + v := by
  have := Nat.two_pow_add_eq_or_of_lt (i := 52) (b := v) (by omega) a
  rw [show 2 ^ 52 * a = a * 4503599627370496 by omega] at this
  exact this.symm

set_option maxRecDepth 100000 in
set_option maxHeartbeats 1000000 in
theorem refBits_ok (q : Nat) (hq : q < 1000000000000000) (w : World) : Calls Tryz.prog 36 #[.int .u64 q] w fun e w' => e = .returned (.int .u64 (wr q)) ∧ w' = w := by
  by_cases h0 : q = 0
  · subst h0
    go_enter Tryz.func36, Tryz.ntmps36
    go_wp2
    go_ret
    exact ⟨rfl, rfl⟩
  · obtain ⟨g1, g2, g3⟩ := wr_facts q h0 (by omega)
    have hz0 : ((q : Int) == 0) = false := by simp; omega
    have hq0 := Lib.hid h0
    clear h0
    go_enter Tryz.func36, Tryz.ntmps36
    go_wp2_with fail
    go_loop [0, 3] (fun vv ve => ∃ v e : Nat, vv = .int .u64 v ∧ ve = .int .i64 e ∧ Hid (v = q * 2 ^ e ∧ v < 9007199254740992 ∧ e ≤ 52)) (fun _ ve => 60 - (RowKit.intOf ve).toNat)
    case atStart => exact ⟨q, 0, rfl, rfl, Lib.hid ⟨by simp, by omega, by omega⟩⟩
    case round =>
      obtain ⟨v, e, rfl, rfl, HI⟩ := hrel
      obtain ⟨i1, i2, i3⟩ := HI.out
      have h0 := hq0.out
      have hp := Nat.two_pow_pos e
      have he : e < 52 ∨ 4503599627370496 ≤ v := by
        rcases Nat.lt_or_ge e 52 with h | h
        · exact .inl h
        · right
          rw [i1, show e = 52 by omega]
          omega
      by_cases hv : v < 4503599627370496
      · have hz : ((v : Int) < 4503599627370496) = True := by simp; omega
        have he2 : e < 52 := by omega
        have L := Lib.hid (show v * 2 = q * 2 ^ (e + 1) ∧ v * 2 < 9007199254740992 ∧ e + 1 ≤ 52 from ⟨by rw [i1, Nat.pow_succ, Nat.mul_assoc], by omega, by omega⟩)
        have h1 : IntKind.u64.wrap ((v : Int) * 2) = ((v * 2 : Nat) : Int) := by rw [IntKind.wrap_u64]; omega
        clear HI i1 i2 i3 he hp h0
        go_wp2
        exact ⟨⟨v * 2, e + 1, rfl, rfl, L⟩, by simp [RowKit.intOf]; omega⟩
      · have hz : ((v : Int) < 4503599627370496) = False := by simp; omega
        have hlog : q.log2 = 52 - e := by
          have a1 : 2 ^ q.log2 ≤ q := (Nat.le_log2 h0).1 (Nat.le_refl _)
          have a2 : q < 2 ^ (q.log2 + 1) := (Nat.log2_lt h0).1 (Nat.lt_succ_self _)
          refine log2_of ?_ ?_
          · have : 2 ^ (52 - e) * 2 ^ e ≤ q * 2 ^ e := by rw [← Nat.pow_add, show 52 - e + e = 52 by omega, ← i1]; omega
            exact Nat.le_of_mul_le_mul_right this hp
          · have : q * 2 ^ e < 2 ^ (52 - e + 1) * 2 ^ e := by rw [← Nat.pow_add, show 52 - e + 1 + e = 53 by omega, ← i1]; omega
            exact Nat.lt_of_mul_lt_mul_right this
        have hw : wr q = (1075 - e) * 4503599627370496 + (v - 4503599627370496) := by
          unfold wr
          rw [if_neg h0, hlog, show 52 - (52 - e) = e by omega, ← i1]; omega
        obtain ⟨f, hf⟩ : ∃ f, v = 4503599627370496 + f := ⟨v - 4503599627370496, by omega⟩
        have hf2 : f < 4503599627370496 := by omega
        have ha : bits .and .u64 (v : Int) 4503599627370495 = (f : Int) := by
          rw [show (4503599627370495 : Int) = ((4503599627370495 : Nat) : Int) from rfl, u64_and_nat v _ (by omega) (by decide), show (4503599627370495 : Nat) = 2 ^ 52 - 1 by decide, Nat.and_two_pow_sub_one_eq_mod]
          omega
        have ho : bits .or .u64 ((1075 - (e : Int)) * 4503599627370496) (f : Int) = (wr q : Int) := by
          rw [show (1075 - (e : Int)) * 4503599627370496 = (((1075 - e) * 4503599627370496 : Nat) : Int) by omega, u64_or_nat _ _ (by omega) (by omega), or_52 _ _ hf2, hw]
          omega
        clear HI i1 i2 he hp h0 hlog hw hf
        go_wp2
        go_ret
        exact ⟨rfl, rfl⟩

/-- A word's exponent and digits, as the document's own look takes them. -/
theorem parts (b : Nat) (hb : b < 18446744073709551616) :
    bits .and .u64 ((b : Int) / 4503599627370496) 2047 = ((b % 9223372036854775808 / 4503599627370496 : Nat) : Int) ∧ bits .or .u64 (bits .and .u64 (b : Int) 4503599627370495) 4503599627370496 = ((4503599627370496 + b % 4503599627370496 : Nat) : Int) := by
  constructor
  · rw [show (b : Int) / 4503599627370496 = ((b / 4503599627370496 : Nat) : Int) by omega, show (2047 : Int) = ((2047 : Nat) : Int) from rfl, u64_and_nat _ _ (by omega) (by decide), show (2047 : Nat) = 2 ^ 11 - 1 by decide, Nat.and_two_pow_sub_one_eq_mod]
    omega
  · rw [show (4503599627370495 : Int) = ((4503599627370495 : Nat) : Int) from rfl, u64_and_nat b _ hb (by decide), show (4503599627370495 : Nat) = 2 ^ 52 - 1 by decide, Nat.and_two_pow_sub_one_eq_mod, show (4503599627370496 : Int) = ((4503599627370496 : Nat) : Int) from rfl, u64_or_nat _ _ (by omega) (by decide), Nat.or_comm]
    have := or_52 1 (b % 2 ^ 52) (by omega)
    rw [Nat.one_mul] at this
    rw [this]

end Go.Proofs.YticflknfkaoejaaGreatDoor
