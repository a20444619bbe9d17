/- The document's own look at a number that is not whole, or too great. -/
import Derived.Test.YticflknfkaoejaaDoorRefB
namespace Go.Proofs.YticflknfkaoejaaDoor
open Go.RowKit

/-- The number is not a whole one below ten to the fifteenth. -/
def NotWhole (b : Nat) : Prop := ∀ q, q < 1000000000000000 → b % 9223372036854775808 ≠ wr q

set_option maxRecDepth 100000 in
set_option maxHeartbeats 1000000 in
theorem refWhole_no (b : Nat) (hb : b < 18446744073709551616) (hno : NotWhole b) (w : World) : Calls Tryd.prog 55 #[.int .u64 b] w fun e w' => (∃ v : Nat, e = .returned (.tuple #[.int .u64 v, .bool false])) ∧ w' = w := by
  obtain ⟨p1, p2⟩ := parts b hb
  have hn : bits .andNot .u64 ((b : Nat) : Int) 9223372036854775808 = ((b % 9223372036854775808 : Nat) : Int) := by
    rw [show (9223372036854775808 : Int) = ((9223372036854775808 : Nat) : Int) from rfl, u64_andNot_nat _ _ hb (by decide), show (18446744073709551615 - 9223372036854775808 : Nat) = 9223372036854775807 by decide, and_low]
  have h0 : b % 9223372036854775808 ≠ 0 := hno 0 (by omega)
  have hwr : (((b % 9223372036854775808 : Nat) : Int) == 0) = false := by simp; omega
  obtain ⟨E, hE⟩ : ∃ E, E = b % 9223372036854775808 / 4503599627370496 := ⟨_, rfl⟩
  obtain ⟨M, hM⟩ : ∃ M, M = 4503599627370496 + b % 4503599627370496 := ⟨_, rfl⟩
  obtain ⟨r, hr⟩ : ∃ r, r = b % 9223372036854775808 := ⟨_, rfl⟩
  have hrM : r = (E - 1) * 4503599627370496 + M ∨ E = 0 := by omega
  have hE2 : E ≤ 2047 := by omega
  have hno2 : ∀ q, q < 1000000000000000 → r ≠ wr q := by rw [hr]; exact hno
  rw [← hE] at p1
  rw [← hM] at p2
  rw [← hr] at hn hwr
  have hM2 : 4503599627370496 ≤ M ∧ M < 9007199254740992 := by omega
  clear hE hM hr h0 hno
  by_cases c1 : 1075 < E
  · have k1 : ((1075 : Int) < (E : Int)) = True := by simp; omega
    clear hrM hno2 hM2
    go_enter Tryd.func55, Tryd.ntmps55
    go_wp2
    go_ret2
    exact ⟨⟨0, rfl⟩, rfl⟩
  · have k1 : ((1075 : Int) < (E : Int)) = False := by simp; omega
    by_cases c2 : E < 1023
    · have k2 : ((E : Int) - 1075 < -52) = True := by simp; omega
      clear hrM hno2 hM2
      go_enter Tryd.func55, Tryd.ntmps55
      go_wp2
      go_ret2
      exact ⟨⟨0, rfl⟩, rfl⟩
    · have k2 : ((E : Int) - 1075 < -52) = False := by simp; omega
      obtain ⟨d, hd⟩ : ∃ d, d = 1075 - E := ⟨_, rfl⟩
      have k3 : (-((E : Int) - 1075)).toNat = d := by omega
      have hd2 : d ≤ 52 := by omega
      have hp := Nat.two_pow_pos d
      have hp52 : 2 ^ d ≤ 4503599627370496 := by
        have := Nat.pow_le_pow_right (n := 2) (by omega) hd2
        simpa using this
      have hmask : bits .and .u64 (M : Int) ((2 ^ d - 1 : Nat) : Int) = ((M % 2 ^ d : Nat) : Int) := by
        rw [u64_and_nat _ _ (by omega) (by omega), Nat.and_two_pow_sub_one_eq_mod]
      have hdiv : (M : Int) / 2 ^ d = ((M / 2 ^ d : Nat) : Int) := by simp
      have hw1 : IntKind.u64.wrap (2 ^ d) = ((2 ^ d : Nat) : Int) := by
        rw [IntKind.wrap_u64, show ((2 : Int) ^ d) = ((2 ^ d : Nat) : Int) by simp]; omega
      have hw2 : IntKind.u64.wrap (((2 ^ d : Nat) : Int) - 1) = ((2 ^ d - 1 : Nat) : Int) := by rw [IntKind.wrap_u64]; omega
      have hE3 : 1023 ≤ E ∧ E ≤ 1075 := by omega
      have hbig : M % 2 ^ d = 0 → 1000000000000000 ≤ M / 2 ^ d := by
        intro hz
        rcases Nat.lt_or_ge (M / 2 ^ d) 1000000000000000 with h | h
        · exfalso
          have hMv : M / 2 ^ d * 2 ^ d = M := by have := Nat.div_add_mod M (2 ^ d); rw [hz, Nat.mul_comm] at this; omega
          have hv0 : M / 2 ^ d ≠ 0 := fun e => by rw [e] at hMv; omega
          have hlog : (M / 2 ^ d).log2 = 52 - d := by
            refine log2_of ?_ ?_
            · have : 2 ^ (52 - d) * 2 ^ d ≤ M / 2 ^ d * 2 ^ d := by rw [← Nat.pow_add, show 52 - d + d = 52 by omega, hMv]; omega
              exact Nat.le_of_mul_le_mul_right this hp
            · have : M / 2 ^ d * 2 ^ d < 2 ^ (52 - d + 1) * 2 ^ d := by rw [← Nat.pow_add, show 52 - d + 1 + d = 53 by omega, hMv]; omega
              exact Nat.lt_of_mul_lt_mul_right this
          refine hno2 _ h ?_
          unfold wr
          rw [if_neg hv0, hlog, show 52 - (52 - d) = d by omega, hMv]
          omega
        · exact h
      obtain ⟨P, hP⟩ : ∃ P, P = 2 ^ d := ⟨_, rfl⟩
      obtain ⟨Q, hQ⟩ : ∃ Q, Q = 2 ^ d - 1 := ⟨_, rfl⟩
      obtain ⟨R, hR⟩ : ∃ R, R = M % 2 ^ d := ⟨_, rfl⟩
      obtain ⟨V, hV⟩ : ∃ V, V = M / 2 ^ d := ⟨_, rfl⟩
      rw [← hR] at hbig hmask
      rw [← hV] at hbig hdiv
      rw [← hQ] at hmask hw2
      rw [← hP] at hw1 hw2
      clear hrM hno2 hM2 hd hP hQ hR hV hp hp52
      by_cases c3 : R = 0
      · have hV := hbig c3
        subst c3
        have k4 : ((V : Int) < 1000000000000000) = False := by simp; omega
        clear hbig hV
        go_enter Tryd.func55, Tryd.ntmps55
        go_wp2
        go_ret2
        exact ⟨⟨V, rfl⟩, rfl⟩
      · have k4 : ((R : Int) == 0) = false := by simp; omega
        clear hbig c3
        go_enter Tryd.func55, Tryd.ntmps55
        go_wp2
        go_ret2
        exact ⟨⟨0, rfl⟩, rfl⟩
end Go.Proofs.YticflknfkaoejaaDoor
