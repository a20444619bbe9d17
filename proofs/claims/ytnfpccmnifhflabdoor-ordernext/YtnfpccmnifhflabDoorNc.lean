/- The document's own codes. -/
import Derived.Test.YtnfpccmnifhflabDoorNb
namespace Go.Proofs.YtnfpccmnifhflabDoor
open Go.RowKit

theorem or_top (b : Nat) (h : b < 9223372036854775808) : b ||| 9223372036854775808 = b + 9223372036854775808 := by
  have := Nat.two_pow_add_eq_or_of_lt (i := 63) (b := b) h 1
  rw [Nat.or_comm]
  simpa [Nat.add_comm] using this.symm
theorem codeN_lt (a : Nat) (h : a < 18446744073709551616) : codeN a < 18446744073709551616 := by
  unfold codeN; split
  · omega
  · split <;> omega
theorem back_code (a : Nat) (ha : a < 18446744073709551616) : backN (codeN a) = a ∨ nanB (backN (codeN a)) = true ∧ nanB a = true := by
  by_cases h : nanB a = true
  · right
    refine ⟨?_, h⟩
    have e : codeN a = 18446744073709551615 := by unfold codeN; rw [if_pos h]
    rw [e]; decide
  · left
    have h' : nanB a = false := by simpa using h
    have e : backB (codeN a) = a := by
      unfold codeN
      rw [if_neg h]
      by_cases k : a < 9223372036854775808
      · rw [if_pos k]; unfold backB; rw [if_neg (by omega)]; omega
      · rw [if_neg k]; unfold backB; rw [if_pos (by omega)]; omega
    unfold backN
    rw [e, if_neg h]

end Go.Proofs.YtnfpccmnifhflabDoor
