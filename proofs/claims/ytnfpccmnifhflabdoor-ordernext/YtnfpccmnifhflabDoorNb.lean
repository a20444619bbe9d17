/- num's Back, and the document's own answers on codes. -/
import Derived.Test.YtnfpccmnifhflabDoorN1
namespace Go.Proofs.YtnfpccmnifhflabDoor
open Go.RowKit

/-- The bits whose code a word would be. -/
def backB (c : Nat) : Nat := if c < 9223372036854775808 then 18446744073709551615 - c else c - 9223372036854775808
theorem backB_lt (c : Nat) (h : c < 18446744073709551616) : backB c < 18446744073709551616 := by unfold backB; split <;> omega
/-- What Back tells. -/
def backN (c : Nat) : Nat := if nanB (backB c) then 9221120237041090561 else backB c
theorem backN_lt (c : Nat) (h : c < 18446744073709551616) : backN c < 18446744073709551616 := by
  have := backB_lt c h
  unfold backN; split <;> omega

theorem iandNot_top (b : Nat) (hb : b < 18446744073709551616) : bits .andNot .u64 (b : Int) 9223372036854775808 = ((b % 9223372036854775808 : Nat) : Int) := by
  rw [show (9223372036854775808 : Int) = ((9223372036854775808 : Nat) : Int) from rfl, u64_andNot_nat b _ hb (by decide), ← and_low]

end Go.Proofs.YtnfpccmnifhflabDoor
