/- The document's own Text. -/
import Derived.Test.YticflknfkaoejaaGreatDoorTextH
import Derived.Test.YticflknfkaoejaaGreatDoorNan
namespace Go.Proofs.YticflknfkaoejaaGreatDoor
open Go.RowKit

/-- The sign that stands ahead of a text. -/
def sg (neg : Bool) : List UInt8 := if neg then [45] else []

theorem inf_notWhole (b : Nat) (h : 4831355200913801216 ≤ b % 9223372036854775808) : NotWhole b := fun q hq e => by
  have := wr_small q hq
  omega

theorem dec_len (u : Nat) : (Lib.decDigits u).length ≤ u + 1 := by
  induction u using Nat.strongRecOn with
  | ind u ih =>
    rw [Lib.decDigits]
    split
    · simp
    · have := ih (u / 10) (by omega)
      simp; omega

end Go.Proofs.YticflknfkaoejaaGreatDoor
