/- The document's own look at a number that is not whole, or too great. -/
import Derived.Test.YticflknfkaoejaaGreatDoorRefB
namespace Go.Proofs.YticflknfkaoejaaGreatDoor
open Go.RowKit

/-- The number is not a whole one below ten to the fifteenth. -/
def NotWhole (b : Nat) : Prop := ∀ q, q < 1000000000000000 → b % 9223372036854775808 ≠ wr q

end Go.Proofs.YticflknfkaoejaaGreatDoor
