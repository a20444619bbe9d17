/-
  DERIVED. GIVEN WITH THE SEED: THE CARDS: each row of YtnfpccmnifhflabDoorRows.lean that lists a variable, with what it lists TIED to the program's text (the seventh form; the later family's looks); each row that meets fmt, with fmt's text TOLD by the authors' own Lean function (tested against real Go, not proved from fmt's source: count such statements apart). THE CARD IS WHAT COUNTS. Prove the row's statement (the work); the ties are given (YtnfpccmnifhflabDoorTie.lean); close each card by the builder's one call (the guide's Derived/Test/ToyasCard.lean, 'card_holds'). Laid BY PROGRAM, IN A SANDBOX (cutbox-door.mjs). By AI agents, Wed Nov 11 2026. No macro, syntax, notation, axiom, sorry.
-/
import Derived.Test.YtnfpccmnifhflabDoorRows
import GoSem.ClaimSeven
namespace Go.Proofs.YtnfpccmnifhflabDoor
namespace Rows

/-- THE TIED CARD OF 'reliquarylaw13.OrderNext'. -/
def orderNextCard : Claim7 := { stood := { row := orderNextRow, standIns := [], harness := (true, "c4b52f7672e516a738e37369092e5eb3266cd3e1272eb8532ee5dca36512a9c5"), looks := false }, kinds := [], alts := [], laidByText := true, laidKinds := [.data, .pinned], laidTests := true, laidLooks := .later }
def OrderNextCardSaid : Prop := Claim7.holds Tryd.pinned (.plain (OpenSpec.ofChange orderNextSpec)) orderNextCard

/-- THE SECOND FORM's CARD OF 'reliquarylaw13.OrderNext'. -/
def orderNextUptoCard : Claim7 := { stood := { row := orderNextUptoRow, standIns := [], harness := (true, "c4b52f7672e516a738e37369092e5eb3266cd3e1272eb8532ee5dca36512a9c5"), looks := false }, kinds := [], alts := [], laidByText := true, laidKinds := [.data, .pinned], laidTests := true, laidLooks := .later }
def OrderNextUptoCardSaid : Prop := Claim7.holds Tryd.pinned (.plain (OpenSpec.upto orderNextSpec)) orderNextUptoCard
end Rows
end Go.Proofs.YtnfpccmnifhflabDoor
