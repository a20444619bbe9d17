/-
  DERIVED. GIVEN WITH THE SEED: THE CARDS: each row of YtdgobaknbjlahaaGreatDoorRows.lean that lists a variable, with what it lists TIED to the program's text (the seventh form; the later family's looks); each row that meets fmt, with fmt's text TOLD by the authors' own Lean function (tested against real Go, not proved from fmt's source: count such statements apart). THE CARD IS WHAT COUNTS. Prove the row's statement (the work); the ties are given (YtdgobaknbjlahaaGreatDoorTie.lean); close each card by the builder's one call (the guide's Derived/Test/ToyasCard.lean, 'card_holds'). Laid BY PROGRAM, IN A SANDBOX (cutbox-door.mjs). By AI agents, Wed Nov 11 2026. No macro, syntax, notation, axiom, sorry.
-/
import Derived.Test.YtdgobaknbjlahaaGreatDoorRows
import GoSem.ClaimSeven
namespace Go.Proofs.YtdgobaknbjlahaaGreatDoor
namespace Rows

/-- THE TIED CARD OF 'reliquarylaw10.RecPlays'. -/
def recPlaysCard : Claim7 := { stood := { row := recPlaysRow, standIns := [], harness := (true, "8052bba2b02073b695d27fdbde34e0cd051a859e8ced30be54dac1eb0f2450bd"), looks := true }, kinds := [], alts := [], laidByText := true, laidKinds := [.data], laidTests := true, laidLooks := .later }
def RecPlaysCardSaid : Prop := Claim7.holds Tryz.pinned (.plain (OpenSpec.ofChange recPlaysSpec)) recPlaysCard

/-- THE TIED CARD OF 'reliquarylaw10.RecSizes'. -/
def recSizesCard : Claim7 := { stood := { row := recSizesRow, standIns := [], harness := (true, "8052bba2b02073b695d27fdbde34e0cd051a859e8ced30be54dac1eb0f2450bd"), looks := true }, kinds := [], alts := [], laidByText := true, laidKinds := [.data], laidTests := true, laidLooks := .later }
def RecSizesCardSaid : Prop := Claim7.holds Tryz.pinned (.plain (OpenSpec.ofChange recSizesSpec)) recSizesCard

/-- THE SECOND FORM's CARD OF 'reliquarylaw10.RecPlays'. -/
def recPlaysUptoCard : Claim7 := { stood := { row := recPlaysUptoRow, standIns := [], harness := (true, "8052bba2b02073b695d27fdbde34e0cd051a859e8ced30be54dac1eb0f2450bd"), looks := true }, kinds := [], alts := [], laidByText := true, laidKinds := [.data], laidTests := true, laidLooks := .later }
def RecPlaysUptoCardSaid : Prop := Claim7.holds Tryz.pinned (.plain (OpenSpec.upto recPlaysSpec)) recPlaysUptoCard

/-- THE SECOND FORM's CARD OF 'reliquarylaw10.RecSizes'. -/
def recSizesUptoCard : Claim7 := { stood := { row := recSizesUptoRow, standIns := [], harness := (true, "8052bba2b02073b695d27fdbde34e0cd051a859e8ced30be54dac1eb0f2450bd"), looks := true }, kinds := [], alts := [], laidByText := true, laidKinds := [.data], laidTests := true, laidLooks := .later }
def RecSizesUptoCardSaid : Prop := Claim7.holds Tryz.pinned (.plain (OpenSpec.upto recSizesSpec)) recSizesUptoCard
end Rows
end Go.Proofs.YtdgobaknbjlahaaGreatDoor
