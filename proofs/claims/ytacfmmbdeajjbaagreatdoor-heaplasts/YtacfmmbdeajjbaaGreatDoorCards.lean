/-
  DERIVED. GIVEN WITH THE SEED: THE CARDS: each row of YtacfmmbdeajjbaaGreatDoorRows.lean that lists a variable, with what it lists TIED to the program's text (the seventh form; the later family's looks); each row that meets fmt, with fmt's text TOLD by the authors' own Lean function (tested against real Go, not proved from fmt's source: count such statements apart). THE CARD IS WHAT COUNTS. Prove the row's statement (the work); the ties are given (YtacfmmbdeajjbaaGreatDoorTie.lean); close each card by the builder's one call (the guide's Derived/Test/ToyasCard.lean, 'card_holds'). Laid BY PROGRAM, IN A SANDBOX (cutbox-door.mjs). By AI agents, Wed Nov 11 2026. No macro, syntax, notation, axiom, sorry.
-/
import Derived.Test.YtacfmmbdeajjbaaGreatDoorRows
import GoSem.ClaimSeven
namespace Go.Proofs.YtacfmmbdeajjbaaGreatDoor
namespace Rows

/-- THE TIED CARD OF 'reliquarylaw8.HeapLasts'. -/
def heapLastsCard : Claim7 := { stood := { row := heapLastsRow, standIns := [], harness := (true, "bc6eeee3fe16ebaa4789d149db7e9319d9c4c2b1eec32d82fa94ed4ecbd42865"), looks := true }, kinds := [], alts := [], laidByText := true, laidKinds := [.data], laidTests := true, laidLooks := .later }
def HeapLastsCardSaid : Prop := Claim7.holds Tryz.pinned (.plain (OpenSpec.ofChange heapLastsSpec)) heapLastsCard

/-- THE TIED CARD OF 'reliquarylaw10.RecPlays'. -/
def recPlaysCard : Claim7 := { stood := { row := recPlaysRow, standIns := [], harness := (true, "bc6eeee3fe16ebaa4789d149db7e9319d9c4c2b1eec32d82fa94ed4ecbd42865"), looks := true }, kinds := [], alts := [], laidByText := true, laidKinds := [.data], laidTests := true, laidLooks := .later }
def RecPlaysCardSaid : Prop := Claim7.holds Tryz.pinned (.plain (OpenSpec.ofChange recPlaysSpec)) recPlaysCard

/-- THE TIED CARD OF 'reliquarylaw10.RecSizes'. -/
def recSizesCard : Claim7 := { stood := { row := recSizesRow, standIns := [], harness := (true, "bc6eeee3fe16ebaa4789d149db7e9319d9c4c2b1eec32d82fa94ed4ecbd42865"), looks := true }, kinds := [], alts := [], laidByText := true, laidKinds := [.data], laidTests := true, laidLooks := .later }
def RecSizesCardSaid : Prop := Claim7.holds Tryz.pinned (.plain (OpenSpec.ofChange recSizesSpec)) recSizesCard

/-- THE SECOND FORM's CARD OF 'reliquarylaw8.HeapLasts'. -/
def heapLastsUptoCard : Claim7 := { stood := { row := heapLastsUptoRow, standIns := [], harness := (true, "bc6eeee3fe16ebaa4789d149db7e9319d9c4c2b1eec32d82fa94ed4ecbd42865"), looks := true }, kinds := [], alts := [], laidByText := true, laidKinds := [.data], laidTests := true, laidLooks := .later }
def HeapLastsUptoCardSaid : Prop := Claim7.holds Tryz.pinned (.plain (OpenSpec.upto heapLastsSpec)) heapLastsUptoCard

/-- THE SECOND FORM's CARD OF 'reliquarylaw10.RecPlays'. -/
def recPlaysUptoCard : Claim7 := { stood := { row := recPlaysUptoRow, standIns := [], harness := (true, "bc6eeee3fe16ebaa4789d149db7e9319d9c4c2b1eec32d82fa94ed4ecbd42865"), looks := true }, kinds := [], alts := [], laidByText := true, laidKinds := [.data], laidTests := true, laidLooks := .later }
def RecPlaysUptoCardSaid : Prop := Claim7.holds Tryz.pinned (.plain (OpenSpec.upto recPlaysSpec)) recPlaysUptoCard

/-- THE SECOND FORM's CARD OF 'reliquarylaw10.RecSizes'. -/
def recSizesUptoCard : Claim7 := { stood := { row := recSizesUptoRow, standIns := [], harness := (true, "bc6eeee3fe16ebaa4789d149db7e9319d9c4c2b1eec32d82fa94ed4ecbd42865"), looks := true }, kinds := [], alts := [], laidByText := true, laidKinds := [.data], laidTests := true, laidLooks := .later }
def RecSizesUptoCardSaid : Prop := Claim7.holds Tryz.pinned (.plain (OpenSpec.upto recSizesSpec)) recSizesUptoCard
end Rows
end Go.Proofs.YtacfmmbdeajjbaaGreatDoor
