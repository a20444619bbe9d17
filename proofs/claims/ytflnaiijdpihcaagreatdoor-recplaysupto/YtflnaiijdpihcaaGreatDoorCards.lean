/-
  DERIVED. GIVEN WITH THE SEED: THE CARDS: each row of YtflnaiijdpihcaaGreatDoorRows.lean that lists a variable, with what it lists TIED to the program's text (the seventh form; the later family's looks); each row that meets fmt, with fmt's text TOLD by the authors' own Lean function (tested against real Go, not proved from fmt's source: count such statements apart). THE CARD IS WHAT COUNTS. Prove the row's statement (the work); the ties are given (YtflnaiijdpihcaaGreatDoorTie.lean); close each card by the builder's one call (the guide's Derived/Test/ToyasCard.lean, 'card_holds'). Laid BY PROGRAM, IN A SANDBOX (cutbox-door.mjs). By AI agents, Wed Nov 11 2026. No macro, syntax, notation, axiom, sorry.
-/
import Derived.Test.YtflnaiijdpihcaaGreatDoorRows
import GoSem.ClaimSeven
namespace Go.Proofs.YtflnaiijdpihcaaGreatDoor
namespace Rows

/-- THE TIED CARD OF 'reliquarylaw10.RecPlays'. -/
def recPlaysCard : Claim7 := { stood := { row := recPlaysRow, standIns := [], harness := (true, "ce13b14632c5e9cbaeff7865ceddb4846dcce9d1cc1d4b59ca1faddd0b698c02"), looks := true }, kinds := [], alts := [], laidByText := true, laidKinds := [.data], laidTests := true, laidLooks := .later }
def RecPlaysCardSaid : Prop := Claim7.holds Tryz.pinned (.plain (OpenSpec.ofChange recPlaysSpec)) recPlaysCard

/-- THE TIED CARD OF 'reliquarylaw10.RecSizes'. -/
def recSizesCard : Claim7 := { stood := { row := recSizesRow, standIns := [], harness := (true, "ce13b14632c5e9cbaeff7865ceddb4846dcce9d1cc1d4b59ca1faddd0b698c02"), looks := true }, kinds := [], alts := [], laidByText := true, laidKinds := [.data], laidTests := true, laidLooks := .later }
def RecSizesCardSaid : Prop := Claim7.holds Tryz.pinned (.plain (OpenSpec.ofChange recSizesSpec)) recSizesCard

/-- THE TIED CARD OF 'reliquarylaw11.TreeMany'. -/
def treeManyCard : Claim7 := { stood := { row := treeManyRow, standIns := [], harness := (true, "ce13b14632c5e9cbaeff7865ceddb4846dcce9d1cc1d4b59ca1faddd0b698c02"), looks := true }, kinds := [], alts := [], laidByText := true, laidKinds := [.data], laidTests := true, laidLooks := .later }
def TreeManyCardSaid : Prop := Claim7.holds Tryz.pinned (.plain (OpenSpec.ofChange treeManySpec)) treeManyCard

/-- THE TIED CARD OF 'reliquarylaw11.TreeWalks'. -/
def treeWalksCard : Claim7 := { stood := { row := treeWalksRow, standIns := [], harness := (true, "ce13b14632c5e9cbaeff7865ceddb4846dcce9d1cc1d4b59ca1faddd0b698c02"), looks := true }, kinds := [], alts := [], laidByText := true, laidKinds := [.data], laidTests := true, laidLooks := .later }
def TreeWalksCardSaid : Prop := Claim7.holds Tryz.pinned (.plain (OpenSpec.ofChange treeWalksSpec)) treeWalksCard

/-- THE TIED CARD OF 'reliquarylaw11.TreePlays'. -/
def treePlaysCard : Claim7 := { stood := { row := treePlaysRow, standIns := [], harness := (true, "ce13b14632c5e9cbaeff7865ceddb4846dcce9d1cc1d4b59ca1faddd0b698c02"), looks := true }, kinds := [], alts := [], laidByText := true, laidKinds := [.data], laidTests := true, laidLooks := .later }
def TreePlaysCardSaid : Prop := Claim7.holds Tryz.pinned (.plain (OpenSpec.ofChange treePlaysSpec)) treePlaysCard

/-- THE TIED CARD OF 'reliquarylaw11.TreeRanges'. -/
def treeRangesCard : Claim7 := { stood := { row := treeRangesRow, standIns := [], harness := (true, "ce13b14632c5e9cbaeff7865ceddb4846dcce9d1cc1d4b59ca1faddd0b698c02"), looks := true }, kinds := [], alts := [], laidByText := true, laidKinds := [.data], laidTests := true, laidLooks := .later }
def TreeRangesCardSaid : Prop := Claim7.holds Tryz.pinned (.plain (OpenSpec.ofChange treeRangesSpec)) treeRangesCard

/-- THE SECOND FORM's CARD OF 'reliquarylaw10.RecPlays'. -/
def recPlaysUptoCard : Claim7 := { stood := { row := recPlaysUptoRow, standIns := [], harness := (true, "ce13b14632c5e9cbaeff7865ceddb4846dcce9d1cc1d4b59ca1faddd0b698c02"), looks := true }, kinds := [], alts := [], laidByText := true, laidKinds := [.data], laidTests := true, laidLooks := .later }
def RecPlaysUptoCardSaid : Prop := Claim7.holds Tryz.pinned (.plain (OpenSpec.upto recPlaysSpec)) recPlaysUptoCard

/-- THE SECOND FORM's CARD OF 'reliquarylaw10.RecSizes'. -/
def recSizesUptoCard : Claim7 := { stood := { row := recSizesUptoRow, standIns := [], harness := (true, "ce13b14632c5e9cbaeff7865ceddb4846dcce9d1cc1d4b59ca1faddd0b698c02"), looks := true }, kinds := [], alts := [], laidByText := true, laidKinds := [.data], laidTests := true, laidLooks := .later }
def RecSizesUptoCardSaid : Prop := Claim7.holds Tryz.pinned (.plain (OpenSpec.upto recSizesSpec)) recSizesUptoCard

/-- THE SECOND FORM's CARD OF 'reliquarylaw11.TreeMany'. -/
def treeManyUptoCard : Claim7 := { stood := { row := treeManyUptoRow, standIns := [], harness := (true, "ce13b14632c5e9cbaeff7865ceddb4846dcce9d1cc1d4b59ca1faddd0b698c02"), looks := true }, kinds := [], alts := [], laidByText := true, laidKinds := [.data], laidTests := true, laidLooks := .later }
def TreeManyUptoCardSaid : Prop := Claim7.holds Tryz.pinned (.plain (OpenSpec.upto treeManySpec)) treeManyUptoCard

/-- THE SECOND FORM's CARD OF 'reliquarylaw11.TreeWalks'. -/
def treeWalksUptoCard : Claim7 := { stood := { row := treeWalksUptoRow, standIns := [], harness := (true, "ce13b14632c5e9cbaeff7865ceddb4846dcce9d1cc1d4b59ca1faddd0b698c02"), looks := true }, kinds := [], alts := [], laidByText := true, laidKinds := [.data], laidTests := true, laidLooks := .later }
def TreeWalksUptoCardSaid : Prop := Claim7.holds Tryz.pinned (.plain (OpenSpec.upto treeWalksSpec)) treeWalksUptoCard

/-- THE SECOND FORM's CARD OF 'reliquarylaw11.TreePlays'. -/
def treePlaysUptoCard : Claim7 := { stood := { row := treePlaysUptoRow, standIns := [], harness := (true, "ce13b14632c5e9cbaeff7865ceddb4846dcce9d1cc1d4b59ca1faddd0b698c02"), looks := true }, kinds := [], alts := [], laidByText := true, laidKinds := [.data], laidTests := true, laidLooks := .later }
def TreePlaysUptoCardSaid : Prop := Claim7.holds Tryz.pinned (.plain (OpenSpec.upto treePlaysSpec)) treePlaysUptoCard

/-- THE SECOND FORM's CARD OF 'reliquarylaw11.TreeRanges'. -/
def treeRangesUptoCard : Claim7 := { stood := { row := treeRangesUptoRow, standIns := [], harness := (true, "ce13b14632c5e9cbaeff7865ceddb4846dcce9d1cc1d4b59ca1faddd0b698c02"), looks := true }, kinds := [], alts := [], laidByText := true, laidKinds := [.data], laidTests := true, laidLooks := .later }
def TreeRangesUptoCardSaid : Prop := Claim7.holds Tryz.pinned (.plain (OpenSpec.upto treeRangesSpec)) treeRangesUptoCard
end Rows
end Go.Proofs.YtflnaiijdpihcaaGreatDoor
