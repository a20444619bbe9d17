/-
  DERIVED. GIVEN WITH THE SEED: THE CARDS: each row of YtgehfmonfofbiaaGreatDoorRows.lean that lists a variable, with what it lists TIED to the program's text (the seventh form; the later family's looks); each row that meets fmt, with fmt's text TOLD by the authors' own Lean function (tested against real Go, not proved from fmt's source: count such statements apart). THE CARD IS WHAT COUNTS. Prove the row's statement (the work); the ties are given (YtgehfmonfofbiaaGreatDoorTie.lean); close each card by the builder's one call (the guide's Derived/Test/ToyasCard.lean, 'card_holds'). Laid BY PROGRAM, IN A SANDBOX (cutbox-door.mjs). By AI agents, Wed Nov 11 2026. No macro, syntax, notation, axiom, sorry.
-/
import Derived.Test.YtgehfmonfofbiaaGreatDoorRows
import GoSem.ClaimSeven
namespace Go.Proofs.YtgehfmonfofbiaaGreatDoor
namespace Rows

/-- THE TIED CARD OF 'reliquarylaw8.HeapNoughts'. -/
def heapNoughtsCard : Claim7 := { stood := { row := heapNoughtsRow, standIns := [], harness := (true, "87ec8ffc5dae7de50606a5f8259b0dc403ee5daefcd831e3c2f80064b76f5f50"), looks := true }, kinds := [], alts := [], laidByText := true, laidKinds := [.data], laidTests := true, laidLooks := .later }
def HeapNoughtsCardSaid : Prop := Claim7.holds Tryz.pinned (.plain (OpenSpec.ofChange heapNoughtsSpec)) heapNoughtsCard

/-- THE TIED CARD OF 'reliquarylaw8.HeapRoots'. -/
def heapRootsCard : Claim7 := { stood := { row := heapRootsRow, standIns := [], harness := (true, "87ec8ffc5dae7de50606a5f8259b0dc403ee5daefcd831e3c2f80064b76f5f50"), looks := true }, kinds := [], alts := [], laidByText := true, laidKinds := [.data], laidTests := true, laidLooks := .later }
def HeapRootsCardSaid : Prop := Claim7.holds Tryz.pinned (.plain (OpenSpec.ofChange heapRootsSpec)) heapRootsCard

/-- THE TIED CARD OF 'reliquarylaw8.HeapWrong'. -/
def heapWrongCard : Claim7 := { stood := { row := heapWrongRow, standIns := [], harness := (true, "87ec8ffc5dae7de50606a5f8259b0dc403ee5daefcd831e3c2f80064b76f5f50"), looks := true }, kinds := [], alts := [], laidByText := true, laidKinds := [.data], laidTests := true, laidLooks := .later }
def HeapWrongCardSaid : Prop := Claim7.holds Tryz.pinned (.plain (OpenSpec.ofChange heapWrongSpec)) heapWrongCard

/-- THE TIED CARD OF 'reliquarylaw8.HeapPlays'. -/
def heapPlaysCard : Claim7 := { stood := { row := heapPlaysRow, standIns := [], harness := (true, "87ec8ffc5dae7de50606a5f8259b0dc403ee5daefcd831e3c2f80064b76f5f50"), looks := true }, kinds := [], alts := [], laidByText := true, laidKinds := [.data], laidTests := true, laidLooks := .later }
def HeapPlaysCardSaid : Prop := Claim7.holds Tryz.pinned (.plain (OpenSpec.ofChange heapPlaysSpec)) heapPlaysCard

/-- THE TIED CARD OF 'reliquarylaw8.HeapFull'. -/
def heapFullCard : Claim7 := { stood := { row := heapFullRow, standIns := [], harness := (true, "87ec8ffc5dae7de50606a5f8259b0dc403ee5daefcd831e3c2f80064b76f5f50"), looks := true }, kinds := [], alts := [], laidByText := true, laidKinds := [.data], laidTests := true, laidLooks := .later }
def HeapFullCardSaid : Prop := Claim7.holds Tryz.pinned (.plain (OpenSpec.ofChange heapFullSpec)) heapFullCard

/-- THE TIED CARD OF 'reliquarylaw8.HeapSweeps'. -/
def heapSweepsCard : Claim7 := { stood := { row := heapSweepsRow, standIns := [], harness := (true, "87ec8ffc5dae7de50606a5f8259b0dc403ee5daefcd831e3c2f80064b76f5f50"), looks := true }, kinds := [], alts := [], laidByText := true, laidKinds := [.data], laidTests := true, laidLooks := .later }
def HeapSweepsCardSaid : Prop := Claim7.holds Tryz.pinned (.plain (OpenSpec.ofChange heapSweepsSpec)) heapSweepsCard

/-- THE SECOND FORM's CARD OF 'reliquarylaw8.HeapNoughts'. -/
def heapNoughtsUptoCard : Claim7 := { stood := { row := heapNoughtsUptoRow, standIns := [], harness := (true, "87ec8ffc5dae7de50606a5f8259b0dc403ee5daefcd831e3c2f80064b76f5f50"), looks := true }, kinds := [], alts := [], laidByText := true, laidKinds := [.data], laidTests := true, laidLooks := .later }
def HeapNoughtsUptoCardSaid : Prop := Claim7.holds Tryz.pinned (.plain (OpenSpec.upto heapNoughtsSpec)) heapNoughtsUptoCard

/-- THE SECOND FORM's CARD OF 'reliquarylaw8.HeapRoots'. -/
def heapRootsUptoCard : Claim7 := { stood := { row := heapRootsUptoRow, standIns := [], harness := (true, "87ec8ffc5dae7de50606a5f8259b0dc403ee5daefcd831e3c2f80064b76f5f50"), looks := true }, kinds := [], alts := [], laidByText := true, laidKinds := [.data], laidTests := true, laidLooks := .later }
def HeapRootsUptoCardSaid : Prop := Claim7.holds Tryz.pinned (.plain (OpenSpec.upto heapRootsSpec)) heapRootsUptoCard

/-- THE SECOND FORM's CARD OF 'reliquarylaw8.HeapWrong'. -/
def heapWrongUptoCard : Claim7 := { stood := { row := heapWrongUptoRow, standIns := [], harness := (true, "87ec8ffc5dae7de50606a5f8259b0dc403ee5daefcd831e3c2f80064b76f5f50"), looks := true }, kinds := [], alts := [], laidByText := true, laidKinds := [.data], laidTests := true, laidLooks := .later }
def HeapWrongUptoCardSaid : Prop := Claim7.holds Tryz.pinned (.plain (OpenSpec.upto heapWrongSpec)) heapWrongUptoCard

/-- THE SECOND FORM's CARD OF 'reliquarylaw8.HeapPlays'. -/
def heapPlaysUptoCard : Claim7 := { stood := { row := heapPlaysUptoRow, standIns := [], harness := (true, "87ec8ffc5dae7de50606a5f8259b0dc403ee5daefcd831e3c2f80064b76f5f50"), looks := true }, kinds := [], alts := [], laidByText := true, laidKinds := [.data], laidTests := true, laidLooks := .later }
def HeapPlaysUptoCardSaid : Prop := Claim7.holds Tryz.pinned (.plain (OpenSpec.upto heapPlaysSpec)) heapPlaysUptoCard

/-- THE SECOND FORM's CARD OF 'reliquarylaw8.HeapFull'. -/
def heapFullUptoCard : Claim7 := { stood := { row := heapFullUptoRow, standIns := [], harness := (true, "87ec8ffc5dae7de50606a5f8259b0dc403ee5daefcd831e3c2f80064b76f5f50"), looks := true }, kinds := [], alts := [], laidByText := true, laidKinds := [.data], laidTests := true, laidLooks := .later }
def HeapFullUptoCardSaid : Prop := Claim7.holds Tryz.pinned (.plain (OpenSpec.upto heapFullSpec)) heapFullUptoCard

/-- THE SECOND FORM's CARD OF 'reliquarylaw8.HeapSweeps'. -/
def heapSweepsUptoCard : Claim7 := { stood := { row := heapSweepsUptoRow, standIns := [], harness := (true, "87ec8ffc5dae7de50606a5f8259b0dc403ee5daefcd831e3c2f80064b76f5f50"), looks := true }, kinds := [], alts := [], laidByText := true, laidKinds := [.data], laidTests := true, laidLooks := .later }
def HeapSweepsUptoCardSaid : Prop := Claim7.holds Tryz.pinned (.plain (OpenSpec.upto heapSweepsSpec)) heapSweepsUptoCard
end Rows
end Go.Proofs.YtgehfmonfofbiaaGreatDoor
