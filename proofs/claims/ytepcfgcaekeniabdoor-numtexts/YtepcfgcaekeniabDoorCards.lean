/-
  DERIVED. GIVEN WITH THE SEED: THE CARDS: each row of YtepcfgcaekeniabDoorRows.lean that lists a variable, with what it lists TIED to the program's text (the seventh form; the later family's looks); each row that meets fmt, with fmt's text TOLD by the authors' own Lean function (tested against real Go, not proved from fmt's source: count such statements apart). THE CARD IS WHAT COUNTS. Prove the row's statement (the work); the ties are given (YtepcfgcaekeniabDoorTie.lean); close each card by the builder's one call (the guide's Derived/Test/ToyasCard.lean, 'card_holds'). Laid BY PROGRAM, IN A SANDBOX (cutbox-door.mjs). By AI agents, Wed Nov 11 2026. No macro, syntax, notation, axiom, sorry.
-/
import Derived.Test.YtepcfgcaekeniabDoorRows
import GoSem.ClaimSeven
namespace Go.Proofs.YtepcfgcaekeniabDoor
namespace Rows

/-- THE TIED CARD OF 'reliquarylaw3.NumAdds'. -/
def numAddsCard : Claim7 := { stood := { row := numAddsRow, standIns := [], harness := (true, "196690619646c1cccb7f955972eaf85ff73313a1296216292be898da145a2852"), looks := true }, kinds := [], alts := [], laidByText := true, laidKinds := [.data, .data, .data], laidTests := true, laidLooks := .later }
def NumAddsCardSaid : Prop := Claim7.holds Tryd.pinned (.plain (OpenSpec.ofChange numAddsSpec)) numAddsCard

/-- THE TIED CARD OF 'reliquarylaw3.NumTexts'. -/
def numTextsCard : Claim7 := { stood := { row := numTextsRow, standIns := [], harness := (true, "196690619646c1cccb7f955972eaf85ff73313a1296216292be898da145a2852"), looks := true }, kinds := [], alts := [], laidByText := true, laidKinds := [.data, .data, .data, .sentinel, .sentinel], laidTests := true, laidLooks := .later }
def NumTextsCardSaid : Prop := Claim7.holds Tryd.pinned (.plain (OpenSpec.ofChange numTextsSpec)) numTextsCard

/-- THE TIED CARD OF 'reliquarylaw3.NumWholes'. -/
def numWholesCard : Claim7 := { stood := { row := numWholesRow, standIns := [], harness := (true, "196690619646c1cccb7f955972eaf85ff73313a1296216292be898da145a2852"), looks := true }, kinds := [], alts := [], laidByText := true, laidKinds := [.data, .data, .data, .sentinel, .sentinel], laidTests := true, laidLooks := .later }
def NumWholesCardSaid : Prop := Claim7.holds Tryd.pinned (.plain (OpenSpec.ofChange numWholesSpec)) numWholesCard

/-- THE TIED CARD OF 'reliquarylaw3.NumChains'. -/
def numChainsCard : Claim7 := { stood := { row := numChainsRow, standIns := [], harness := (true, "196690619646c1cccb7f955972eaf85ff73313a1296216292be898da145a2852"), looks := true }, kinds := [], alts := [], laidByText := true, laidKinds := [.data, .data, .data], laidTests := true, laidLooks := .later }
def NumChainsCardSaid : Prop := Claim7.holds Tryd.pinned (.plain (OpenSpec.ofChange numChainsSpec)) numChainsCard

/-- THE SECOND FORM's CARD OF 'reliquarylaw3.NumAdds'. -/
def numAddsUptoCard : Claim7 := { stood := { row := numAddsUptoRow, standIns := [], harness := (true, "196690619646c1cccb7f955972eaf85ff73313a1296216292be898da145a2852"), looks := true }, kinds := [], alts := [], laidByText := true, laidKinds := [.data, .data, .data], laidTests := true, laidLooks := .later }
def NumAddsUptoCardSaid : Prop := Claim7.holds Tryd.pinned (.plain (OpenSpec.upto numAddsSpec)) numAddsUptoCard

/-- THE SECOND FORM's CARD OF 'reliquarylaw3.NumTexts'. -/
def numTextsUptoCard : Claim7 := { stood := { row := numTextsUptoRow, standIns := [], harness := (true, "196690619646c1cccb7f955972eaf85ff73313a1296216292be898da145a2852"), looks := true }, kinds := [], alts := [], laidByText := true, laidKinds := [.data, .data, .data, .sentinel, .sentinel], laidTests := true, laidLooks := .later }
def NumTextsUptoCardSaid : Prop := Claim7.holds Tryd.pinned (.plain (OpenSpec.upto numTextsSpec)) numTextsUptoCard

/-- THE SECOND FORM's CARD OF 'reliquarylaw3.NumWholes'. -/
def numWholesUptoCard : Claim7 := { stood := { row := numWholesUptoRow, standIns := [], harness := (true, "196690619646c1cccb7f955972eaf85ff73313a1296216292be898da145a2852"), looks := true }, kinds := [], alts := [], laidByText := true, laidKinds := [.data, .data, .data, .sentinel, .sentinel], laidTests := true, laidLooks := .later }
def NumWholesUptoCardSaid : Prop := Claim7.holds Tryd.pinned (.plain (OpenSpec.upto numWholesSpec)) numWholesUptoCard

/-- THE SECOND FORM's CARD OF 'reliquarylaw3.NumChains'. -/
def numChainsUptoCard : Claim7 := { stood := { row := numChainsUptoRow, standIns := [], harness := (true, "196690619646c1cccb7f955972eaf85ff73313a1296216292be898da145a2852"), looks := true }, kinds := [], alts := [], laidByText := true, laidKinds := [.data, .data, .data], laidTests := true, laidLooks := .later }
def NumChainsUptoCardSaid : Prop := Claim7.holds Tryd.pinned (.plain (OpenSpec.upto numChainsSpec)) numChainsUptoCard
end Rows
end Go.Proofs.YtepcfgcaekeniabDoor
