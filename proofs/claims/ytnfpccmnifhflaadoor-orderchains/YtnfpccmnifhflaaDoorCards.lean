/-
  DERIVED. GIVEN WITH THE SEED: THE CARDS: each row of YtnfpccmnifhflaaDoorRows.lean that lists a variable, with what it lists TIED to the program's text (the seventh form; the later family's looks); each row that meets fmt, with fmt's text TOLD by the authors' own Lean function (tested against real Go, not proved from fmt's source: count such statements apart). THE CARD IS WHAT COUNTS. Prove the row's statement (the work); the ties are given (YtnfpccmnifhflaaDoorTie.lean); close each card by the builder's one call (the guide's Derived/Test/ToyasCard.lean, 'card_holds'). Laid BY PROGRAM, IN A SANDBOX (cutbox-door.mjs). By AI agents, Wed Nov 11 2026. No macro, syntax, notation, axiom, sorry.
-/
import Derived.Test.YtnfpccmnifhflaaDoorRows
import GoSem.ClaimSeven
namespace Go.Proofs.YtnfpccmnifhflaaDoor
namespace Rows

/-- THE TIED CARD OF 'reliquarylaw13.OrderChains'. -/
def orderChainsCard : Claim7 := { stood := { row := orderChainsRow, standIns := [], harness := (true, "c17aed079ec54408e119b5da4eeb91514a36c7165c8677ac60a1e35682a4cff5"), looks := false }, kinds := [], alts := [], laidByText := true, laidKinds := [.data, .pinned], laidTests := true, laidLooks := .later }
def OrderChainsCardSaid : Prop := Claim7.holds Tryd.pinned (.plain (OpenSpec.ofChange orderChainsSpec)) orderChainsCard

/-- THE TIED CARD OF 'reliquarylaw13.OrderMixed'. -/
def orderMixedCard : Claim7 := { stood := { row := orderMixedRow, standIns := [], harness := (true, "c17aed079ec54408e119b5da4eeb91514a36c7165c8677ac60a1e35682a4cff5"), looks := false }, kinds := [], alts := [], laidByText := true, laidKinds := [.data, .pinned], laidTests := true, laidLooks := .later }
def OrderMixedCardSaid : Prop := Claim7.holds Tryd.pinned (.plain (OpenSpec.ofChange orderMixedSpec)) orderMixedCard

/-- THE TIED CARD OF 'reliquarylaw13.OrderNexts'. -/
def orderNextsCard : Claim7 := { stood := { row := orderNextsRow, standIns := [], harness := (true, "c17aed079ec54408e119b5da4eeb91514a36c7165c8677ac60a1e35682a4cff5"), looks := false }, kinds := [], alts := [], laidByText := true, laidKinds := [.data, .pinned], laidTests := true, laidLooks := .later }
def OrderNextsCardSaid : Prop := Claim7.holds Tryd.pinned (.plain (OpenSpec.ofChange orderNextsSpec)) orderNextsCard

/-- THE TIED CARD OF 'reliquarylaw13.OrderTexts'. -/
def orderTextsCard : Claim7 := { stood := { row := orderTextsRow, standIns := [], harness := (true, "c17aed079ec54408e119b5da4eeb91514a36c7165c8677ac60a1e35682a4cff5"), looks := false }, kinds := [], alts := [], laidByText := true, laidKinds := [.data, .pinned], laidTests := true, laidLooks := .later }
def OrderTextsCardSaid : Prop := Claim7.holds Tryd.pinned (.plain (OpenSpec.ofChange orderTextsSpec)) orderTextsCard

/-- THE TIED CARD OF 'reliquarylaw13.OrderScores'. -/
def orderScoresCard : Claim7 := { stood := { row := orderScoresRow, standIns := [], harness := (true, "c17aed079ec54408e119b5da4eeb91514a36c7165c8677ac60a1e35682a4cff5"), looks := false }, kinds := [], alts := [], laidByText := true, laidKinds := [.data, .pinned], laidTests := true, laidLooks := .later }
def OrderScoresCardSaid : Prop := Claim7.holds Tryd.pinned (.plain (OpenSpec.ofChange orderScoresSpec)) orderScoresCard

/-- THE TIED CARD OF 'reliquarylaw13.OrderKeys'. -/
def orderKeysCard : Claim7 := { stood := { row := orderKeysRow, standIns := [], harness := (true, "c17aed079ec54408e119b5da4eeb91514a36c7165c8677ac60a1e35682a4cff5"), looks := false }, kinds := [], alts := [], laidByText := true, laidKinds := [.data, .pinned], laidTests := true, laidLooks := .later }
def OrderKeysCardSaid : Prop := Claim7.holds Tryd.pinned (.plain (OpenSpec.ofChange orderKeysSpec)) orderKeysCard

/-- THE SECOND FORM's CARD OF 'reliquarylaw13.OrderChains'. -/
def orderChainsUptoCard : Claim7 := { stood := { row := orderChainsUptoRow, standIns := [], harness := (true, "c17aed079ec54408e119b5da4eeb91514a36c7165c8677ac60a1e35682a4cff5"), looks := false }, kinds := [], alts := [], laidByText := true, laidKinds := [.data, .pinned], laidTests := true, laidLooks := .later }
def OrderChainsUptoCardSaid : Prop := Claim7.holds Tryd.pinned (.plain (OpenSpec.upto orderChainsSpec)) orderChainsUptoCard

/-- THE SECOND FORM's CARD OF 'reliquarylaw13.OrderMixed'. -/
def orderMixedUptoCard : Claim7 := { stood := { row := orderMixedUptoRow, standIns := [], harness := (true, "c17aed079ec54408e119b5da4eeb91514a36c7165c8677ac60a1e35682a4cff5"), looks := false }, kinds := [], alts := [], laidByText := true, laidKinds := [.data, .pinned], laidTests := true, laidLooks := .later }
def OrderMixedUptoCardSaid : Prop := Claim7.holds Tryd.pinned (.plain (OpenSpec.upto orderMixedSpec)) orderMixedUptoCard

/-- THE SECOND FORM's CARD OF 'reliquarylaw13.OrderNexts'. -/
def orderNextsUptoCard : Claim7 := { stood := { row := orderNextsUptoRow, standIns := [], harness := (true, "c17aed079ec54408e119b5da4eeb91514a36c7165c8677ac60a1e35682a4cff5"), looks := false }, kinds := [], alts := [], laidByText := true, laidKinds := [.data, .pinned], laidTests := true, laidLooks := .later }
def OrderNextsUptoCardSaid : Prop := Claim7.holds Tryd.pinned (.plain (OpenSpec.upto orderNextsSpec)) orderNextsUptoCard

/-- THE SECOND FORM's CARD OF 'reliquarylaw13.OrderTexts'. -/
def orderTextsUptoCard : Claim7 := { stood := { row := orderTextsUptoRow, standIns := [], harness := (true, "c17aed079ec54408e119b5da4eeb91514a36c7165c8677ac60a1e35682a4cff5"), looks := false }, kinds := [], alts := [], laidByText := true, laidKinds := [.data, .pinned], laidTests := true, laidLooks := .later }
def OrderTextsUptoCardSaid : Prop := Claim7.holds Tryd.pinned (.plain (OpenSpec.upto orderTextsSpec)) orderTextsUptoCard

/-- THE SECOND FORM's CARD OF 'reliquarylaw13.OrderScores'. -/
def orderScoresUptoCard : Claim7 := { stood := { row := orderScoresUptoRow, standIns := [], harness := (true, "c17aed079ec54408e119b5da4eeb91514a36c7165c8677ac60a1e35682a4cff5"), looks := false }, kinds := [], alts := [], laidByText := true, laidKinds := [.data, .pinned], laidTests := true, laidLooks := .later }
def OrderScoresUptoCardSaid : Prop := Claim7.holds Tryd.pinned (.plain (OpenSpec.upto orderScoresSpec)) orderScoresUptoCard

/-- THE SECOND FORM's CARD OF 'reliquarylaw13.OrderKeys'. -/
def orderKeysUptoCard : Claim7 := { stood := { row := orderKeysUptoRow, standIns := [], harness := (true, "c17aed079ec54408e119b5da4eeb91514a36c7165c8677ac60a1e35682a4cff5"), looks := false }, kinds := [], alts := [], laidByText := true, laidKinds := [.data, .pinned], laidTests := true, laidLooks := .later }
def OrderKeysUptoCardSaid : Prop := Claim7.holds Tryd.pinned (.plain (OpenSpec.upto orderKeysSpec)) orderKeysUptoCard
end Rows
end Go.Proofs.YtnfpccmnifhflaaDoor
