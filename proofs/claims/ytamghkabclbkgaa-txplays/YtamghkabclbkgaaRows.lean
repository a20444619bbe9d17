/-
  No cell of these rows narrows 'for every input' (looked for: loops, veiled, ifaces, maps, wideKeys, modest, calm, conditions, laid).
  DERIVED. THE GIVEN ROWS OF THIS SEAT. 6 by the template 'for every input the law returns true; each argument reads behind the call as it read before'; 0 by the template 'total and deterministic' (their statements: YtamghkabclbkgaaTotals.lean).
  GIVEN WITH THE SEED: the statements are not yours to turn. If you find one false, say at which input.
  Laid BY PROGRAM, IN A SANDBOX (cutbox-rows.mjs): the forced cells as the released guide's own fill.sh prints them over the translation 4f727bc93ad09583… (all of the seat's roots in one cut). By AI agents, Wed Nov 11 2026. No macro, syntax, notation, axiom, sorry.
-/
import Derived.Test.YtamghkabclbkgaaChecked
import GoSem.Claim
import GoSem.ClaimJoined
import GoSem.ClaimMapViews
import Derived.JoinedTies
import Derived.KernelRfl
namespace Go.Proofs.Ytamghkabclbkgaa
/- THE CELL 'sum', in the pinned program and in every row, IS THE sha256 OF THE DUMP (.gsa) THAT YtamghkabclbkgaaProg.lean LOADS. Nothing in Lean hashes anything: it is a label: what it is worth is what the hold of that sum in a sandbox is worth. -/
noncomputable def Try.pinned : Pinned := { name := "ytamghkabclbkgaa", sum := "4f727bc93ad09583e410ac2ceaeda3051f150380a67312b7d044137555338ff1", checked := Try.checked }
namespace Rows
def none {H : Type} : Left H := { results := [], args := [] }

/-- 'reliquarylaw7.TxAborts': WHATEVER THE INPUT: true; the input reads as it did. -/
def txAbortsSpec : ChangeSpec := { name := "txAborts", fn := fun _ => fun
  | [d] => { results := [.lit (.bool true)], args := [d] }
  | _ => none }
def txAbortsRow : OpenClaim := { program := "ytamghkabclbkgaa", sum := "4f727bc93ad09583e410ac2ceaeda3051f150380a67312b7d044137555338ff1", func := "reliquary/reliquarylaw7.TxAborts", spec := "txAborts", unfollowed := true, recurses := true, apart := false }
def TxAbortsSaid : Prop := txAbortsRow.holds Try.pinned (OpenSpec.ofChange txAbortsSpec)

/-- ITS FALSE NEIGHBOUR: 'it returns false'. Refute it at one input. -/
def txAbortsWrong : ChangeSpec := { name := "txAborts", fn := fun _ => fun
  | [d] => { results := [.lit (.bool false)], args := [d] }
  | _ => none }
def TxAbortsWrongFalsely : Prop := txAbortsRow.holds Try.pinned (OpenSpec.ofChange txAbortsWrong)

/-- 'reliquarylaw7.TxRooms': WHATEVER THE INPUT: true; the input reads as it did. -/
def txRoomsSpec : ChangeSpec := { name := "txRooms", fn := fun _ => fun
  | [d] => { results := [.lit (.bool true)], args := [d] }
  | _ => none }
def txRoomsRow : OpenClaim := { program := "ytamghkabclbkgaa", sum := "4f727bc93ad09583e410ac2ceaeda3051f150380a67312b7d044137555338ff1", func := "reliquary/reliquarylaw7.TxRooms", spec := "txRooms", unfollowed := true, recurses := true, apart := false }
def TxRoomsSaid : Prop := txRoomsRow.holds Try.pinned (OpenSpec.ofChange txRoomsSpec)

/-- ITS FALSE NEIGHBOUR: 'it returns false'. Refute it at one input. -/
def txRoomsWrong : ChangeSpec := { name := "txRooms", fn := fun _ => fun
  | [d] => { results := [.lit (.bool false)], args := [d] }
  | _ => none }
def TxRoomsWrongFalsely : Prop := txRoomsRow.holds Try.pinned (OpenSpec.ofChange txRoomsWrong)

/-- 'reliquarylaw7.TxErrors': WHATEVER THE INPUT: true; the input reads as it did. -/
def txErrorsSpec : ChangeSpec := { name := "txErrors", fn := fun _ => fun
  | [d1, d2, d3] => { results := [.lit (.bool true)], args := [d1, d2, d3] }
  | _ => none }
def txErrorsRow : OpenClaim := { program := "ytamghkabclbkgaa", sum := "4f727bc93ad09583e410ac2ceaeda3051f150380a67312b7d044137555338ff1", func := "reliquary/reliquarylaw7.TxErrors", spec := "txErrors", unfollowed := true, recurses := true, apart := false }
def TxErrorsSaid : Prop := txErrorsRow.holds Try.pinned (OpenSpec.ofChange txErrorsSpec)

/-- ITS FALSE NEIGHBOUR: 'it returns false'. Refute it at one input. -/
def txErrorsWrong : ChangeSpec := { name := "txErrors", fn := fun _ => fun
  | [d1, d2, d3] => { results := [.lit (.bool false)], args := [d1, d2, d3] }
  | _ => none }
def TxErrorsWrongFalsely : Prop := txErrorsRow.holds Try.pinned (OpenSpec.ofChange txErrorsWrong)

/-- 'reliquarylaw7.TxPlays': WHATEVER THE INPUT: true; the input reads as it did. -/
def txPlaysSpec : ChangeSpec := { name := "txPlays", fn := fun _ => fun
  | [d] => { results := [.lit (.bool true)], args := [d] }
  | _ => none }
def txPlaysRow : OpenClaim := { program := "ytamghkabclbkgaa", sum := "4f727bc93ad09583e410ac2ceaeda3051f150380a67312b7d044137555338ff1", func := "reliquary/reliquarylaw7.TxPlays", spec := "txPlays", unfollowed := true, recurses := true, apart := false }
def TxPlaysSaid : Prop := txPlaysRow.holds Try.pinned (OpenSpec.ofChange txPlaysSpec)

/-- ITS FALSE NEIGHBOUR: 'it returns false'. Refute it at one input. -/
def txPlaysWrong : ChangeSpec := { name := "txPlays", fn := fun _ => fun
  | [d] => { results := [.lit (.bool false)], args := [d] }
  | _ => none }
def TxPlaysWrongFalsely : Prop := txPlaysRow.holds Try.pinned (OpenSpec.ofChange txPlaysWrong)

/-- 'reliquarylaw7.TxLasts': WHATEVER THE INPUT: true; the input reads as it did. -/
def txLastsSpec : ChangeSpec := { name := "txLasts", fn := fun _ => fun
  | [d1, d2, d3, d4, d5] => { results := [.lit (.bool true)], args := [d1, d2, d3, d4, d5] }
  | _ => none }
def txLastsRow : OpenClaim := { program := "ytamghkabclbkgaa", sum := "4f727bc93ad09583e410ac2ceaeda3051f150380a67312b7d044137555338ff1", func := "reliquary/reliquarylaw7.TxLasts", spec := "txLasts", unfollowed := true, recurses := true, apart := false }
def TxLastsSaid : Prop := txLastsRow.holds Try.pinned (OpenSpec.ofChange txLastsSpec)

/-- ITS FALSE NEIGHBOUR: 'it returns false'. Refute it at one input. -/
def txLastsWrong : ChangeSpec := { name := "txLasts", fn := fun _ => fun
  | [d1, d2, d3, d4, d5] => { results := [.lit (.bool false)], args := [d1, d2, d3, d4, d5] }
  | _ => none }
def TxLastsWrongFalsely : Prop := txLastsRow.holds Try.pinned (OpenSpec.ofChange txLastsWrong)

/-- 'reliquarylaw7.TxBounds': WHATEVER THE INPUT: true; the input reads as it did. -/
def txBoundsSpec : ChangeSpec := { name := "txBounds", fn := fun _ => fun
  | [d1, d2] => { results := [.lit (.bool true)], args := [d1, d2] }
  | _ => none }
def txBoundsRow : OpenClaim := { program := "ytamghkabclbkgaa", sum := "4f727bc93ad09583e410ac2ceaeda3051f150380a67312b7d044137555338ff1", func := "reliquary/reliquarylaw7.TxBounds", spec := "txBounds", unfollowed := true, recurses := true, apart := false }
def TxBoundsSaid : Prop := txBoundsRow.holds Try.pinned (OpenSpec.ofChange txBoundsSpec)

/-- ITS FALSE NEIGHBOUR: 'it returns false'. Refute it at one input. -/
def txBoundsWrong : ChangeSpec := { name := "txBounds", fn := fun _ => fun
  | [d1, d2] => { results := [.lit (.bool false)], args := [d1, d2] }
  | _ => none }
def TxBoundsWrongFalsely : Prop := txBoundsRow.holds Try.pinned (OpenSpec.ofChange txBoundsWrong)

/- THE SECOND FORM. 'bulk': how many values and letters a reading holds, each counted each time it is reached (what is shared counts as often as it is met; a slice's spare places count too). A statement '..UptoSaid' is the law's where the arguments, and the package variables that the reading takes, are together of bulk at most 1048576: NARROWER than '..Said'. Prove '..Said' where nothing that the law and all that it calls make is longer than what came in: it says more and counts as full. Else prove '..UptoSaid'. A law counts once. -/
mutual
def uptoBulk {H : Type} : DataW H → Nat
  | .lit (.string bytes) => bytes.length + 1
  | .lit _ => 1
  | .nil => 1
  | .ptr d => uptoBulk d + 1
  | .slice elems spare => uptoBulkAll elems + uptoBulkAll spare + 1
  | .agg parts => uptoBulkAll parts + 1
  | .iface _ d => uptoBulk d + 1
  | .map entries => uptoBulkEntries entries + 1
  | .held _ => 1
def uptoBulkAll {H : Type} : List (DataW H) → Nat
  | [] => 0
  | d :: r => uptoBulk d + uptoBulkAll r
def uptoBulkEntries {H : Type} : List (Lit × DataW H) → Nat
  | [] => 0
  | x :: r => uptoBulkEntry x + uptoBulkEntries r
def uptoBulkEntry {H : Type} : Lit × DataW H → Nat
  | (.string bytes, d) => bytes.length + uptoBulk d + 1
  | (_, d) => uptoBulk d + 1
 end
def uptoSmall : (H : Type) → List (DataW H) → Bool := fun _ ds => decide (uptoBulkAll ds ≤ 1048576)
def OpenSpec.upto (s : _root_.Go.ChangeSpec) : _root_.Go.OpenSpec := { _root_.Go.OpenSpec.ofChange s with cond := some uptoSmall }

/-- 'reliquarylaw7.TxAborts', WHERE WHAT IT READS IS OF BULK AT MOST 1048576: true; the input reads as it did. -/
def txAbortsUptoRow : OpenClaim := { program := "ytamghkabclbkgaa", sum := "4f727bc93ad09583e410ac2ceaeda3051f150380a67312b7d044137555338ff1", func := "reliquary/reliquarylaw7.TxAborts", spec := "txAborts", unfollowed := true, recurses := true, apart := false, narrowed := true }
def TxAbortsUptoSaid : Prop := txAbortsUptoRow.holds Try.pinned (OpenSpec.upto txAbortsSpec)

/-- 'reliquarylaw7.TxRooms', WHERE WHAT IT READS IS OF BULK AT MOST 1048576: true; the input reads as it did. -/
def txRoomsUptoRow : OpenClaim := { program := "ytamghkabclbkgaa", sum := "4f727bc93ad09583e410ac2ceaeda3051f150380a67312b7d044137555338ff1", func := "reliquary/reliquarylaw7.TxRooms", spec := "txRooms", unfollowed := true, recurses := true, apart := false, narrowed := true }
def TxRoomsUptoSaid : Prop := txRoomsUptoRow.holds Try.pinned (OpenSpec.upto txRoomsSpec)

/-- 'reliquarylaw7.TxErrors', WHERE WHAT IT READS IS OF BULK AT MOST 1048576: true; the input reads as it did. -/
def txErrorsUptoRow : OpenClaim := { program := "ytamghkabclbkgaa", sum := "4f727bc93ad09583e410ac2ceaeda3051f150380a67312b7d044137555338ff1", func := "reliquary/reliquarylaw7.TxErrors", spec := "txErrors", unfollowed := true, recurses := true, apart := false, narrowed := true }
def TxErrorsUptoSaid : Prop := txErrorsUptoRow.holds Try.pinned (OpenSpec.upto txErrorsSpec)

/-- 'reliquarylaw7.TxPlays', WHERE WHAT IT READS IS OF BULK AT MOST 1048576: true; the input reads as it did. -/
def txPlaysUptoRow : OpenClaim := { program := "ytamghkabclbkgaa", sum := "4f727bc93ad09583e410ac2ceaeda3051f150380a67312b7d044137555338ff1", func := "reliquary/reliquarylaw7.TxPlays", spec := "txPlays", unfollowed := true, recurses := true, apart := false, narrowed := true }
def TxPlaysUptoSaid : Prop := txPlaysUptoRow.holds Try.pinned (OpenSpec.upto txPlaysSpec)

/-- 'reliquarylaw7.TxLasts', WHERE WHAT IT READS IS OF BULK AT MOST 1048576: true; the input reads as it did. -/
def txLastsUptoRow : OpenClaim := { program := "ytamghkabclbkgaa", sum := "4f727bc93ad09583e410ac2ceaeda3051f150380a67312b7d044137555338ff1", func := "reliquary/reliquarylaw7.TxLasts", spec := "txLasts", unfollowed := true, recurses := true, apart := false, narrowed := true }
def TxLastsUptoSaid : Prop := txLastsUptoRow.holds Try.pinned (OpenSpec.upto txLastsSpec)

/-- 'reliquarylaw7.TxBounds', WHERE WHAT IT READS IS OF BULK AT MOST 1048576: true; the input reads as it did. -/
def txBoundsUptoRow : OpenClaim := { program := "ytamghkabclbkgaa", sum := "4f727bc93ad09583e410ac2ceaeda3051f150380a67312b7d044137555338ff1", func := "reliquary/reliquarylaw7.TxBounds", spec := "txBounds", unfollowed := true, recurses := true, apart := false, narrowed := true }
def TxBoundsUptoSaid : Prop := txBoundsUptoRow.holds Try.pinned (OpenSpec.upto txBoundsSpec)

end Rows
end Go.Proofs.Ytamghkabclbkgaa
