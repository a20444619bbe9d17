/-
  No cell of these rows narrows 'for every input' (looked for: loops, veiled, ifaces, maps, wideKeys, modest, calm, conditions, laid).
  DERIVED. THE GIVEN ROWS OF THIS SEAT. 6 by the template 'for every input the law returns true; each argument reads behind the call as it read before'; 0 by the template 'total and deterministic' (their statements: YtebfocfofoajkaaTotals.lean).
  GIVEN WITH THE SEED: the statements are not yours to turn. If you find one false, say at which input.
  Laid BY PROGRAM, IN A SANDBOX (cutbox-rows.mjs): the forced cells as the released guide's own fill.sh prints them over the translation 76d412816e6b74e7… (all of the seat's roots in one cut). By AI agents, Wed Nov 11 2026. No macro, syntax, notation, axiom, sorry.
-/
import Derived.Test.YtebfocfofoajkaaChecked
import GoSem.Claim
import GoSem.ClaimJoined
import GoSem.ClaimMapViews
import Derived.JoinedTies
import Derived.KernelRfl
namespace Go.Proofs.Ytebfocfofoajkaa
/- THE CELL 'sum', in the pinned program and in every row, IS THE sha256 OF THE DUMP (.gsa) THAT YtebfocfofoajkaaProg.lean LOADS. Nothing in Lean hashes anything: it is a label: what it is worth is what the hold of that sum in a sandbox is worth. -/
noncomputable def Try.pinned : Pinned := { name := "ytebfocfofoajkaa", sum := "76d412816e6b74e70fc449844a0bac176523381e5ca76c877dd2114ad6547d9c", checked := Try.checked }
namespace Rows
def none {H : Type} : Left H := { results := [], args := [] }

/-- 'reliquarylaw2.GuardSame': WHATEVER THE INPUT: true; the input reads as it did. -/
def guardSameSpec : ChangeSpec := { name := "guardSame", fn := fun _ => fun
  | [d1, d2] => { results := [.lit (.bool true)], args := [d1, d2] }
  | _ => none }
def guardSameRow : OpenClaim := { program := "ytebfocfofoajkaa", sum := "76d412816e6b74e70fc449844a0bac176523381e5ca76c877dd2114ad6547d9c", func := "reliquary/reliquarylaw2.GuardSame", spec := "guardSame", unfollowed := true, recurses := true, apart := false }
def GuardSameSaid : Prop := guardSameRow.holds Try.pinned (OpenSpec.ofChange guardSameSpec)

/-- ITS FALSE NEIGHBOUR: 'it returns false'. Refute it at one input. -/
def guardSameWrong : ChangeSpec := { name := "guardSame", fn := fun _ => fun
  | [d1, d2] => { results := [.lit (.bool false)], args := [d1, d2] }
  | _ => none }
def GuardSameWrongFalsely : Prop := guardSameRow.holds Try.pinned (OpenSpec.ofChange guardSameWrong)

/-- 'reliquarylaw2.GuardFirst': WHATEVER THE INPUT: true; the input reads as it did. -/
def guardFirstSpec : ChangeSpec := { name := "guardFirst", fn := fun _ => fun
  | [d1, d2, d3] => { results := [.lit (.bool true)], args := [d1, d2, d3] }
  | _ => none }
def guardFirstRow : OpenClaim := { program := "ytebfocfofoajkaa", sum := "76d412816e6b74e70fc449844a0bac176523381e5ca76c877dd2114ad6547d9c", func := "reliquary/reliquarylaw2.GuardFirst", spec := "guardFirst", unfollowed := true, recurses := true, apart := false }
def GuardFirstSaid : Prop := guardFirstRow.holds Try.pinned (OpenSpec.ofChange guardFirstSpec)

/-- ITS FALSE NEIGHBOUR: 'it returns false'. Refute it at one input. -/
def guardFirstWrong : ChangeSpec := { name := "guardFirst", fn := fun _ => fun
  | [d1, d2, d3] => { results := [.lit (.bool false)], args := [d1, d2, d3] }
  | _ => none }
def GuardFirstWrongFalsely : Prop := guardFirstRow.holds Try.pinned (OpenSpec.ofChange guardFirstWrong)

/-- 'reliquarylaw2.GuardTries': WHATEVER THE INPUT: true; the input reads as it did. -/
def guardTriesSpec : ChangeSpec := { name := "guardTries", fn := fun _ => fun
  | [d] => { results := [.lit (.bool true)], args := [d] }
  | _ => none }
def guardTriesRow : OpenClaim := { program := "ytebfocfofoajkaa", sum := "76d412816e6b74e70fc449844a0bac176523381e5ca76c877dd2114ad6547d9c", func := "reliquary/reliquarylaw2.GuardTries", spec := "guardTries", unfollowed := true, recurses := true, apart := false }
def GuardTriesSaid : Prop := guardTriesRow.holds Try.pinned (OpenSpec.ofChange guardTriesSpec)

/-- ITS FALSE NEIGHBOUR: 'it returns false'. Refute it at one input. -/
def guardTriesWrong : ChangeSpec := { name := "guardTries", fn := fun _ => fun
  | [d] => { results := [.lit (.bool false)], args := [d] }
  | _ => none }
def GuardTriesWrongFalsely : Prop := guardTriesRow.holds Try.pinned (OpenSpec.ofChange guardTriesWrong)

/-- 'reliquarylaw2.GuardOnly': WHATEVER THE INPUT: true; the input reads as it did. -/
def guardOnlySpec : ChangeSpec := { name := "guardOnly", fn := fun _ => fun
  | [d] => { results := [.lit (.bool true)], args := [d] }
  | _ => none }
def guardOnlyRow : OpenClaim := { program := "ytebfocfofoajkaa", sum := "76d412816e6b74e70fc449844a0bac176523381e5ca76c877dd2114ad6547d9c", func := "reliquary/reliquarylaw2.GuardOnly", spec := "guardOnly", unfollowed := true, recurses := true, apart := false }
def GuardOnlySaid : Prop := guardOnlyRow.holds Try.pinned (OpenSpec.ofChange guardOnlySpec)

/-- ITS FALSE NEIGHBOUR: 'it returns false'. Refute it at one input. -/
def guardOnlyWrong : ChangeSpec := { name := "guardOnly", fn := fun _ => fun
  | [d] => { results := [.lit (.bool false)], args := [d] }
  | _ => none }
def GuardOnlyWrongFalsely : Prop := guardOnlyRow.holds Try.pinned (OpenSpec.ofChange guardOnlyWrong)

/-- 'reliquarylaw2.GuardErrnos': WHATEVER THE INPUT: true; the input reads as it did. -/
def guardErrnosSpec : ChangeSpec := { name := "guardErrnos", fn := fun _ => fun
  | [d] => { results := [.lit (.bool true)], args := [d] }
  | _ => none }
def guardErrnosRow : OpenClaim := { program := "ytebfocfofoajkaa", sum := "76d412816e6b74e70fc449844a0bac176523381e5ca76c877dd2114ad6547d9c", func := "reliquary/reliquarylaw2.GuardErrnos", spec := "guardErrnos", unfollowed := true, recurses := true, apart := false }
def GuardErrnosSaid : Prop := guardErrnosRow.holds Try.pinned (OpenSpec.ofChange guardErrnosSpec)

/-- ITS FALSE NEIGHBOUR: 'it returns false'. Refute it at one input. -/
def guardErrnosWrong : ChangeSpec := { name := "guardErrnos", fn := fun _ => fun
  | [d] => { results := [.lit (.bool false)], args := [d] }
  | _ => none }
def GuardErrnosWrongFalsely : Prop := guardErrnosRow.holds Try.pinned (OpenSpec.ofChange guardErrnosWrong)

/-- 'reliquarylaw2.GuardLasts': WHATEVER THE INPUT: true; the input reads as it did. -/
def guardLastsSpec : ChangeSpec := { name := "guardLasts", fn := fun _ => fun
  | [d1, d2] => { results := [.lit (.bool true)], args := [d1, d2] }
  | _ => none }
def guardLastsRow : OpenClaim := { program := "ytebfocfofoajkaa", sum := "76d412816e6b74e70fc449844a0bac176523381e5ca76c877dd2114ad6547d9c", func := "reliquary/reliquarylaw2.GuardLasts", spec := "guardLasts", unfollowed := true, recurses := true, apart := false }
def GuardLastsSaid : Prop := guardLastsRow.holds Try.pinned (OpenSpec.ofChange guardLastsSpec)

/-- ITS FALSE NEIGHBOUR: 'it returns false'. Refute it at one input. -/
def guardLastsWrong : ChangeSpec := { name := "guardLasts", fn := fun _ => fun
  | [d1, d2] => { results := [.lit (.bool false)], args := [d1, d2] }
  | _ => none }
def GuardLastsWrongFalsely : Prop := guardLastsRow.holds Try.pinned (OpenSpec.ofChange guardLastsWrong)

/- THE SECOND FORM. 'bulk': how many values and letters a reading holds, each counted each time it is reached (what is shared counts as often as it is met; a slice's spare places count too). A statement '..UptoSaid' is the law's where the arguments, and the package variables that the reading takes, are together of bulk at most 1048576: NARROWER than '..Said'. Prove '..Said' where nothing that the law and all that it calls make is longer than what came in: it says more and counts as full. Else prove '..UptoSaid'. A law counts once. -/
mutual
def uptoBulk {H : Type} : DataW H → Nat
  | .lit (.string bytes) => bytes.length + 1
  | .lit _ => 1
  | .nil => 1
  | .ptr d => uptoBulk d + 1
  | .slice elems spare => uptoBulkAll elems + uptoBulkAll spare + 1
  | .agg parts => uptoBulkAll parts + 1
  | .iface _ d => uptoBulk d + 1
  | .map entries => uptoBulkEntries entries + 1
  | .held _ => 1
def uptoBulkAll {H : Type} : List (DataW H) → Nat
  | [] => 0
  | d :: r => uptoBulk d + uptoBulkAll r
def uptoBulkEntries {H : Type} : List (Lit × DataW H) → Nat
  | [] => 0
  | x :: r => uptoBulkEntry x + uptoBulkEntries r
def uptoBulkEntry {H : Type} : Lit × DataW H → Nat
  | (.string bytes, d) => bytes.length + uptoBulk d + 1
  | (_, d) => uptoBulk d + 1
 end
def uptoSmall : (H : Type) → List (DataW H) → Bool := fun _ ds => decide (uptoBulkAll ds ≤ 1048576)
def OpenSpec.upto (s : _root_.Go.ChangeSpec) : _root_.Go.OpenSpec := { _root_.Go.OpenSpec.ofChange s with cond := some uptoSmall }

/-- 'reliquarylaw2.GuardSame', WHERE WHAT IT READS IS OF BULK AT MOST 1048576: true; the input reads as it did. -/
def guardSameUptoRow : OpenClaim := { program := "ytebfocfofoajkaa", sum := "76d412816e6b74e70fc449844a0bac176523381e5ca76c877dd2114ad6547d9c", func := "reliquary/reliquarylaw2.GuardSame", spec := "guardSame", unfollowed := true, recurses := true, apart := false, narrowed := true }
def GuardSameUptoSaid : Prop := guardSameUptoRow.holds Try.pinned (OpenSpec.upto guardSameSpec)

/-- 'reliquarylaw2.GuardFirst', WHERE WHAT IT READS IS OF BULK AT MOST 1048576: true; the input reads as it did. -/
def guardFirstUptoRow : OpenClaim := { program := "ytebfocfofoajkaa", sum := "76d412816e6b74e70fc449844a0bac176523381e5ca76c877dd2114ad6547d9c", func := "reliquary/reliquarylaw2.GuardFirst", spec := "guardFirst", unfollowed := true, recurses := true, apart := false, narrowed := true }
def GuardFirstUptoSaid : Prop := guardFirstUptoRow.holds Try.pinned (OpenSpec.upto guardFirstSpec)

/-- 'reliquarylaw2.GuardTries', WHERE WHAT IT READS IS OF BULK AT MOST 1048576: true; the input reads as it did. -/
def guardTriesUptoRow : OpenClaim := { program := "ytebfocfofoajkaa", sum := "76d412816e6b74e70fc449844a0bac176523381e5ca76c877dd2114ad6547d9c", func := "reliquary/reliquarylaw2.GuardTries", spec := "guardTries", unfollowed := true, recurses := true, apart := false, narrowed := true }
def GuardTriesUptoSaid : Prop := guardTriesUptoRow.holds Try.pinned (OpenSpec.upto guardTriesSpec)

/-- 'reliquarylaw2.GuardOnly', WHERE WHAT IT READS IS OF BULK AT MOST 1048576: true; the input reads as it did. -/
def guardOnlyUptoRow : OpenClaim := { program := "ytebfocfofoajkaa", sum := "76d412816e6b74e70fc449844a0bac176523381e5ca76c877dd2114ad6547d9c", func := "reliquary/reliquarylaw2.GuardOnly", spec := "guardOnly", unfollowed := true, recurses := true, apart := false, narrowed := true }
def GuardOnlyUptoSaid : Prop := guardOnlyUptoRow.holds Try.pinned (OpenSpec.upto guardOnlySpec)

/-- 'reliquarylaw2.GuardErrnos', WHERE WHAT IT READS IS OF BULK AT MOST 1048576: true; the input reads as it did. -/
def guardErrnosUptoRow : OpenClaim := { program := "ytebfocfofoajkaa", sum := "76d412816e6b74e70fc449844a0bac176523381e5ca76c877dd2114ad6547d9c", func := "reliquary/reliquarylaw2.GuardErrnos", spec := "guardErrnos", unfollowed := true, recurses := true, apart := false, narrowed := true }
def GuardErrnosUptoSaid : Prop := guardErrnosUptoRow.holds Try.pinned (OpenSpec.upto guardErrnosSpec)

/-- 'reliquarylaw2.GuardLasts', WHERE WHAT IT READS IS OF BULK AT MOST 1048576: true; the input reads as it did. -/
def guardLastsUptoRow : OpenClaim := { program := "ytebfocfofoajkaa", sum := "76d412816e6b74e70fc449844a0bac176523381e5ca76c877dd2114ad6547d9c", func := "reliquary/reliquarylaw2.GuardLasts", spec := "guardLasts", unfollowed := true, recurses := true, apart := false, narrowed := true }
def GuardLastsUptoSaid : Prop := guardLastsUptoRow.holds Try.pinned (OpenSpec.upto guardLastsSpec)

end Rows
end Go.Proofs.Ytebfocfofoajkaa
