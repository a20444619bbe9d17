/- CalcEdges walked: all eight. -/
import Derived.Test.YtggjcfmoebghjabEdgesA
import Derived.Test.YtggjcfmoebghjabEdgesB
import Derived.Test.YtggjcfmoebghjabEdgesC
namespace Go.Proofs.Ytggjcfmoebghjab
open Go.RowKit

theorem edges_ok (a0 : Option Addr) (len0 cap0 : Nat) (z0 : Nat → Int) (n u d : Bool) (w : World) (hN0 : Nums .i64 w a0 len0 z0) :
    Calls Try.prog 3 #[.slice a0 len0 cap0, .bool n, .bool u, .bool d] w fun e w' => e = .returned (.bool true) ∧ Below w.heap.size w w' := by
  cases n <;> cases u <;> cases d
  · exact edges_000 a0 len0 cap0 z0 w hN0
  · exact edges_001 a0 len0 cap0 z0 w hN0
  · exact edges_010 a0 len0 cap0 z0 w hN0
  · exact edges_011 a0 len0 cap0 z0 w hN0
  · exact edges_100 a0 len0 cap0 z0 w hN0
  · exact edges_101 a0 len0 cap0 z0 w hN0
  · exact edges_110 a0 len0 cap0 z0 w hN0
  · exact edges_111 a0 len0 cap0 z0 w hN0
end Go.Proofs.Ytggjcfmoebghjab
