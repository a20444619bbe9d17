/- HeapSweeps: which pieces are kept; its closures. -/
import Derived.Test.YtacfmmbdeajjbaaGreatDoorSo
namespace Go.Proofs.YtacfmmbdeajjbaaGreatDoor
open Go.RowKit

variable {w : World} {bl : Nat}

end Go.Proofs.YtacfmmbdeajjbaaGreatDoor
