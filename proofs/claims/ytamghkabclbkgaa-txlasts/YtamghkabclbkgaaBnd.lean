/- The numbers of a slice that came in are int's. -/
import Derived.Test.YtamghkabclbkgaaIn
import Derived.Test.YtamghkabclbkgaaFin
namespace Go.Proofs.Ytamghkabclbkgaa
open Go.RowKit

theorem IsRow.bound {w : World} {a : Option Addr} {len cap : Nat} {zs : List Int} (h : IsRow .i64 w a len cap zs) : ∀ k, k < len → zs.getD k 0 < 9223372036854775808 := by
  intro k hk
  rcases h with ⟨_, rfl, _, _⟩ | ⟨x, rfl, hl, hm, hz, hc, hw⟩
  · omega
  · have hm : zs.getD k 0 ∈ zs := by
      rw [List.getD_eq_getElem?_getD, List.getElem?_eq_getElem (by omega)]
      exact List.getElem_mem _
    have := wf_i64 _ (hw _ hm)
    omega
end Go.Proofs.Ytamghkabclbkgaa
