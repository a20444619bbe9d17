/- The frame's helpers. -/
import Derived.Test.YtacfmmbdeajjbaaGreatDoorTxA
import Derived.Below
import Derived.Test.YtacfmmbdeajjbaaGreatDoorNvD
namespace Go.Proofs.YtacfmmbdeajjbaaGreatDoor
open Go.RowKit

theorem wf_u64 (a : Int) (h : (Lit.int .u64 a).wf = true) : ∃ n : Nat, a = n ∧ n < 18446744073709551616 := by
  simp [Lit.wf, IntKind.min, IntKind.max, IntKind.signed, IntKind.bits] at h
  exact ⟨a.toNat, by omega, by omega⟩
theorem wf_i64 (a : Int) (h : (Lit.int .i64 a).wf = true) : -9223372036854775808 ≤ a ∧ a ≤ 9223372036854775807 := by
  simp [Lit.wf, IntKind.min, IntKind.max, IntKind.signed, IntKind.bits] at h
  exact h

theorem IsRow.bound {w : World} {a : Option Addr} {len cap : Nat} {zs : List Int} (h : IsRow .i64 w a len cap zs) : ∀ k, k < len → zs.getD k 0 < 9223372036854775808 := by
  intro k hk
  rcases h with ⟨_, rfl, _, _⟩ | ⟨x, rfl, hl, hm, hz, hc, hw⟩
  · omega
  · have hm : zs.getD k 0 ∈ zs := by
      rw [List.getD_eq_getElem?_getD, List.getElem?_eq_getElem (by omega)]
      exact List.getElem_mem _
    have := wf_i64 _ (hw _ hm)
    omega
end Go.Proofs.YtacfmmbdeajjbaaGreatDoor
