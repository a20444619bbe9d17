/- What a frame needs: the bounds of arguments. -/
import Derived.Test.YtbiopjmpdhcjgaaGreatDoorZ04
import Derived.Below
namespace Go.Proofs.YtbiopjmpdhcjgaaGreatDoor
open Go.RowKit

theorem wf_u64 (a : Int) (h : (Lit.int .u64 a).wf = true) : ∃ n : Nat, a = n ∧ n < 18446744073709551616 := by
  simp [Lit.wf, IntKind.min, IntKind.max, IntKind.signed, IntKind.bits] at h
  exact ⟨a.toNat, by omega, by omega⟩
theorem wf_i64 (a : Int) (h : (Lit.int .i64 a).wf = true) : -9223372036854775808 ≤ a ∧ a ≤ 9223372036854775807 := by
  simp [Lit.wf, IntKind.min, IntKind.max, IntKind.signed, IntKind.bits] at h
  exact h
end Go.Proofs.YtbiopjmpdhcjgaaGreatDoor
