/- Sweep: every piece that is not to be kept is given back. -/
import Derived.Test.YtacfmmbdeajjbaaGreatDoorSwC
namespace Go.Proofs.YtacfmmbdeajjbaaGreatDoor
open Go.RowKit

theorem eq_nil_keep (g : Nat) (ca : Array Value) (w : World) : (binOp .eql 91 (.func (.func g) #[] ca) .nilFunc).run Tryz.prog w = .ok (.bool false) w := by kernel_rfl

/-- Units that are not kept. -/
def goneU (kp : Nat → Bool) (U : List Nat) : List Nat := U.filter fun u => !kp u
def placesU (U : List Nat) : List Nat := U.map fun u => 160 + u * 8
theorem gone_take {kp : Nat → Bool} {U : List Nat} {q x : Nat} (h : U[q]? = some x) : goneU kp (U.take (q + 1)) = goneU kp (U.take q) ++ (if kp x then [] else [x]) := by
  unfold goneU
  rw [List.take_add_one, h, List.filter_append]
  cases e : kp x <;> simp [e]
theorem gone_len (kp : Nat → Bool) (U : List Nat) : (goneU kp U).length ≤ U.length := List.length_filter_le _ _

theorem take_no {G : List Nat} (h : G.Pairwise (· < ·)) {q x : Nat} (hx : G[q]? = some x) : x ∉ G.take q := fun hm => by
  obtain ⟨a, e⟩ := List.getElem?_eq_some_iff.1 hx
  obtain ⟨k, hk, ek⟩ := List.mem_iff_getElem.1 hm
  have hk' : k < q := by rw [List.length_take] at hk; omega
  rw [List.getElem_take] at ek
  have := List.pairwise_iff_getElem.1 h k q (by omega) a hk'
  omega

variable {w w0 : World} {hb sb b bl : Nat} {T : Tay} {A : Ab} {P : List (Int × Int)}

end Go.Proofs.YtacfmmbdeajjbaaGreatDoor
