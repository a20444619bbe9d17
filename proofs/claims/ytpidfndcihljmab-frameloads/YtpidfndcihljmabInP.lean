/- Rows of bytes that came in, as the row's frame tells them. -/
import Derived.Test.YtpidfndcihljmabIn
import Derived.Deep.Matrix
namespace Go.Proofs.Ytpidfndcihljmab
open Go.RowKit

/-- A row of rows of bytes that came in. -/
def PartsAt (w : World) (a : Option Addr) (len : Nat) (A : Nat → Option Addr) (L C : Nat → Nat) (Z : Nat → List UInt8) : Prop :=
  ∀ k, k < len → (∃ xb xo, a = some ⟨xb, xo, none⟩ ∧ w.cell? ⟨xb, xo + k, none⟩ = some (.slice (A k) (L k) (C k))) ∧ Sl w (A k) (L k) (C k) (Z k) ∧ L k ≤ maxLen
section
variable {H : Type} {enc : TypeId × Value → H} {P : Program} {w : World} {base : Nat} {held : Bool}
theorem in_parts {t e q : TypeId} {fuel : Nat} {a : Option Addr} {len cap : Nat} {x : DataW H × List MemPlace} (ht : P.underlying t = some (.slice e)) (he : P.underlying e = some (.slice q)) (hq : P.underlying q = some (.int .u8))
    (ce : P.cellsOf e = 1) (cq : P.cellsOf q = 1) (h : DataW.trod enc P w base (fun _ => true) held fuel t [.slice a len cap] = some x) : ∃ A L C Z, PartsAt w a len A L C Z ∧ len ≤ maxLen := by
  rcases Go.Deep.open_int_rows ht he hq ce cq h with ⟨hcs, _⟩ | ⟨y, l, c, A, L, C, Z, hcs, _, hl, hm, _, hcell⟩
  · simp at hcs
    obtain ⟨rfl, rfl, rfl⟩ := hcs
    exact ⟨fun _ => none, fun _ => 0, fun _ => 0, fun _ => [], fun k hk => by omega, Nat.zero_le _⟩
  · simp at hcs
    obtain ⟨rfl, rfl, rfl⟩ := hcs
    refine ⟨A, L, C, fun k => byt (Z k) (L k), fun k hk => ?_, Nat.le_trans hl hm⟩
    obtain ⟨xb, xo, rfl, h2⟩ := flat_addr (V := fun i => .slice (A i) (L i) (C i)) (fun i (hi : i < len) => (hcell i (by omega)).1) k hk
    obtain ⟨_, r1, r2, r3, r4, r5, r6⟩ := hcell k (by omega)
    have hrow : IsRow .u8 w (A k) (L k) (C k) (Z k) := by
      cases ha : A k with
      | none =>
        have hc0 := r5 ha
        exact .inl ⟨rfl, by omega, hc0, List.length_eq_zero_iff.1 (by omega)⟩
      | some y => exact .inr ⟨y, rfl, r1, r2, r3, fun i hi => (r6 y ha).2 i (by omega), r4⟩
    exact ⟨⟨xb, xo, rfl, h2⟩, hrow.sl.1, hrow.sl.2⟩
end
end Go.Proofs.Ytpidfndcihljmab
