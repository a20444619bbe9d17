/- Slices of bools that came in, as the row's frame tells them. -/
import Derived.Test.YtgehfmonfofbiaaGreatDoorLq
import Derived.Deep.Grids
namespace Go.Proofs.YtgehfmonfofbiaaGreatDoor
open Go.RowKit

/-- A slice of bools that came in. -/
def Bools (w : World) (a : Option Addr) (len : Nat) (zs : Nat → Bool) : Prop := ∀ k, k < len → ∃ xb xo, a = some ⟨xb, xo, none⟩ ∧ w.cell? ⟨xb, xo + k, none⟩ = some (.bool (zs k))

theorem flat_addr {w : World} {x : Addr} {V : Nat → Value} {len : Nat} (hc : ∀ i, i < len → w.cell? (x.add i) = some (V i)) (k : Nat) (hk : k < len) : ∃ xb xo, x = ⟨xb, xo, none⟩ ∧ w.cell? ⟨xb, xo + k, none⟩ = some (V k) := by
  have c := hc k hk
  obtain ⟨xb, xo, sp⟩ := x
  cases sp with
  | none =>
    refine ⟨xb, xo, rfl, ?_⟩
    have hadd : (⟨xb, xo, none⟩ : Addr).add k = ⟨xb, xo + k, none⟩ := by unfold Addr.add; split <;> simp_all
    rw [hadd] at c; exact c
  | some q =>
    exfalso
    have c0 := hc 0 (by omega)
    have hadd : (⟨xb, xo, some q⟩ : Addr).add 0 = ⟨xb, xo, some q⟩ := by unfold Addr.add; split <;> simp_all
    rw [hadd] at c0
    simp only [World.cell?] at c0
    split at c0
    · simp at c0
    · simp at c0

section
variable {H : Type} {enc : TypeId × Value → H} {P : Program} {w : World} {base : Nat} {held : Bool}

theorem in_bools {t e : TypeId} {fuel : Nat} {a : Option Addr} {len cap : Nat} {x : DataW H × List MemPlace} (ht : P.underlying t = some (.slice e)) (he : P.underlying e = some .bool) (hc : P.cellsOf e = 1)
    (h : DataW.trod enc P w base (fun _ => true) held fuel t [.slice a len cap] = some x) : ∃ zs, Bools w a len zs ∧ len ≤ maxLen := by
  rcases Go.Deep.open_bools ht he hc h with ⟨hcs, _⟩ | ⟨y, l, c, B, hcs, _, hl, hm, _, hcell⟩
  · simp at hcs
    obtain ⟨rfl, rfl, rfl⟩ := hcs
    exact ⟨fun _ => false, fun k hk => by omega, Nat.zero_le _⟩
  · simp at hcs
    obtain ⟨rfl, rfl, rfl⟩ := hcs
    refine ⟨B, fun k hk => ?_, Nat.le_trans hl hm⟩
    obtain ⟨xb, xo, rfl, h2⟩ := flat_addr (V := fun i => .bool (B i)) (fun i (hi : i < len) => hcell i (by omega)) k hk
    exact ⟨xb, xo, rfl, h2⟩

end
end Go.Proofs.YtgehfmonfofbiaaGreatDoor
