/- Parts that came in, as the row's frame tells them. -/
import Derived.Test.YtdmfooejjpppkaaIn9
import Derived.Test.YtdmfooejjpppkaaJn
import Derived.Deep.Matrix
namespace Go.Proofs.Ytdmfooejjpppkaa
open Go.RowKit

theorem flat_addr {w : World} {x : Addr} {V : Nat → Value} {len : Nat} (hc : ∀ i, i < len → w.cell? (x.add i) = some (V i)) (k : Nat) (hk : k < len) : ∃ xb xo, x = ⟨xb, xo, none⟩ ∧ w.cell? ⟨xb, xo + k, none⟩ = some (V k) := by
  have c := hc k hk
  obtain ⟨xb, xo, sp⟩ := x
  cases sp with
  | none =>
    refine ⟨xb, xo, rfl, ?_⟩
    have hadd : (⟨xb, xo, none⟩ : Addr).add k = ⟨xb, xo + k, none⟩ := by unfold Addr.add; split <;> simp_all
    rw [hadd] at c; exact c
  | some q =>
    exfalso
    have c0 := hc 0 (by omega)
    have hadd : (⟨xb, xo, some q⟩ : Addr).add 0 = ⟨xb, xo, some q⟩ := by unfold Addr.add; split <;> simp_all
    rw [hadd] at c0
    simp only [World.cell?] at c0
    split at c0
    · simp at c0
    · simp at c0

section
variable {H : Type} {enc : TypeId × Value → H} {P : Program} {w : World} {base : Nat} {held : Bool}
theorem in_parts {t e q : TypeId} {fuel : Nat} {a : Option Addr} {len cap : Nat} {x : DataW H × List MemPlace} (ht : P.underlying t = some (.slice e)) (he : P.underlying e = some (.slice q)) (hq : P.underlying q = some (.int .u8))
    (ce : P.cellsOf e = 1) (cq : P.cellsOf q = 1) (h : DataW.trod enc P w base (fun _ => true) held fuel t [.slice a len cap] = some x) : ∃ A L C Z, PartsAt w a len A L C Z ∧ len ≤ maxLen ∧ ∀ i, i < len → L i ≤ maxLen := by
  rcases Go.Deep.open_int_rows ht he hq ce cq h with ⟨hcs, _⟩ | ⟨y, l, c, A, L, C, Z, hcs, _, hl, hm, _, hcell⟩
  · simp at hcs
    obtain ⟨rfl, rfl, rfl⟩ := hcs
    exact ⟨fun _ => none, fun _ => 0, fun _ => 0, fun _ _ => 0, fun k hk => by omega, Nat.zero_le _, fun k hk => by omega⟩
  · simp at hcs
    obtain ⟨rfl, rfl, rfl⟩ := hcs
    refine ⟨A, L, C, fun k i => ((Z k).getD i 0).toNat, fun k hk => ?_, Nat.le_trans hl hm, fun k hk => Nat.le_trans (hcell k (by omega)).2.1 (hcell k (by omega)).2.2.1⟩
    obtain ⟨xb, xo, rfl, h2⟩ := flat_addr (V := fun i => .slice (A i) (L i) (C i)) (fun i (hi : i < len) => (hcell i (by omega)).1) k hk
    obtain ⟨_, r1, r2, r3, r4, r5, r6⟩ := hcell k (by omega)
    have hz : ∀ i, i < L k → ∃ n : Nat, (Z k).getD i 0 = n ∧ n < 256 := fun i hi => wf_u8 _ (r4 _ (by
      have e : (Z k).getD i 0 = (Z k)[i]'(by omega) := by simp [show i < (Z k).length by omega]
      rw [e]; exact List.getElem_mem _))
    refine ⟨⟨xb, xo, rfl, h2⟩, fun i hi => ?_, fun i hi => ?_, fun e => ?_⟩
    · cases ha : A k with
      | none => have := r5 ha; omega
      | some a' =>
        obtain ⟨yb, yo, rfl, h3⟩ := flat_addr (V := fun i => .int .u8 ((Z k).getD i 0)) (fun i (hi : i < L k) => (r6 a' ha).2 i (by omega)) i hi
        obtain ⟨n, e, _⟩ := hz i hi
        refine ⟨yb, yo, rfl, ?_⟩
        rw [h3]
        show some (Value.int .u8 ((Z k).getD i 0)) = some (Value.int .u8 ((((Z k).getD i 0).toNat : Nat) : Int))
        rw [e]; rfl
    · obtain ⟨n, e, hn⟩ := hz i hi
      show ((Z k).getD i 0).toNat < 256
      rw [e]; exact hn
    · have := r5 e; omega
end
end Go.Proofs.Ytdmfooejjpppkaa
