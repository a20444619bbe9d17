/- A slice of acts that came in. -/
import Derived.Test.YtebfocfofoajkabEachW
import Derived.Deep.Slices
import Derived.Deep.Strs
import Derived.ProofKit
import Derived.Lib.SmallJoins
namespace Go.Proofs.Ytebfocfofoajkab
open Go.RowKit Go.Joins

theorem cellsAct : Try.prog.cellsOf 25 = 3 := by kernel_rfl
theorem cellsInt : Try.prog.cellsOf 3 = 1 := by kernel_rfl
theorem cellsStr : Try.prog.cellsOf 9 = 1 := by kernel_rfl

theorem plain_of_cell {w : World} {x : Addr} {v : Value} (h : w.cell? x = some v) : x.spot = none := by
  obtain ⟨b, o, sp⟩ := x
  cases sp with
  | none => rfl
  | some q =>
    simp only [World.cell?] at h
    split at h
    · simp at h
    · simp at h

theorem acts_in {H : Type} {enc : TypeId × Value → H} {w : World} {spare : Nat → Bool} {a : Option Addr} {len cap : Nat} {d : DataW H} {p : List MemPlace}
    (h : DataW.Trod enc Try.prog w 0 spare true 22 (.slice a len cap) d p) : ∃ ds, ActsAt w a len ds ∧ len ≤ maxLen := by
  obtain ⟨fuel, hf⟩ := h
  rcases Deep.open_slice Try.underlying22 hf with ⟨hcs, _⟩ | ⟨x, l, c, m, n, D, Pl, hcs, _, hl, hm, hmm, _, hel⟩
  · simp [Value.cells] at hcs
    obtain ⟨rfl, rfl, rfl⟩ := hcs
    exact ⟨fun _ => noDeed, fun k hk => absurd hk (Nat.not_lt_zero _), Nat.zero_le _⟩
  · simp [Value.cells] at hcs
    obtain ⟨rfl, rfl, rfl⟩ := hcs
    have hlm : len ≤ m := by rw [hmm]; split <;> omega
    have each : ∀ k, k < len → ∃ q : Deed, w.cell? (x.add (k * 3)) = some (.int .i64 q.kind) ∧ w.cell? (x.add (k * 3 + 1)) = some (.int .i64 q.n) ∧ w.cell? (x.add (k * 3 + 2)) = some (.string q.s) := by
      intro k hk
      obtain ⟨cs', h1, h2⟩ := hel k (by omega)
      rw [cellsAct] at h1
      obtain ⟨_, hlen, hcell⟩ := World.cells?_some h1
      obtain ⟨y0, y1, y2, n', _, _, g0, g1, g2⟩ := Deep.trod_struct3 Try.underlying25 h2
      match cs', hlen with
      | [v0, v1, v2], _ =>
        simp only [cellsInt, cellsStr] at g0 g1 g2
        obtain ⟨i0, q0, _⟩ := DataW.trod_int Try.underlying3 g0
        obtain ⟨i1, q1, _⟩ := DataW.trod_int Try.underlying3 g1
        obtain ⟨i2, q2, _⟩ := DataW.trod_string Try.underlying9 g2
        simp at q0 q1 q2
        subst q0 q1 q2
        have e0 := hcell 0 (by omega)
        have e1 := hcell 1 (by omega)
        have e2 := hcell 2 (by omega)
        rw [Deep.add_add] at e0 e1 e2
        exact ⟨⟨i0, i1, i2⟩, by simpa using e0, by simpa using e1, by simpa using e2⟩
    have inh : Inhabited Deed := ⟨noDeed⟩
    obtain ⟨ds, hds⟩ := Deep.choose_lt each
    refine ⟨ds, fun k hk => ?_, by omega⟩
    obtain ⟨c0, c1, c2⟩ := hds k hk
    have z0 := (hds 0 (by omega)).1
    have hsp : x.spot = none := by
      have : x.add (0 * 3) = x := by unfold Addr.add; simp
      rw [this] at z0
      exact plain_of_cell z0
    obtain ⟨b, o, sp⟩ := x
    cases hsp
    have add : ∀ j, (⟨b, o, none⟩ : Addr).add j = ⟨b, o + j, none⟩ := fun j => by unfold Addr.add; split <;> simp_all
    rw [add] at c0 c1 c2
    exact ⟨b, o, rfl, World.block_lt_of_cell? w _ c0, c0, by rw [Nat.add_assoc]; exact c1, by rw [Nat.add_assoc]; exact c2⟩
end Go.Proofs.Ytebfocfofoajkab
