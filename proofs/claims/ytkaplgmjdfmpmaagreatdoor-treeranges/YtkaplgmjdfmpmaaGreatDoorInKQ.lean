/- The pairs and the script of TreeX, as they came in. -/
import Derived.Test.YtkaplgmjdfmpmaaGreatDoorQ33
import Derived.Deep.Slices
import Derived.ChangeSame
import Derived.ChangeArms
import Derived.ChangeSlices
namespace Go.Proofs.YtkaplgmjdfmpmaaGreatDoor
open Go.RowKit

theorem add_noneK (xb xo k : Nat) : (⟨xb, xo, none⟩ : Addr).add k = ⟨xb, xo + k, none⟩ := by unfold Addr.add; split <;> simp_all
section
variable {H : Type} {enc : TypeId × Value → H} {P : Program} {w : World} {base : Nat} {held : Bool}

theorem three_cellsK {e : TypeId} {f0 f1 f2 : Field} {n : Nat} {y : Addr} {k : Nat} {d : DataW H × List MemPlace} {cs : List Value} (he : P.underlying e = some (.struct #[f0, f1, f2]))
    (o0 : f0.offset = 0) (o1 : f1.offset = 1) (o2 : f2.offset = 2) (c0 : P.cellsOf f0.type = 1) (c1 : P.cellsOf f1.type = 1) (c2 : P.cellsOf f2.type = 1)
    (h1 : w.cells? base (y.add (k * 3)) 3 = some cs) (h2 : DataW.trod enc P w base (fun _ => true) held n e cs = some d) :
    ∃ (v0 v1 v2 : Value) (q : Nat) (y0 y1 y2 : DataW H × List MemPlace), w.cell? (y.add (k * 3)) = some v0 ∧ w.cell? (y.add (k * 3 + 1)) = some v1 ∧ w.cell? (y.add (k * 3 + 2)) = some v2 ∧
      DataW.trod enc P w base (fun _ => true) held q f0.type [v0] = some y0 ∧ DataW.trod enc P w base (fun _ => true) held q f1.type [v1] = some y1 ∧ DataW.trod enc P w base (fun _ => true) held q f2.type [v2] = some y2 := by
  obtain ⟨_, hlen, hcell⟩ := World.cells?_some h1
  obtain ⟨xs, q, hq, hxy, _, hxl, hf⟩ := DataW.trod_struct he h2
  match xs, hxl, cs, hlen with
  | [y0, y1, y2], _, [v0, v1, v2], _ =>
    have g0 := hf 0 f0 rfl
    have g1 := hf 1 f1 rfl
    have g2 := hf 2 f2 rfl
    simp [o0, o1, o2, c0, c1, c2] at g0 g1 g2
    have e0 := hcell 0 (by omega)
    have e1 := hcell 1 (by omega)
    have e2 := hcell 2 (by omega)
    rw [Go.Deep.add_add] at e0 e1 e2
    exact ⟨v0, v1, v2, q, y0, y1, y2, by simpa using e0, by simpa using e1, by simpa using e2, g0, g1, g2⟩
theorem wf64K (a : Int) (h : (Lit.int .u64 a).wf = true) : ∃ n : Nat, a = n ∧ n < 18446744073709551616 := by
  simp [Lit.wf, IntKind.min, IntKind.max, IntKind.signed, IntKind.bits] at h
  exact ⟨a.toNat, by omega, by omega⟩
end

section
variable {H : Type} {enc : TypeId × Value → H} {w : World} {base : Nat} {held : Bool}

theorem in_opsK {fuel : Nat} {a : Option Addr} {len cap : Nat} {x : DataW H × List MemPlace} (h : DataW.trod enc Tryz.prog w base (fun _ => true) held fuel 52 [.slice a len cap] = some x) :
    ∃ z, OpsK w a len z ∧ len ≤ maxLen := by
  rcases Go.Deep.open_slice Tryz.underlying52 h with ⟨hcs, rfl⟩ | ⟨y, l, c, m, n, D, Pl, hcs, _, hl, hm, hmm, rfl, hx⟩
  · simp at hcs
    obtain ⟨rfl, rfl, rfl⟩ := hcs
    exact ⟨fun _ => ⟨0, ⟨#[]⟩, 0⟩, fun k hk => by omega, Nat.zero_le _⟩
  · simp at hcs
    obtain ⟨rfl, rfl, rfl⟩ := hcs
    have hlm : len ≤ m := by rw [hmm]; split <;> omega
    have ce : Tryz.prog.cellsOf 54 = 3 := by kernel_rfl
    rw [ce] at hx
    have each : ∀ k, k < len → ∃ z : OpK, (w.cell? (y.add (k * 3)) = some (.int .i64 z.kd) ∧ w.cell? (y.add (k * 3 + 1)) = some (.string z.key) ∧ w.cell? (y.add (k * 3 + 2)) = some (.int .u64 (z.v : Nat))) ∧ z.v < 18446744073709551616 := by
      intro k hk
      obtain ⟨cs', h1, h2⟩ := hx k (by omega)
      obtain ⟨v0, v1, v2, q, y0, y1, y2, e0, e1, e2, g0, g1, g2⟩ := three_cellsK Tryz.underlying54 rfl rfl rfl (by kernel_rfl) (by kernel_rfl) (by kernel_rfl) h1 h2
      obtain ⟨n0, hn0, _⟩ := DataW.trod_int Tryz.underlying3 g0
      obtain ⟨s1, hs1, _⟩ := DataW.trod_string Tryz.underlying9 g1
      obtain ⟨n2, hn2, _, hw2⟩ := DataW.trod_int Tryz.underlying27 g2
      obtain ⟨m2, rfl, hm2⟩ := wf64K n2 hw2
      simp at hn0 hs1 hn2
      exact ⟨⟨n0, s1, m2⟩, ⟨by rw [e0, hn0], by rw [e1, hs1], by rw [e2, hn2]⟩, hm2⟩
    have hz : ∃ z : Nat → OpK, ∀ k, k < len → (w.cell? (y.add (k * 3)) = some (.int .i64 (z k).kd) ∧ w.cell? (y.add (k * 3 + 1)) = some (.string (z k).key) ∧ w.cell? (y.add (k * 3 + 2)) = some (.int .u64 ((z k).v : Nat))) ∧ (z k).v < 18446744073709551616 := by
      classical
      refine ⟨fun k => if hk : k < len then Classical.choose (each k hk) else ⟨0, ⟨#[]⟩, 0⟩, fun k hk => ?_⟩
      simp only [dif_pos hk]
      exact Classical.choose_spec (each k hk)
    obtain ⟨z, hz⟩ := hz
    refine ⟨z, fun k hk => ⟨?_, (hz k hk).2⟩, Nat.le_trans hl hm⟩
    obtain ⟨xb, xo, sp⟩ := y
    cases sp with
    | none =>
      have e := (hz k hk).1
      rw [add_noneK, add_noneK, add_noneK] at e
      exact ⟨xb, xo, rfl, e.1, by rw [Nat.add_assoc]; exact e.2.1, by rw [Nat.add_assoc]; exact e.2.2⟩
    | some q =>
      exfalso
      have c0 := (hz 0 (by omega)).1.1
      have hadd : (⟨xb, xo, some q⟩ : Addr).add (0 * 3) = ⟨xb, xo, some q⟩ := by unfold Addr.add; split <;> simp_all
      rw [hadd] at c0
      simp only [World.cell?] at c0
      split at c0
      · simp at c0
      · simp at c0
end
end Go.Proofs.YtkaplgmjdfmpmaaGreatDoor
