/- Calls that came in, as the row's frame tells them. -/
import Derived.Test.YtpidfndcihljmaaIn
import Derived.Deep.Slices
import Derived.ChangeSame
import Derived.ChangeArms
namespace Go.Proofs.Ytpidfndcihljmaa
open Go.RowKit

/-- A call: its kind, its number, its bytes. -/
structure Op17 where
  kd : Int
  n : Int
  da : Option Addr
  dl : Nat
  dc : Nat
  dm : List UInt8
/-- Calls that came in: the first 'len'. -/
def OpsAt (w : World) (a : Option Addr) (len : Nat) (z : Nat → Op17) : Prop :=
  ∀ k, k < len → (∃ xb xo, a = some ⟨xb, xo, none⟩ ∧ w.cell? ⟨xb, xo + k * 3, none⟩ = some (.int .i64 (z k).kd) ∧ w.cell? ⟨xb, xo + k * 3 + 1, none⟩ = some (.int .i64 (z k).n) ∧ w.cell? ⟨xb, xo + k * 3 + 2, none⟩ = some (.slice (z k).da (z k).dl (z k).dc)) ∧ Sl w (z k).da (z k).dl (z k).dc (z k).dm ∧ (z k).dl ≤ maxLen
theorem add_none (xb xo k : Nat) : (⟨xb, xo, none⟩ : Addr).add k = ⟨xb, xo + k, none⟩ := by unfold Addr.add; split <;> simp_all
section
variable {H : Type} {enc : TypeId × Value → H} {P : Program} {w : World} {base : Nat} {held : Bool}
/-- One element of three one-cell fields, from what is read. -/
theorem three_cells {e : TypeId} {f0 f1 f2 : Field} {n : Nat} {y : Addr} {k : Nat} {d : DataW H × List MemPlace} {cs : List Value} (he : P.underlying e = some (.struct #[f0, f1, f2]))
    (o0 : f0.offset = 0) (o1 : f1.offset = 1) (o2 : f2.offset = 2) (c0 : P.cellsOf f0.type = 1) (c1 : P.cellsOf f1.type = 1) (c2 : P.cellsOf f2.type = 1)
    (h1 : w.cells? base (y.add (k * 3)) 3 = some cs) (h2 : DataW.trod enc P w base (fun _ => true) held n e cs = some d) :
    ∃ (v0 v1 v2 : Value) (q : Nat) (y0 y1 y2 : DataW H × List MemPlace), w.cell? (y.add (k * 3)) = some v0 ∧ w.cell? (y.add (k * 3 + 1)) = some v1 ∧ w.cell? (y.add (k * 3 + 2)) = some v2 ∧
      DataW.trod enc P w base (fun _ => true) held q f0.type [v0] = some y0 ∧ DataW.trod enc P w base (fun _ => true) held q f1.type [v1] = some y1 ∧ DataW.trod enc P w base (fun _ => true) held q f2.type [v2] = some y2 := by
  obtain ⟨_, hlen, hcell⟩ := World.cells?_some h1
  obtain ⟨xs, q, hq, hxy, _, hxl, hf⟩ := DataW.trod_struct he h2
  match xs, hxl, cs, hlen with
  | [y0, y1, y2], _, [v0, v1, v2], _ =>
    have g0 := hf 0 f0 rfl
    have g1 := hf 1 f1 rfl
    have g2 := hf 2 f2 rfl
    simp [o0, o1, o2, c0, c1, c2] at g0 g1 g2
    have e0 := hcell 0 (by omega)
    have e1 := hcell 1 (by omega)
    have e2 := hcell 2 (by omega)
    rw [Go.Deep.add_add] at e0 e1 e2
    exact ⟨v0, v1, v2, q, y0, y1, y2, by simpa using e0, by simpa using e1, by simpa using e2, g0, g1, g2⟩
end
section
variable {H : Type} {enc : TypeId × Value → H} {w : World} {base : Nat} {held : Bool}
theorem in_ops17 {fuel : Nat} {a : Option Addr} {len cap : Nat} {x : DataW H × List MemPlace} (h : DataW.trod enc Try.prog w base (fun _ => true) held fuel 38 [.slice a len cap] = some x) :
    ∃ z, OpsAt w a len z ∧ len ≤ maxLen := by
  rcases Go.Deep.open_slice Try.underlying38 h with ⟨hcs, rfl⟩ | ⟨y, l, c, m, n, D, Pl, hcs, _, hl, hm, hmm, rfl, hx⟩
  · simp at hcs
    obtain ⟨rfl, rfl, rfl⟩ := hcs
    exact ⟨fun _ => ⟨0, 0, none, 0, 0, []⟩, fun k hk => by omega, Nat.zero_le _⟩
  · simp at hcs
    obtain ⟨rfl, rfl, rfl⟩ := hcs
    have hlm : len ≤ m := by rw [hmm]; split <;> omega
    have ce : Try.prog.cellsOf 43 = 3 := by kernel_rfl
    rw [ce] at hx
    have each : ∀ k, k < len → ∃ z : Op17, (w.cell? (y.add (k * 3)) = some (.int .i64 z.kd) ∧ w.cell? (y.add (k * 3 + 1)) = some (.int .i64 z.n) ∧ w.cell? (y.add (k * 3 + 2)) = some (.slice z.da z.dl z.dc)) ∧ Sl w z.da z.dl z.dc z.dm ∧ z.dl ≤ maxLen := by
      intro k hk
      obtain ⟨cs', h1, h2⟩ := hx k (by omega)
      obtain ⟨v0, v1, v2, q, y0, y1, y2, e0, e1, e2, g0, g1, g2⟩ := three_cells Try.underlying43 rfl rfl rfl (by kernel_rfl) (by kernel_rfl) (by kernel_rfl) h1 h2
      obtain ⟨n0, hn0, _⟩ := DataW.trod_int Try.underlying3 g0
      obtain ⟨n1, hn1, _⟩ := DataW.trod_int Try.underlying3 g1
      simp at hn0 hn1
      obtain ⟨a2, l2, c2, zs, hv2, hrow⟩ : ∃ a2 l2 c2 zs, v2 = .slice a2 l2 c2 ∧ IsRow .u8 w a2 l2 c2 zs := by
        rcases Go.ChangeShapes.open_ints Try.underlying26 Try.underlying5 (by kernel_rfl) g2 with ⟨hcs, _⟩ | ⟨x2, l2, c2, zs, hcs, _, hl2, hm2, hz2, _, hcell2, hwz2⟩
        · simp at hcs
          exact ⟨none, 0, 0, [], hcs, .inl ⟨rfl, rfl, rfl, rfl⟩⟩
        · simp at hcs
          exact ⟨some x2, l2, c2, zs, hcs, .inr ⟨_, rfl, hl2, hm2, by simpa using hz2, hcell2, hwz2⟩⟩
      subst hv2
      exact ⟨⟨n0, n1, a2, l2, c2, byt zs l2⟩, ⟨by rw [e0, hn0], by rw [e1, hn1], e2⟩, hrow.sl.1, hrow.sl.2⟩
    have hz : ∃ z : Nat → Op17, ∀ k, k < len → (w.cell? (y.add (k * 3)) = some (.int .i64 (z k).kd) ∧ w.cell? (y.add (k * 3 + 1)) = some (.int .i64 (z k).n) ∧ w.cell? (y.add (k * 3 + 2)) = some (.slice (z k).da (z k).dl (z k).dc)) ∧ Sl w (z k).da (z k).dl (z k).dc (z k).dm ∧ (z k).dl ≤ maxLen := by
      classical
      refine ⟨fun k => if hk : k < len then Classical.choose (each k hk) else ⟨0, 0, none, 0, 0, []⟩, fun k hk => ?_⟩
      simp only [dif_pos hk]
      exact Classical.choose_spec (each k hk)
    obtain ⟨z, hz⟩ := hz
    refine ⟨z, fun k hk => ?_, Nat.le_trans hl hm⟩
    obtain ⟨⟨e0, e1, e2⟩, e3⟩ := hz k hk
    refine ⟨?_, e3⟩
    obtain ⟨xb, xo, sp⟩ := y
    cases sp with
    | none =>
      rw [add_none] at e0 e1 e2
      exact ⟨xb, xo, rfl, e0, by rw [Nat.add_assoc]; exact e1, by rw [Nat.add_assoc]; exact e2⟩
    | some s =>
      exfalso
      have c0 := (hz 0 (by omega)).1.1
      have hadd : (⟨xb, xo, some s⟩ : Addr).add (0 * 3) = ⟨xb, xo, some s⟩ := by unfold Addr.add; split <;> simp_all
      rw [hadd] at c0
      simp only [World.cell?] at c0
      split at c0
      · simp at c0
      · simp at c0
end
end Go.Proofs.Ytpidfndcihljmaa
