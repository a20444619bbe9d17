/- Slices of the law's ops that came in; whole arrays read under a guard. -/
import Derived.Test.YtamghkabclbkgaaLw
import Derived.Deep.Slices
import Derived.ChangeSame
import Derived.ChangeArms
namespace Go.Proofs.Ytamghkabclbkgaa
open Go.RowKit

theorem wpList_load_rowG {P : Program} {ops : Array Oper} {rest : List Oper} {o : Oper} {a : Act} {w : World} {Q : Exit → Act → World → Prop} (hw : Region.wanted o (yielded ops a.tmps) = true) (ty : TypeId) (x : Operand) (ho : o.op = .load ty x)
    (g : Nat) (hx : a.eval x = .pointer (some ⟨g, 0, none⟩)) (t : TypeId) (cs : Array Value) (fr : Nat × Nat) (d : TypeDesc) (hg : w.heap[g]? = some (.cells cs t fr))
    (hu : P.underlying ty = some d) (hd : (match d with | .struct _ | .array _ _ => true | _ => false) = true) (hi : (P.info? ty).map (·.size) = some cs.size)
    (h : wpList P ops Q rest (a.put o.dst (.agg cs)) w) : wpList P ops Q (o :: rest) a w := by
  simp only [wpList, hw, if_true]
  exact .inl (wp_load_row ty x ho g hx t cs fr d hg hu hd hi h)

/-- An op: its kind, its word, its value. -/
structure Op7 where
  kd : Int
  i : Int
  v : Int

/-- Ops that came in: the first 'len'. -/
def OpsAt (w : World) (a : Option Addr) (len : Nat) (z : Nat → Op7) : Prop :=
  ∀ k, k < len → ∃ xb xo, a = some ⟨xb, xo, none⟩ ∧ w.cell? ⟨xb, xo + k * 3, none⟩ = some (.int .i64 (z k).kd) ∧ w.cell? ⟨xb, xo + k * 3 + 1, none⟩ = some (.int .i64 (z k).i) ∧ w.cell? ⟨xb, xo + k * 3 + 2, none⟩ = some (u64 (z k).v)

theorem OpsAt.still {w w' : World} {a : Option Addr} {len : Nat} {z : Nat → Op7} (h : OpsAt w a len z) (f : Still w w') : OpsAt w' a len z := fun k hk => by
  obtain ⟨xb, xo, e, h1, h2, h3⟩ := h k hk
  exact ⟨xb, xo, e, f.cell' h1 (fun x => x), f.cell' h2 (fun x => x), f.cell' h3 (fun x => x)⟩

theorem add_none (xb xo k : Nat) : (⟨xb, xo, none⟩ : Addr).add k = ⟨xb, xo + k, none⟩ := by unfold Addr.add; split <;> simp_all

section
variable {H : Type} {enc : TypeId × Value → H} {P : Program} {w : World} {base : Nat} {held : Bool}

/-- One element of three one-cell fields, from what is read. -/
theorem three_cells {e : TypeId} {f0 f1 f2 : Field} {n : Nat} {y : Addr} {k : Nat} {d : DataW H × List MemPlace} {cs : List Value} (he : P.underlying e = some (.struct #[f0, f1, f2]))
    (o0 : f0.offset = 0) (o1 : f1.offset = 1) (o2 : f2.offset = 2) (c0 : P.cellsOf f0.type = 1) (c1 : P.cellsOf f1.type = 1) (c2 : P.cellsOf f2.type = 1)
    (h1 : w.cells? base (y.add (k * 3)) 3 = some cs) (h2 : DataW.trod enc P w base (fun _ => true) held n e cs = some d) :
    ∃ (v0 v1 v2 : Value) (q : Nat) (y0 y1 y2 : DataW H × List MemPlace), w.cell? (y.add (k * 3)) = some v0 ∧ w.cell? (y.add (k * 3 + 1)) = some v1 ∧ w.cell? (y.add (k * 3 + 2)) = some v2 ∧
      DataW.trod enc P w base (fun _ => true) held q f0.type [v0] = some y0 ∧ DataW.trod enc P w base (fun _ => true) held q f1.type [v1] = some y1 ∧ DataW.trod enc P w base (fun _ => true) held q f2.type [v2] = some y2 := by
  obtain ⟨_, hlen, hcell⟩ := World.cells?_some h1
  obtain ⟨xs, q, hq, hxy, _, hxl, hf⟩ := DataW.trod_struct he h2
  match xs, hxl, cs, hlen with
  | [y0, y1, y2], _, [v0, v1, v2], _ =>
    have g0 := hf 0 f0 rfl
    have g1 := hf 1 f1 rfl
    have g2 := hf 2 f2 rfl
    simp [o0, o1, o2, c0, c1, c2] at g0 g1 g2
    have e0 := hcell 0 (by omega)
    have e1 := hcell 1 (by omega)
    have e2 := hcell 2 (by omega)
    rw [Go.Deep.add_add] at e0 e1 e2
    exact ⟨v0, v1, v2, q, y0, y1, y2, by simpa using e0, by simpa using e1, by simpa using e2, g0, g1, g2⟩
end

section
variable {H : Type} {enc : TypeId × Value → H} {w : World} {base : Nat} {held : Bool}

theorem in_ops {fuel : Nat} {a : Option Addr} {len cap : Nat} {x : DataW H × List MemPlace} (h : DataW.trod enc Try.prog w base (fun _ => true) held fuel 22 [.slice a len cap] = some x) :
    ∃ z, OpsAt w a len z ∧ len ≤ maxLen ∧ ((len = 0 ∧ x.1 = .nil) ∨ ∃ es sp, x.1 = .slice es sp ∧ es.length = len) := by
  rcases Go.Deep.open_slice Try.underlying22 h with ⟨hcs, rfl⟩ | ⟨y, l, c, m, n, D, Pl, hcs, _, hl, hm, hmm, rfl, hx⟩
  · simp at hcs
    obtain ⟨rfl, rfl, rfl⟩ := hcs
    exact ⟨fun _ => ⟨0, 0, 0⟩, fun k hk => by omega, Nat.zero_le _, .inl ⟨rfl, rfl⟩⟩
  · simp at hcs
    obtain ⟨rfl, rfl, rfl⟩ := hcs
    have hlm : len ≤ m := by rw [hmm]; split <;> omega
    have ce : Try.prog.cellsOf 31 = 3 := by kernel_rfl
    rw [ce] at hx
    have each : ∀ k, k < len → ∃ z : Op7, w.cell? (y.add (k * 3)) = some (.int .i64 z.kd) ∧ w.cell? (y.add (k * 3 + 1)) = some (.int .i64 z.i) ∧ w.cell? (y.add (k * 3 + 2)) = some (u64 z.v) := by
      intro k hk
      obtain ⟨cs', h1, h2⟩ := hx k (by omega)
      obtain ⟨v0, v1, v2, q, y0, y1, y2, e0, e1, e2, g0, g1, g2⟩ := three_cells Try.underlying31 rfl rfl rfl (by kernel_rfl) (by kernel_rfl) (by kernel_rfl) h1 h2
      obtain ⟨n0, hn0, _⟩ := DataW.trod_int Try.underlying3 g0
      obtain ⟨n1, hn1, _⟩ := DataW.trod_int Try.underlying3 g1
      obtain ⟨n2, hn2, _⟩ := DataW.trod_int Try.underlying27 g2
      simp at hn0 hn1 hn2
      exact ⟨⟨n0, n1, n2⟩, by rw [e0, hn0], by rw [e1, hn1], by rw [e2, hn2]⟩
    have hz : ∃ z : Nat → Op7, ∀ k, k < len → w.cell? (y.add (k * 3)) = some (.int .i64 (z k).kd) ∧ w.cell? (y.add (k * 3 + 1)) = some (.int .i64 (z k).i) ∧ w.cell? (y.add (k * 3 + 2)) = some (u64 (z k).v) := by
      classical
      refine ⟨fun k => if hk : k < len then Classical.choose (each k hk) else ⟨0, 0, 0⟩, fun k hk => ?_⟩
      simp only [dif_pos hk]
      exact Classical.choose_spec (each k hk)
    obtain ⟨z, hz⟩ := hz
    refine ⟨z, fun k hk => ?_, Nat.le_trans hl hm, .inr ⟨_, _, rfl, by simp⟩⟩
    obtain ⟨xb, xo, sp⟩ := y
    cases sp with
    | none =>
      have e := hz k hk
      rw [add_none, add_none, add_none] at e
      exact ⟨xb, xo, rfl, e.1, by rw [Nat.add_assoc]; exact e.2.1, by rw [Nat.add_assoc]; exact e.2.2⟩
    | some q =>
      exfalso
      have e := (hz 0 (by omega)).1
      rw [Nat.zero_mul, show (⟨xb, xo, some q⟩ : Addr).add 0 = ⟨xb, xo, some q⟩ from by unfold Addr.add; split <;> simp_all] at e
      simp only [World.cell?] at e
      split at e
      · simp at e
      · simp at e
end
end Go.Proofs.Ytamghkabclbkgaa
