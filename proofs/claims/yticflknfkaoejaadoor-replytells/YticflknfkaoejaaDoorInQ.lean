/- Pairs of texts and bytes that came in, with their sizes; texts that came in. -/
import Derived.Test.YticflknfkaoejaaDoorIn
import Derived.SliceStrings
import Derived.Deep.Slices
import Derived.ChangeSame
import Derived.ChangeArms
import Derived.ChangeSlices
import Derived.SizedLaws
namespace Go.Proofs.YticflknfkaoejaaDoor
open Go.RowKit

/-- A row of texts that is read. -/
def StrsAt (w : World) (a : Option Addr) (n : Nat) (S : Nat → List UInt8) : Prop := ∀ i, i < n → ∃ b o, a = some ⟨b, o, none⟩ ∧ w.cell? ⟨b, o + i, none⟩ = some (.string (bs (S i)))
/-- A pair: its key; its value, where it lies and what it is. -/
structure PairQ where
  key : List UInt8
  a : Option Addr
  len : Nat
  cap : Nat
  val : List UInt8
/-- A row of pairs that is read. -/
def PairsAt (w : World) (a : Option Addr) (n : Nat) (Q : Nat → PairQ) : Prop := ∀ i, i < n → (∃ b o, a = some ⟨b, o, none⟩ ∧ w.cell? ⟨b, o + i * 2, none⟩ = some (.string (bs (Q i).key)) ∧ w.cell? ⟨b, o + i * 2 + 1, none⟩ = some (.slice (Q i).a (Q i).len (Q i).cap)) ∧
  Sl w (Q i).a (Q i).len (Q i).cap (Q i).val ∧ (Q i).key.length ≤ 140737488351232 ∧ (Q i).len ≤ 140737488351232
section
variable {H : Type} {enc : TypeId × Value → H} {P : Program} {w : World} {base : Nat} {held : Bool}
theorem in_strs {t e : TypeId} {fuel : Nat} {a : Option Addr} {len cap : Nat} {x : DataW H × List MemPlace} (ht : P.underlying t = some (.slice e)) (he : P.underlying e = some .string)
    (ce : P.cellsOf e = 1) (h : DataW.trod enc P w base (fun _ => true) held fuel t [.slice a len cap] = some x) : ∃ S, StrsAt w a len S ∧ len ≤ cap ∧ cap ≤ maxLen := by
  rcases Go.ChangeShapes.open_strings ht he ce h with ⟨hcs, _⟩ | ⟨y, l, c, ss, hcs, _, hl, hm, hz, _, hcell, _⟩
  · simp at hcs
    obtain ⟨rfl, rfl, rfl⟩ := hcs
    exact ⟨fun _ => [], fun k hk => by omega, Nat.zero_le _, Nat.zero_le _⟩
  · simp at hcs
    obtain ⟨rfl, rfl, rfl⟩ := hcs
    simp only [if_true] at hz
    refine ⟨fun i => (ss.getD i ByteArray.empty).data.toList, fun k hk => ?_, hl, hm⟩
    obtain ⟨xb, xo, rfl, h2⟩ := flat_addr (V := fun i => .string (ss.getD i ByteArray.empty)) (fun i (hi : i < len) => hcell i (by omega)) k hk
    refine ⟨xb, xo, rfl, ?_⟩
    rw [h2]
    rfl
theorem weights_all {e : TypeId} {l : List (DataW H)} {d : DataW H} (hd : d ∈ l) {n : Nat} (hn : n ∈ d.weights P e) : n ∈ DataW.weightsAll P e l := by
  induction l with
  | nil => cases hd
  | cons y l ih =>
    rw [DataW.weightsAll, List.mem_append]
    rcases List.mem_cons.1 hd with rfl | h
    · exact .inl hn
    · exact .inr (ih h)
theorem weights_elem {t e : TypeId} (ht : P.underlying t = some (.slice e)) {l s : List (DataW H)} {d : DataW H} (hd : d ∈ l) {n : Nat} (hn : n ∈ d.weights P e) : n ∈ (DataW.slice l s).weights P t := by
  have := weights_all hd hn
  simp [DataW.weights, ht, this]
theorem two_cellsQ {e : TypeId} {f0 f1 : Field} {n : Nat} {y : Addr} {k : Nat} {d : DataW H × List MemPlace} {cs : List Value} (he : P.underlying e = some (.struct #[f0, f1]))
    (o0 : f0.offset = 0) (o1 : f1.offset = 1) (c0 : P.cellsOf f0.type = 1) (c1 : P.cellsOf f1.type = 1)
    (h1 : w.cells? base (y.add (k * 2)) 2 = some cs) (h2 : DataW.trod enc P w base (fun _ => true) held n e cs = some d) :
    ∃ (v0 v1 : Value) (q : Nat) (y0 y1 : DataW H × List MemPlace), w.cell? (y.add (k * 2)) = some v0 ∧ w.cell? (y.add (k * 2 + 1)) = some v1 ∧ d.1 = .agg [y0.1, y1.1] ∧
      DataW.trod enc P w base (fun _ => true) held q f0.type [v0] = some y0 ∧ DataW.trod enc P w base (fun _ => true) held q f1.type [v1] = some y1 := by
  obtain ⟨_, hlen, hcell⟩ := World.cells?_some h1
  obtain ⟨y0, y1, q, rfl, _, g0, g1⟩ := Go.ChangeShapes.trod_struct2 he h2
  match cs, hlen with
  | [v0, v1], _ =>
    simp [o0, o1, c0, c1] at g0 g1
    have e0 := hcell 0 (by omega)
    have e1 := hcell 1 (by omega)
    rw [Go.Deep.add_add] at e0 e1
    exact ⟨v0, v1, q, y0, y1, by simpa using e0, by simpa using e1, rfl, g0, g1⟩
end

section
variable {H : Type} {enc : TypeId × Value → H} {w : World} {base : Nat} {held : Bool}
theorem in_pairs {fuel : Nat} {a : Option Addr} {len cap : Nat} {x : DataW H × List MemPlace} (h : DataW.trod enc Tryd.prog w base (fun _ => true) held fuel 23 [.slice a len cap] = some x)
    (hw : ∀ n ∈ x.1.weights Tryd.prog 23, n ≤ 140737488351232) : ∃ Q, PairsAt w a len Q ∧ len ≤ maxLen := by
  rcases Go.Deep.open_slice Tryd.underlying23 h with ⟨hcs, rfl⟩ | ⟨y, l, c, m, n, D, Pl, hcs, _, hl, hm, hmm, rfl, hx⟩
  · simp at hcs
    obtain ⟨rfl, rfl, rfl⟩ := hcs
    exact ⟨fun _ => ⟨[], none, 0, 0, []⟩, fun k hk => by omega, Nat.zero_le _⟩
  · simp at hcs
    obtain ⟨rfl, rfl, rfl⟩ := hcs
    have hlm : len ≤ m := by rw [hmm]; split <;> omega
    have ce : Tryd.prog.cellsOf 30 = 2 := by kernel_rfl
    rw [ce] at hx
    have each : ∀ k, k < len → ∃ z : PairQ, (w.cell? (y.add (k * 2)) = some (.string (bs z.key)) ∧ w.cell? (y.add (k * 2 + 1)) = some (.slice z.a z.len z.cap)) ∧ Sl w z.a z.len z.cap z.val ∧ z.key.length ≤ 140737488351232 ∧ z.len ≤ 140737488351232 := by
      intro k hk
      obtain ⟨cs', h1, h2⟩ := hx k (by omega)
      obtain ⟨v0, v1, q, y0, y1, e0, e1, hD, g0, g1⟩ := two_cellsQ Tryd.underlying30 rfl rfl (by kernel_rfl) (by kernel_rfl) h1 h2
      replace hD : D k = .agg [y0.1, y1.1] := hD
      have hin : D k ∈ (List.range len).map D := List.mem_map.2 ⟨k, List.mem_range.2 hk, rfl⟩
      have hwk : ∀ n, n ∈ (D k).weights Tryd.prog 30 → n ≤ 140737488351232 := fun n hn => hw n (weights_elem Tryd.underlying23 hin hn)
      rw [hD] at hwk
      have hwe : ∀ n, n ∈ y0.1.weights Tryd.prog 9 ∨ n ∈ y1.1.weights Tryd.prog 22 → n ≤ 140737488351232 := fun n hn => hwk n (by
        rw [DataW.weights, Tryd.underlying30]
        simp only [List.map_cons, List.map_nil, DataW.weightsEach, List.mem_append]
        rcases hn with h | h
        · exact .inl h
        · exact .inr (.inl h))
      obtain ⟨s, hs1, hs2, _⟩ := DataW.trod_string Tryd.underlying9 g0
      obtain ⟨kk, rfl⟩ := bs_of s
      simp only [List.cons.injEq, and_true] at hs1
      have hkey : kk.length ≤ 140737488351232 := hwe _ (.inl (by rw [hs2]; simp [DataW.weights, bs]))
      rcases Go.ChangeShapes.open_ints Tryd.underlying22 Tryd.underlying5 (by kernel_rfl) g1 with ⟨hc, _⟩ | ⟨x1, l1, c1, zs, hc, _, hl1, hm1, hz1, hy1, hcell, hwz⟩
      · simp only [List.cons.injEq, and_true] at hc
        exact ⟨⟨kk, none, 0, 0, []⟩, ⟨by rw [e0, hs1], by rw [e1, hc]⟩, ⟨rfl, Nat.le_refl _, Rd.nil _ _, fun _ => rfl, fun x e => by cases e⟩, hkey, Nat.zero_le _⟩
      · simp only [List.cons.injEq, and_true] at hc
        simp only [if_true] at hz1
        have row : IsRow .u8 w (some x1) l1 c1 zs := .inr ⟨x1, rfl, hl1, hm1, hz1, hcell, hwz⟩
        have hb1 : Tryd.prog.bytesOf 5 = 1 := by kernel_rfl
        have hlen : l1 ≤ 140737488351232 := by
          have h1 := hwe ((((Go.ChangeShapes.lits .u8 (zs.take l1) : List (DataW H))).length + (Go.ChangeShapes.lits .u8 (zs.drop l1) : List (DataW H)).length) * Tryd.prog.bytesOf 5) (.inr (by rw [hy1]; simp [DataW.weights, Tryd.underlying22]))
          rw [hb1] at h1
          simp [Go.ChangeShapes.lits] at h1
          omega
        exact ⟨⟨kk, some x1, l1, c1, byt zs l1⟩, ⟨by rw [e0, hs1], by rw [e1, hc]⟩, row.sl.1, hkey, hlen⟩
    have hz : ∃ z : Nat → PairQ, ∀ k, k < len → (w.cell? (y.add (k * 2)) = some (.string (bs (z k).key)) ∧ w.cell? (y.add (k * 2 + 1)) = some (.slice (z k).a (z k).len (z k).cap)) ∧ Sl w (z k).a (z k).len (z k).cap (z k).val ∧ (z k).key.length ≤ 140737488351232 ∧ (z k).len ≤ 140737488351232 := by
      classical
      refine ⟨fun k => if hk : k < len then Classical.choose (each k hk) else ⟨[], none, 0, 0, []⟩, fun k hk => ?_⟩
      simp only [dif_pos hk]
      exact Classical.choose_spec (each k hk)
    obtain ⟨z, hz⟩ := hz
    refine ⟨z, fun k hk => ⟨?_, (hz k hk).2⟩, Nat.le_trans hl hm⟩
    obtain ⟨xb, xo, sp⟩ := y
    cases sp with
    | none =>
      have hadd : ∀ j, (⟨xb, xo, none⟩ : Addr).add j = ⟨xb, xo + j, none⟩ := fun j => by unfold Addr.add; split <;> simp_all
      have h1 := (hz k hk).1
      rw [hadd, hadd] at h1
      exact ⟨xb, xo, rfl, h1.1, h1.2⟩
    | some q =>
      exfalso
      have c0 := (hz 0 (by omega)).1.1
      have hadd : (⟨xb, xo, some q⟩ : Addr).add (0 * 2) = ⟨xb, xo, some q⟩ := by unfold Addr.add; split <;> simp_all
      rw [hadd] at c0
      simp only [World.cell?] at c0
      split at c0
      · simp at c0
      · simp at c0
end
end Go.Proofs.YticflknfkaoejaaDoor
