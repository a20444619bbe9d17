/- What a call leaves alone; rows of bytes in memory; texts. -/
import Derived.WalkKit
import Derived.WalkSpells
import Derived.WalkLawsBesides
import Derived.Handy
import Derived.Laws.MakeOwn
import Derived.Laws.CopyOwn
import Derived.LoopTactic
import Derived.BigQuiet
import Derived.BigRegion
import Derived.StillTail
import Derived.Below
import Derived.OwnWalk
import Derived.Deep.OwnRows
import Derived.Deep.RegionHeld3
import Derived.Deep.CutBlock
import Derived.Maps.AppendAt
import Derived.Laws.AppendOwnNone
import Derived.Sort.Walk0
import Derived.Deep.RegionHeld
import Derived.Test.YticflknfkaoejaaDoorRows
namespace Go.Proofs.YticflknfkaoejaaDoor
open Go.RowKit

theorem hide {p : Prop} (h : p) : Hid p := h
theorem unhide {p : Prop} (h : Hid p) : p := h

/-- Of the blocks that were there only those in F may have turned. -/
structure Fr (F : Nat → Prop) (w w' : World) : Prop where
  os : w'.os = w.os
  tape : w'.tape = w.tape
  output : w'.output = w.output
  size : w.heap.size ≤ w'.heap.size
  block : ∀ k, k < w.heap.size → ¬ F k → w'.heap[k]? = w.heap[k]?

theorem Fr.refl (F : Nat → Prop) (w : World) : Fr F w w := ⟨rfl, rfl, rfl, Nat.le_refl _, fun _ _ _ => rfl⟩

/-- A step whose own writes lie in G: each block of G is one of F or new. -/
theorem Fr.trans' {F G : Nat → Prop} {a b c : World} (h : Fr F a b) (k : Fr G b c) (hG : ∀ k, G k → F k ∨ a.heap.size ≤ k) : Fr F a c :=
  ⟨k.os.trans h.os, k.tape.trans h.tape, k.output.trans h.output, Nat.le_trans h.size k.size, fun i hi hF =>
    (k.block i (Nat.lt_of_lt_of_le hi h.size) (fun g => by rcases hG i g with h1 | h1; exact hF h1; omega)).trans (h.block i hi hF)⟩
theorem Fr.trans {F : Nat → Prop} {a b c : World} (h : Fr F a b) (k : Fr F b c) : Fr F a c := h.trans' k fun _ => .inl
theorem Fr.mono {F G : Nat → Prop} {a b : World} (h : Fr F a b) (hG : ∀ k, F k → G k ∨ a.heap.size ≤ k) : Fr G a b := (Fr.refl G a).trans' h hG
theorem Fr.alloc {F : Nat → Prop} {a w : World} (h : Fr F a w) (o : Obj) : Fr F a (w.alloc o) :=
  h.trans ⟨rfl, rfl, rfl, by simp, fun k hk _ => Below.heap_alloc _ _ _ (by omega)⟩
theorem Fr.setCell {F : Nat → Prop} {a w : World} (h : Fr F a w) {p : Addr} (hp : F p.block ∨ a.heap.size ≤ p.block) (u : Value) : Fr F a (w.setCell p u) :=
  h.trans' (G := fun k => k = p.block) ⟨rfl, rfl, rfl, by simp [World.setCell], fun k _ hk => Below.heap_setCell _ _ _ _ hk⟩ (fun k e => by subst e; exact hp)
theorem Fr.drew {F : Nat → Prop} {a w : World} (h : Fr F a w) : Fr F a w.drew := ⟨h.os, h.tape, h.output, h.size, h.block⟩
theorem Fr.drewN {F : Nat → Prop} {a w : World} (h : Fr F a w) (n : Nat) : Fr F a (w.drewN n) := ⟨h.os, h.tape, h.output, h.size, h.block⟩
theorem Fr.grown {F : Nat → Prop} {a w w' : World} {r : Option Nat} (h : Fr F a w) (hg : w.grownBy w' r) (hr : ∀ k, r = some k → F k ∨ a.heap.size ≤ k) : Fr F a w' :=
  h.trans' (G := fun k => some k = r) ⟨hg.os, hg.tape, hg.output, hg.size, fun k hk hn => hg.block k hk hn⟩ (fun k e => hr k e.symm)
theorem Fr.cell {F : Nat → Prop} {w w' : World} (h : Fr F w w') {p : Addr} (hp : p.block < w.heap.size) (hF : ¬ F p.block) : w'.cell? p = w.cell? p := World.cell?_of_block (h.block _ hp hF)
theorem Fr.cell' {F : Nat → Prop} {w w' : World} (h : Fr F w w') {p : Addr} {v : Value} (hv : w.cell? p = some v) (hF : ¬ F p.block) : w'.cell? p = some v :=
  (h.cell (World.block_lt_of_cell? w p hv) hF).trans hv
theorem Fr.below {F : Nat → Prop} {w w' : World} (h : Fr F w w') {B : Nat} (hB : B ≤ w.heap.size) (hF : ∀ k, F k → B ≤ k) : Below B w w' :=
  ⟨h.os, h.tape, h.output, h.size, fun k hk => h.block k (by omega) (fun f => by have := hF k f; omega)⟩
theorem Fr.ofBelow {w w' : World} (h : Below w.heap.size w w') : Fr (fun _ => False) w w' := ⟨h.os, h.tape, h.output, h.size, fun k hk _ => h.block k hk⟩

abbrev Still (w w' : World) : Prop := Fr (fun _ => False) w w'
theorem Fr.obj {F : Nat → Prop} {w w' : World} (h : Fr F w w') {k : Nat} {o : Obj} (hv : w.heap[k]? = some o) (hF : ¬ F k) : w'.heap[k]? = some o :=
  (h.block k (by rcases Nat.lt_or_ge k w.heap.size with hk | hk; exact hk; rw [Array.getElem?_eq_none hk] at hv; cases hv) hF).trans hv
theorem cell_of_obj {w : World} {k : Nat} {cs : Array Value} {t : Nat} {z : Nat × Nat} (h : w.heap[k]? = some (.cells cs t z)) (i : Nat) : w.cell? ⟨k, i, none⟩ = cs[i]? := by
  simp [World.cell?, h]
theorem frozen_of_obj {w : World} {k : Nat} {cs : Array Value} {t : Nat} (h : w.heap[k]? = some (.cells cs t)) (i : Nat) : w.frozen? ⟨k, i, none⟩ = false := by
  simp [World.frozen?, h]
theorem drew_add (w : World) (a b : Nat) : (w.drewN a).drewN b = w.drewN (a + b) := by simp [World.drewN, Nat.add_assoc]
theorem owns_same {w w' : World} {base : Nat} {e : TypeId} {size : Nat} {v : Value} {n : Nat} {xs : List Value} (h : w.ownsRow base e size v n xs) (hb : ∀ k, v.ownBlock = some k → w'.heap[k]? = w.heap[k]?) : w'.ownsRow base e size v n xs := by
  refine ⟨h.1, ?_⟩
  rcases h.2 with hn | ⟨g, cap, cur, rfl, hg, hgg, rest⟩
  · exact .inl hn
  · exact .inr ⟨g, cap, cur, rfl, hg, by rw [hb g rfl]; exact hgg, rest⟩

theorem rows_form {t : TypeId} {w : World} {base n : Nat} {v : Value} {xs : List Value} (h : w.ownsRow base t 1 v n xs) : ∃ pa pc, v = .slice pa n pc := by
  rcases h.2 with ⟨hv, hn⟩ | ⟨g, cap, cur, hv, _⟩
  · exact ⟨none, 0, by rw [hn]; exact hv⟩
  · exact ⟨_, cap, hv⟩

abbrev ptr (b : Nat) : Value := .pointer (some ⟨b, 0, none⟩)
abbrev iv (x : Int) : Value := .int .i64 x
/-- A byte, as a value. -/
abbrev bv (c : UInt8) : Value := .int .u8 (c.toNat : Int)
theorem infoB : (Tryd.prog.info? 5).map (fun i => (i.zero, i.size, i.bytes)) = some (some (.int .u8 0), 1, 1) := by kernel_rfl

/-- A row of bytes that is read. -/
def Rd (w : World) (a : Option Addr) (l : List UInt8) : Prop := ∀ i, i < l.length → ∃ b o, a = some ⟨b, o, none⟩ ∧ w.cell? ⟨b, o + i, none⟩ = some (bv (l.getD i 0))
theorem Rd.on {w w' : World} {a : Option Addr} {l : List UInt8} {F : Nat → Prop} (h : Rd w a l) (f : Fr F w w') (hF : ∀ b o, a = some ⟨b, o, none⟩ → ¬ F b) : Rd w' a l := fun i hi => by
  obtain ⟨b, o, e, c⟩ := h i hi
  exact ⟨b, o, e, f.cell' c (hF b o e)⟩
theorem Rd.still {w w' : World} {a : Option Addr} {l : List UInt8} (h : Rd w a l) (f : Still w w') : Rd w' a l := h.on f fun _ _ _ x => x
theorem Rd.nil (w : World) (a : Option Addr) : Rd w a [] := fun i hi => by simp at hi
/-- Where a slice begins that leaves out its first l. -/
def cutA (a : Option Addr) (cap l : Nat) : Option Addr := if cap = l then a else a.map (·.add (l * 1))
theorem Rd.drop {w : World} {a : Option Addr} {l : List UInt8} (h : Rd w a l) (n cap : Nat) (hc : l.length ≤ cap) : Rd w (cutA a cap n) (l.drop n) := fun i hi => by
  rw [List.length_drop] at hi
  obtain ⟨b, o, rfl, c⟩ := h (n + i) (by omega)
  unfold cutA
  rw [if_neg (by omega)]
  have hadd : (⟨b, o, none⟩ : Addr).add (n * 1) = ⟨b, o + n, none⟩ := by unfold Addr.add; split <;> simp_all
  refine ⟨b, o + n, by simp only [Option.map_some, hadd], ?_⟩
  rw [Nat.add_assoc, c]
  simp
theorem Rd.take {w : World} {a : Option Addr} {l : List UInt8} (h : Rd w a l) (n : Nat) : Rd w a (l.take n) := fun i hi => by
  rw [List.length_take] at hi
  obtain ⟨b, o, rfl, c⟩ := h i (by omega)
  refine ⟨b, o, rfl, ?_⟩
  rw [c]
  simp [show i < n by omega]
theorem slice_run (a : Option Addr) (len cap l : Nat) (k : IntKind) (w : World) (hl : l ≤ len) : (Instr.slice 22 (.slice a len cap) (some (.int k (l : Nat))) none none).run Tryd.prog w = .ok (.slice (cutA a cap l) (len - l) (cap - l)) w := by
  obtain ⟨i, hi, hzz⟩ := Option.map_eq_some_iff.1 infoB
  simp only [Prod.mk.injEq] at hzz
  have he : Tryd.prog.elem 22 = 5 := by kernel_rfl
  have hs : (sizeOf 5).run Tryd.prog w = .ok 1 w := by simp [sizeOf, typeInfo, hi, hzz.2.1]
  rw [run_slice_l (P := Tryd.prog) w 22 a len cap (by rw [he]; exact Tryd.underlying22) k (l : Nat) (by omega) (by omega), he, hs]
  simp [Result.andThen, sliced, cutA]
theorem slice_to (a : Option Addr) (len cap h : Nat) (k : IntKind) (w : World) (hh : h ≤ cap) : (Instr.slice 22 (.slice a len cap) none (some (.int k (h : Nat))) none).run Tryd.prog w = .ok (.slice a h cap) w := by
  obtain ⟨i, hi, hzz⟩ := Option.map_eq_some_iff.1 infoB
  simp only [Prod.mk.injEq] at hzz
  have he : Tryd.prog.elem 22 = 5 := by kernel_rfl
  have hs : (sizeOf 5).run Tryd.prog w = .ok 1 w := by simp [sizeOf, typeInfo, hi, hzz.2.1]
  have ha : a.map (fun x : Addr => x.add 0) = a := by
    cases a with
    | none => rfl
    | some x => obtain ⟨b, o, s⟩ := x; simp [Addr.add]
  rw [run_slice_h (P := Tryd.prog) w 22 a len cap (by rw [he]; exact Tryd.underlying22) k (h : Nat) (by omega) (by omega), he, hs]
  simp [Result.andThen, sliced, ha]

/-- A row of bytes of one's own. -/
def Own (w : World) (base : Nat) (v : Value) (l : List UInt8) : Prop := w.ownsRow base 5 1 v l.length (l.map bv)
theorem Own.nil (w : World) (base : Nat) : Own w base (.slice none 0 0) [] := World.ownsRow_nil _ _ _ _
theorem Own.still {w w' : World} {base : Nat} {v : Value} {l : List UInt8} {F : Nat → Prop} (h : Own w base v l) (f : Fr F w w') (hF : ∀ k, v.ownBlock = some k → ¬ F k) : Own w' base v l :=
  owns_same h fun k hk => f.block k (h.lt k hk).2 (hF k hk)
theorem Own.from {w : World} {base base' : Nat} {v : Value} {l : List UInt8} (h : Own w base v l) (hb : base' ≤ base) : Own w base' v l := by
  refine ⟨h.1, ?_⟩
  rcases h.2 with hn | ⟨g, cap, cur, hv, hg, rest⟩
  · exact .inl hn
  · exact .inr ⟨g, cap, cur, hv, Nat.le_trans hb hg, rest⟩
/-- What it is: nil, or a block. -/
theorem Own.form {w : World} {base : Nat} {v : Value} {l : List UInt8} (h : Own w base v l) : (v = .slice none 0 0 ∧ l = []) ∨
    ∃ g cap, v = .slice (some ⟨g, 0, none⟩) l.length cap ∧ l.length ≤ cap ∧ base ≤ g ∧ g < w.heap.size ∧ (∀ i, i < l.length → w.cell? ⟨g, i, none⟩ = some (bv (l.getD i 0))) ∧ ∀ i, w.frozen? ⟨g, i, none⟩ = false := by
  rcases h.2 with ⟨hv, hn⟩ | ⟨g, cap, cur, hv, hb, hg, hc, _, hs, hcur⟩
  · exact .inl ⟨hv, List.length_eq_zero_iff.1 hn⟩
  · refine .inr ⟨g, cap, hv, hc, hb, (Array.getElem?_eq_some_iff.1 hg).1, fun i hi => ?_, fun i => ?_⟩
    · have h1 : w.ownsRow base 5 1 (.slice (some ⟨g, 0, none⟩) l.length cap) l.length (l.map bv) := hv ▸ h
      rw [h1.cellAt i (by omega)]
      simp [hi]
    · simp [World.frozen?, hg]
theorem Own.rd {w : World} {base : Nat} {v : Value} {l : List UInt8} (h : Own w base v l) : ∃ a cap, v = .slice a l.length cap ∧ l.length ≤ cap ∧ Rd w a l ∧ (∀ b o, a = some ⟨b, o, none⟩ → base ≤ b ∧ b < w.heap.size ∧ v.ownBlock = some b ∧ o = 0) ∧ (a = none → cap = 0 ∧ l = []) ∧ ∀ x, a = some x → ∃ b o, x = ⟨b, o, none⟩ := by
  rcases h.form with ⟨hv, hn⟩ | ⟨g, cap, hv, hc, hb, hg, hcell, _⟩
  · subst hn; exact ⟨none, 0, hv, Nat.le_refl _, Rd.nil _ _, (fun b o e => by cases e), (fun _ => ⟨rfl, rfl⟩), fun x e => by cases e⟩
  · exact ⟨some ⟨g, 0, none⟩, cap, hv, hc, fun i hi => ⟨g, 0, rfl, by rw [Nat.zero_add]; exact hcell i hi⟩, (fun b o e => by cases e; exact ⟨hb, hg, by rw [hv]; rfl, rfl⟩), (fun e => by cases e), fun x e => by cases e; exact ⟨g, 0, rfl⟩⟩
/-- Bytes built in a row of memory of its own. -/
theorem Own.built (w : World) (l : List UInt8) (n : Nat) (hn : n = l.length) (hl : l.length ≤ 1000000) : Own (w.alloc (.cells (l.map bv).toArray 5)) w.heap.size (.slice (some ⟨w.heap.size, 0, none⟩) n n) l := by
  subst hn
  exact ⟨by simp, .inr ⟨w.heap.size, l.length, (l.map bv).toArray, rfl, Nat.le_refl _, heap_alloc_new w _, Nat.le_refl _, by unfold maxLen; omega, by simp, by rw [Nat.mul_one]; simp [List.take_of_length_le]⟩⟩
/-- One of its bytes turned. -/
theorem Own.set {w : World} {base g n cap : Nat} {l : List UInt8} (h : Own w base (.slice (some ⟨g, 0, none⟩) n cap) l) (i : Nat) (x : UInt8) :
    Own (w.setCell ⟨g, i, none⟩ (bv x)) base (.slice (some ⟨g, 0, none⟩) n cap) (l.set i x) := by
  refine ⟨by simp, ?_⟩
  rcases h.2 with ⟨hv, hn⟩ | ⟨g', cap', cur, hv, hb, hg, hc, hm, hs, hcur⟩
  · cases hv
  · injection hv with hv1 hv2 hv3
    injection hv1 with hv1
    injection hv1 with hv1
    subst hv1; subst hv2; subst hv3
    refine .inr ⟨g, cap, cur.setIfInBounds i (bv x), by simp, hb, ?_, by simpa using hc, hm, by simpa using hs, ?_⟩
    · simp [World.setCell, Array.getElem?_modify, hg]
    · simp only [Nat.mul_one, List.length_set] at *
      rw [Array.toList_setIfInBounds, List.take_set, hcur]
      simp [List.map_set]
/-- A row of bytes behind one of one's own: how the append runs. -/
theorem run_cat (w : World) (base : Nat) (v : Value) (l : List UInt8) (hown : Own w base v l) (xa : Option Addr) (xl xc : Nat) (m : List UInt8) (hx : Rd w xa m) (hxl : xl = m.length) (hxn : xa = none → xl = 0 ∧ xc = 0) (hl : l.length + m.length ≤ 100000000) (hbase : base ≤ w.heap.size) :
    ∃ v' w', (Builtin.append_ #[22, 22] 22 #[v, .slice xa xl xc]).run Tryd.prog w = .ok v' w' ∧ Own w' base v' (l ++ m) ∧ Fr (fun k => v.ownBlock = some k) w w' ∧ (v'.ownBlock = v.ownBlock ∨ v'.ownBlock = some w.heap.size) := by
  obtain ⟨i, hi, hzz⟩ := Option.map_eq_some_iff.1 infoB
  simp only [Prod.mk.injEq] at hzz
  obtain ⟨hz, hsize, hby⟩ := hzz
  subst hxl
  cases xa with
  | none =>
    obtain ⟨e1, e2⟩ := hxn rfl
    obtain rfl : m = [] := List.length_eq_zero_iff.1 e1
    subst e2
    exact ⟨v, w, run_append_owned_none (P := Tryd.prog) (w := w) base 22 22 5 i 1 Tryd.underlying22 hi v _ _ hown, by simpa using hown, Fr.refl _ _, .inl rfl⟩
  | some ad =>
    obtain ⟨v', w', hr, h2, h3, _, h5⟩ := run_append_own_at (P := Tryd.prog) w base 22 22 5 i (.int .u8 0) 1 1 Tryd.underlying22 hi hz hsize hby rfl (by decide) v l.length _ hown ad m.length xc (m.map bv) (by simp)
      (fun j u hu => by
        have hj : j < m.length := by have := (List.getElem?_eq_some_iff.1 hu).1; simpa using this
        obtain ⟨xb, xo, e, c⟩ := hx j hj
        cases e
        have hadd : (⟨xb, xo, none⟩ : Addr).add j = ⟨xb, xo + j, none⟩ := by unfold Addr.add; split <;> simp_all
        rw [hadd, c, ← hu]
        simp [hj])
      (by intro u hu; simp at hu; obtain ⟨_, _, rfl⟩ := hu; rfl) (by unfold maxLen; omega) (by omega) hbase
    refine ⟨v', w', hr, ?_, (Fr.refl _ w).grown h3 (fun r e => .inl e), h5⟩
    unfold Own
    rw [List.length_append, List.map_append]
    exact h2
end Go.Proofs.YticflknfkaoejaaDoor
