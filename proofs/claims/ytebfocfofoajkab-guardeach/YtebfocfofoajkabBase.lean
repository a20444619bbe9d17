/- What a call leaves alone; how a call of a function without results ends; what it is to run a function value. -/
import Derived.WalkKit
import Derived.WalkSpells
import Derived.WalkLawsBesides
import Derived.Handy
import Derived.Defers
import Derived.Recover
import Derived.Test.YtebfocfofoajkabRows
namespace Go.Proofs.Ytebfocfofoajkab
open Go.RowKit

abbrev ptr (b : Nat) : Value := .pointer (some ⟨b, 0, none⟩)

theorem hide {p : Prop} (h : p) : Hid p := h
theorem unhide {p : Prop} (h : Hid p) : p := h

/-- Of the blocks that were there only those in F may have turned. -/
structure Fr (F : Nat → Prop) (w w' : World) : Prop where
  os : w'.os = w.os
  tape : w'.tape = w.tape
  output : w'.output = w.output
  size : w.heap.size ≤ w'.heap.size
  block : ∀ k, k < w.heap.size → ¬ F k → w'.heap[k]? = w.heap[k]?

/-- No old block turned. -/
abbrev Still (w w' : World) : Prop := Fr (fun _ => False) w w'

theorem Fr.refl (F : Nat → Prop) (w : World) : Fr F w w := ⟨rfl, rfl, rfl, Nat.le_refl _, fun _ _ _ => rfl⟩

/-- A step whose own writes lie in G: each block of G is one of F or new. -/
theorem Fr.trans' {F G : Nat → Prop} {a b c : World} (h : Fr F a b) (k : Fr G b c) (hG : ∀ k, G k → F k ∨ a.heap.size ≤ k) : Fr F a c :=
  ⟨k.os.trans h.os, k.tape.trans h.tape, k.output.trans h.output, Nat.le_trans h.size k.size, fun i hi hF =>
    (k.block i (Nat.lt_of_lt_of_le hi h.size) (fun g => by rcases hG i g with h1 | h1; exact hF h1; omega)).trans (h.block i hi hF)⟩
theorem Fr.trans {F : Nat → Prop} {a b c : World} (h : Fr F a b) (k : Fr F b c) : Fr F a c := h.trans' k fun _ => .inl
theorem Fr.mono {F G : Nat → Prop} {a b : World} (h : Fr F a b) (hG : ∀ k, F k → G k ∨ a.heap.size ≤ k) : Fr G a b := (Fr.refl G a).trans' h hG
theorem Fr.alloc {F : Nat → Prop} {a w : World} (h : Fr F a w) (o : Obj) : Fr F a (w.alloc o) :=
  h.trans ⟨rfl, rfl, rfl, by simp, fun k hk _ => Below.heap_alloc _ _ _ (by omega)⟩
theorem Fr.setCell {F : Nat → Prop} {a w : World} (h : Fr F a w) {p : Addr} (hp : F p.block ∨ a.heap.size ≤ p.block) (u : Value) : Fr F a (w.setCell p u) :=
  h.trans' (G := fun k => k = p.block) ⟨rfl, rfl, rfl, by simp [World.setCell], fun k _ hk => Below.heap_setCell _ _ _ _ hk⟩ (fun k e => by subst e; exact hp)
theorem Fr.drew {F : Nat → Prop} {a w : World} (h : Fr F a w) : Fr F a w.drew := ⟨h.os, h.tape, h.output, h.size, h.block⟩
theorem Fr.drewN {F : Nat → Prop} {a w : World} (h : Fr F a w) (n : Nat) : Fr F a (w.drewN n) := ⟨h.os, h.tape, h.output, h.size, h.block⟩
theorem Fr.undrew {F : Nat → Prop} {a w : World} (h : Fr F a.drew w) : Fr F a w := ⟨h.os, h.tape, h.output, h.size, h.block⟩
theorem Fr.grown {F : Nat → Prop} {a w w' : World} {r : Option Nat} (h : Fr F a w) (hg : w.grownBy w' r) (hr : ∀ k, r = some k → F k ∨ a.heap.size ≤ k) : Fr F a w' :=
  h.trans' (G := fun k => some k = r) ⟨hg.os, hg.tape, hg.output, hg.size, fun k hk hn => hg.block k hk hn⟩ (fun k e => hr k e.symm)
theorem Fr.cell {F : Nat → Prop} {w w' : World} (h : Fr F w w') {p : Addr} (hp : p.block < w.heap.size) (hF : ¬ F p.block) : w'.cell? p = w.cell? p := World.cell?_of_block (h.block _ hp hF)
theorem Fr.cell' {F : Nat → Prop} {w w' : World} (h : Fr F w w') {p : Addr} {v : Value} (hv : w.cell? p = some v) (hF : ¬ F p.block) : w'.cell? p = some v :=
  (h.cell (World.block_lt_of_cell? w p hv) hF).trans hv
theorem Fr.obj {F : Nat → Prop} {w w' : World} (h : Fr F w w') {k : Nat} {o : Obj} (hv : w.heap[k]? = some o) (hF : ¬ F k) : w'.heap[k]? = some o :=
  (h.block k (by rcases Nat.lt_or_ge k w.heap.size with hk | hk; exact hk; rw [Array.getElem?_eq_none hk] at hv; cases hv) hF).trans hv
theorem Fr.below {F : Nat → Prop} {w w' : World} (h : Fr F w w') {B : Nat} (hB : B ≤ w.heap.size) (hF : ∀ k, F k → B ≤ k) : Below B w w' :=
  ⟨h.os, h.tape, h.output, h.size, fun k hk => h.block k (by omega) (fun f => by have := hF k f; omega)⟩
theorem Fr.ofBelow {w w' : World} (h : Below w.heap.size w w') : Still w w' := ⟨h.os, h.tape, h.output, h.size, fun k hk _ => h.block k hk⟩

theorem lt_of_obj {w : World} {k : Nat} {o : Obj} (hv : w.heap[k]? = some o) : k < w.heap.size := by
  rcases Nat.lt_or_ge k w.heap.size with hk | hk
  · exact hk
  · rw [Array.getElem?_eq_none hk] at hv; cases hv
theorem cell_of_obj {w : World} {k : Nat} {cs : Array Value} {t : Nat} {z : Nat × Nat} (h : w.heap[k]? = some (.cells cs t z)) (i : Nat) : w.cell? ⟨k, i, none⟩ = cs[i]? := by
  simp [World.cell?, h]
theorem frozen_of_obj {w : World} {k : Nat} {cs : Array Value} {t : Nat} (h : w.heap[k]? = some (.cells cs t)) (i : Nat) : w.frozen? ⟨k, i, none⟩ = false := by
  simp [World.frozen?, h]
theorem obj_alloc_new (w : World) (o : Obj) : (w.alloc o).heap[w.heap.size]? = some o := heap_alloc_new w o

/-- How a call of a function without results ended: well (none), or by a panic with a value of a type. -/
structure How where
  o : Option (Nat × Value)

abbrev How.well : How := ⟨none⟩
abbrev How.bad (t : Nat) (x : Value) : How := ⟨some (t, x)⟩

theorem How.byCases {motive : How → Prop} (h : How) (well : motive .well) (bad : ∀ t x, motive (.bad t x)) : motive h := by
  obtain ⟨o⟩ := h
  rcases o with _ | ⟨t, x⟩
  · exact well
  · exact bad t x

/-- What a guard tells of it. -/
def How.v (h : How) : Value :=
  match h.o with
  | none => .nilIface
  | some (t, x) => .iface t x
def How.is (h : How) : Bool :=
  match h.o with
  | none => false
  | some _ => true
/-- The call's end. -/
def How.ended (h : How) (e : Ending) : Prop :=
  match h.o with
  | none => e = .returned (.tuple #[])
  | some (t, x) => ∃ older, (∀ y ∈ older, y.goexit = false) ∧ e = .panicked ({ v := .iface t x, recovered := false } :: older)

theorem How.ended_one (t : Nat) (x : Value) : (How.bad t x).ended (.panicked [{ v := .iface t x, recovered := false }]) := ⟨[], by simp, rfl⟩

/-- Function g has a body: a call of it enters it. -/
def Enters (g : Nat) : Prop := ∀ (args : Array Value) (w : World), (callFunc g args).run Try.prog w = .ok (.enter g args) w

/-- The function value f is nil or is run from w so that R tells how it ended and what the world is then. -/
def Runs (f : Value) (w : World) (R : How → World → Prop) : Prop :=
  (f = .nilFunc ∧ R .well w) ∨ ∃ g first cap, f = .func (.func g) first cap ∧ Enters g ∧ Calls Try.prog g (first ++ cap) w fun e w' => ∃ h, h.ended e ∧ R h w'

theorem Runs.mono {f : Value} {w : World} {R R' : How → World → Prop} (h : Runs f w R) (hr : ∀ h w', R h w' → R' h w') : Runs f w R' := by
  rcases h with ⟨rfl, h⟩ | ⟨g, first, cap, rfl, he, h⟩
  · exact .inl ⟨rfl, hr _ _ h⟩
  · exact .inr ⟨g, first, cap, rfl, he, h.mono fun e w' ⟨x, h1, h2⟩ => ⟨x, h1, hr _ _ h2⟩⟩
theorem runs_of {g : Nat} {first cap : Array Value} {w : World} {R : How → World → Prop} (he : Enters g) (h : Calls Try.prog g (first ++ cap) w fun e w' => ∃ h, h.ended e ∧ R h w') : Runs (.func (.func g) first cap) w R :=
  .inr ⟨g, first, cap, rfl, he, h⟩

theorem settle_bad {t : Nat} {x : Value} {older : List PanicEntry} (h : ∀ y ∈ older, y.goexit = false) : settle (.panicking ({ v := .iface t x, recovered := true } :: older)) = .returning := by
  have e : older.dropWhile (fun y => !y.goexit) = [] := by
    induction older with
    | nil => rfl
    | cons a l ih => rw [List.dropWhile_cons_of_pos (by simp [h a (by simp)])]; exact ih fun y hy => h y (by simp [hy])
  simp [settle, e]
end Go.Proofs.Ytebfocfofoajkab
