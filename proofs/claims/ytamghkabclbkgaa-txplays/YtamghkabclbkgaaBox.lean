/- A variable's own block. -/
import Derived.Test.YtamghkabclbkgaaWrs
namespace Go.Proofs.Ytamghkabclbkgaa
open Go.RowKit

/-- A block of one cell, that may be written. -/
structure Box (w : World) (r : Nat) (v : Value) : Prop where
  c : w.cell? ⟨r, 0, none⟩ = some v
  z : w.frozen? ⟨r, 0, none⟩ = false
  lt : r < w.heap.size

theorem Box.new (w : World) (v : Value) (t : TypeId) : Box (w.alloc (.cells #[v] t)) w.heap.size v := by
  have h := heap_alloc_new w (.cells #[v] t)
  exact ⟨by unfold World.cell?; rw [h]; rfl, by unfold World.frozen?; rw [h]; rfl, by simp⟩
theorem Box.kept {w w' : World} {F : Nat → Prop} {r : Nat} {v : Value} (h : Box w r v) (f : Fr F w w') (n : ¬ F r) : Box w' r v :=
  ⟨f.cell' h.c n, (f.frozen h.lt n).trans h.z, Nat.lt_of_lt_of_le h.lt f.size⟩
theorem Box.alloc {w : World} {r : Nat} {v : Value} (h : Box w r v) (o : Obj) : Box (w.alloc o) r v := h.kept ((Fr.refl (fun _ => False) w).alloc o) (fun x => x)
theorem Box.other {w : World} {r : Nat} {v : Value} (h : Box w r v) {a : Addr} (ha : r ≠ a.block) (u : Value) : Box (w.setCell a u) r v :=
  h.kept ((Fr.refl (fun k => k = a.block) w).setCell (.inl rfl) u) ha
theorem Box.set {w : World} {r : Nat} {v : Value} (h : Box w r v) (u : Value) : Box (w.setCell ⟨r, 0, none⟩ u) r u :=
  ⟨World.cell?_setCell_same _ _ _ h.c, by rw [World.frozen?_setCell]; exact h.z, by simpa using h.lt⟩

/-- The fuse is set. -/
theorem d_fuse {w : World} {b : Nat} {L : Lay} {A : Ab} {N : Nat} {free : Prop} {s : Int} {f : Nat → Int} (d : DevL w b L A) (h : Calm N free A s f) (k : Int) (hk : k < 9223372036854775808) :
    Calls Try.prog 28 #[ptr b, .int .i64 k] w fun e w' => e = .returned (.tuple #[]) ∧ Fr (fun r => r = b) w w' ∧ DevL w' b L { A with fuse := k } ∧ Calm N False { A with fuse := k } s f := by
  refine (fuse_any b k A.fuse w d.c5 (d.zb 5)).mono ?_
  rintro e w' ⟨rfl, rfl⟩
  exact ⟨rfl, (Fr.refl (fun r => r = b) w).setCell (.inl rfl) _, d.setFuse k, { h with big := hk, fz := fun x => x.elim }⟩
end Go.Proofs.Ytamghkabclbkgaa
