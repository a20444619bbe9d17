/- Guards about an act. -/
import Derived.Test.YtebfocfofoajkabDeed
import Derived.Test.YtebfocfofoajkabAwake
namespace Go.Proofs.Ytebfocfofoajkab
open Go.RowKit

theorem enters18 : Enters 18 := fun _ _ => by kernel_rfl

/-- The function value that does makes. -/
abbrev deedF (pn pa : Nat) : Value := .func (.func 18) #[] #[ptr pn, ptr pa]

/-- Where an act's function value lies, and what its counter holds. -/
structure Lies (a : Deed) (pn pa c : Nat) (x : Int) (w : World) : Prop where
  ha : w.heap[pa]? = some a.obj
  hn : w.heap[pn]? = some (.cells #[ptr c] 27)
  hc : w.heap[c]? = some (.cells #[.int .i64 x] 3)
  hx : 0 ≤ x ∧ x < 1000000
  ac : pa ≠ c
  nc : pn ≠ c

theorem Lies.keep {a : Deed} {pn pa c : Nat} {x : Int} {w w' : World} {F : Nat → Prop} (l : Lies a pn pa c x w) (fr : Fr F w w') (h1 : ¬ F pa) (h2 : ¬ F pn) (h3 : ¬ F c) : Lies a pn pa c x w' :=
  ⟨fr.obj l.ha h1, fr.obj l.hn h2, fr.obj l.hc h3, l.hx, l.ac, l.nc⟩

theorem Lies.runs {a : Deed} {pn pa c : Nat} {x : Int} {w : World} (l : Lies a pn pa c x w) :
    Runs (deedF pn pa) w fun h w' => Fr (fun k => k = c) w w' ∧ w'.heap[c]? = some (.cells #[.int .i64 (x + 1)] 3) ∧ a.tells w.heap.size h w' :=
  runs_of enters18 (does1_ok a l.ha l.hn l.hc l.hx l.ac)

theorem try_deed {a : Deed} {pn pa c : Nat} {x : Int} {w : World} (l : Lies a pn pa c x w) :
    Calls Try.prog 13 #[deedF pn pa] w fun e w' => ∃ h, e = .returned (.tuple #[h.v, .bool h.is]) ∧ Fr (fun k => k = c) w w' ∧ w'.heap[c]? = some (.cells #[.int .i64 (x + 1)] 3) ∧ a.tells (w.heap.size + 1) h w' := by
  have fb : Still w (w.alloc box) := (Fr.refl _ w).alloc box
  have lt := lt_of_obj l.hc
  refine try_fr (F := fun k => k = c) (S := fun h w' => w'.heap[c]? = some (.cells #[.int .i64 (x + 1)] 3) ∧ a.tells (w.heap.size + 1) h w') (fun k e => by subst e; exact lt) ((l.keep fb (fun h => h) (fun h => h) (fun h => h)).runs.mono ?_)
  rintro h w1 ⟨fr, hc, t⟩
  refine ⟨fr, fun w2 f2 => ⟨f2.obj hc (by omega), ?_⟩⟩
  rw [World.size_alloc] at t
  exact t.keep f2 (fun k e => by omega)

theorem does_lies (a : Deed) {c : Nat} {x : Int} {w : World} (hc : w.heap[c]? = some (.cells #[.int .i64 x] 3)) (hx : 0 ≤ x ∧ x < 1000000) :
    Calls Try.prog 6 #[a.val, ptr c] w fun e w' => ∃ pn pa, e = .returned (deedF pn pa) ∧ Still w w' ∧ Lies a pn pa c x w' ∧ w.heap.size ≤ pn ∧ w.heap.size ≤ pa := by
  refine (does_ok a c w).mono ?_
  rintro e w' ⟨rfl, rfl⟩
  have lt := lt_of_obj hc
  have f1 : Still w (w.alloc a.obj) := (Fr.refl _ w).alloc _
  have f2 : Still (w.alloc a.obj) ((w.alloc a.obj).alloc (.cells #[ptr c] 27)) := (Fr.refl _ _).alloc _
  refine ⟨_, _, rfl, f1.trans f2, ⟨f2.obj (obj_alloc_new w a.obj) (fun h => h), ?_, (f1.trans f2).obj hc (fun h => h), hx, by omega, by omega⟩, by omega, by omega⟩
  have := obj_alloc_new (w.alloc a.obj) (.cells #[ptr c] 27)
  rwa [World.size_alloc] at this

theorem Lies.next {a : Deed} {pn pa c : Nat} {x : Int} {w w' : World} (l : Lies a pn pa c x w) (fr : Fr (fun k => k = c) w w') (hc : w'.heap[c]? = some (.cells #[.int .i64 (x + 1)] 3)) (hx : x + 1 < 1000000) : Lies a pn pa c (x + 1) w' :=
  ⟨fr.obj l.ha l.ac, fr.obj l.hn l.nc, hc, by have := l.hx; omega, l.ac, l.nc⟩

/-- Try of nil. -/
theorem try_nil (w : World) : Calls Try.prog 13 #[.nilFunc] w fun e w' => ∃ h : How, e = .returned (.tuple #[h.v, .bool h.is]) ∧ Still w w' ∧ h = .well :=
  try_fr (F := fun _ => False) (S := fun h _ => h = .well) (fun _ h => h.elim) (.inl ⟨rfl, Fr.refl _ _, fun _ _ => rfl⟩)
end Go.Proofs.Ytebfocfofoajkab
