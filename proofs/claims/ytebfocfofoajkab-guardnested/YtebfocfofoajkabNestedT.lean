/- GuardNested's outer closure, tried. -/
import Derived.Test.YtebfocfofoajkabNestedC
namespace Go.Proofs.Ytebfocfofoajkab
open Go.RowKit

/-- How Errno about an act ended, and what it told. -/
def Deed.errnoed (a : Deed) (B : Nat) (h : How) (y : Int) (w : World) : Prop :=
  (a.kind = 3 ∧ h = .well ∧ y = a.n) ∨ (a.bad = false ∧ h = .well ∧ y = 0) ∨ (a.kind ≠ 3 ∧ a.bad = true ∧ a.tells B h w ∧ y = 0)

abbrev cap14 (s : Nat) : Array Value := #[ptr s, ptr (s + 2), ptr (s + 4), ptr (s + 5), ptr (s + 1), ptr (s + 3), ptr (s + 6)]

theorem nested2_errno {s : Nat} {a b d : Deed} {m bh inn : Int} {w : World} (h : NSt s a b 0 0 0 0 0 w)
    (K : ∀ w, NSt s a b 0 0 0 0 0 w → Calls Try.prog 16 (cap16 s) w fun e w' => ∃ g : How, g.ended e ∧ Fr (five s) w w' ∧ NSt s a b 1 m bh inn 0 w' ∧ d.tells w.heap.size g w') :
    Calls Try.prog 15 #[.func (.func 16) #[] (cap16 s)] w fun e w' => ∃ g : How, g.errno e ∧ Fr (five s) w w' ∧ NSt s a b 1 m bh inn 0 w' ∧ d.tells (w.heap.size + 1) g w' := by
  have fb : Still w (w.alloc box) := (Fr.refl _ w).alloc box
  have lt := lt_of_obj h.oo
  refine errno_raw (R := fun g w' => Fr (five s) w w' ∧ NSt s a b 1 m bh inn 0 w' ∧ d.tells (w.heap.size + 1) g w')
    (try_fr (F := five s) (S := fun g w' => NSt s a b 1 m bh inn 0 w' ∧ d.tells (w.heap.size + 1) g w') (fun k hk => by have := hk.2; omega)
      (runs_of enters16 (first := #[]) (cap := cap16 s) ((K _ (h.keep fb (fun _ h => h.elim))).mono ?_))) fun _ _ ⟨_, _, t⟩ => t.known
  rintro e w1 ⟨g, he, fr, h1, t⟩
  rw [World.size_alloc] at t
  exact ⟨g, he, fr, fun w2 f2 => ⟨h1.keep f2 (fun k e => by omega), t.keep f2 (fun k e => by omega)⟩⟩

set_option maxHeartbeats 1000000 in
theorem nested1_ok {s : Nat} {a b d : Deed} {m bh inn : Int} {w : World} (h : NSt s a b 0 0 0 0 0 w)
    (K : ∀ w, NSt s a b 0 0 0 0 0 w → Calls Try.prog 16 (cap16 s) w fun e w' => ∃ g : How, g.ended e ∧ Fr (five s) w w' ∧ NSt s a b 1 m bh inn 0 w' ∧ d.tells w.heap.size g w') :
    Calls Try.prog 14 (cap14 s) w fun e w' => ∃ g : How, g.ended e ∧ Fr (five s) w w' ∧ ∃ y, NSt s a b 1 m bh inn y w' ∧ d.errnoed w.heap.size g y w' := by
  have h0 := mf
  have lt := lt_of_obj h.oo
  have K1 := hide (nested2_errno h K)
  clear h K
  go_enter Try.func14, Try.ntmps14
  go_wp2_with fail
  refine (unhide K1).mono ?_
  rintro e w1 ⟨g, he, f1, h1, t1⟩
  rcases t1.errno he with ⟨y, rfl, hy⟩ | ⟨t, x, rfl, t3, hk, hb⟩
  · have c1 := cell_of_obj h1.oo 0; have z1 := frozen_of_obj h1.oo 0
    have END : Hid (Fr (five s) w (w1.setCell ⟨s + 6, 0, none⟩ (.int .i64 y)) ∧ NSt s a b 1 m bh inn y (w1.setCell ⟨s + 6, 0, none⟩ (.int .i64 y)) ∧ d.errnoed w.heap.size .well y (w1.setCell ⟨s + 6, 0, none⟩ (.int .i64 y))) :=
      hide ⟨f1.trans ((cell_fr w1 (s + 6) _).mono fun k e => .inl (by subst e; exact ⟨by omega, by omega⟩)), h1.setO y, by
        rcases hy with ⟨h1, h2⟩ | ⟨h1, h2⟩
        · exact .inl ⟨h1, rfl, h2⟩
        · exact .inr (.inl ⟨h1, rfl, h2⟩)⟩
    clear K1 f1 h1 t1 he hy
    go_wp2
    go_end0
    exact ⟨.well, rfl, (unhide END).1, y, (unhide END).2⟩
  · exact ⟨rfl, .bad t x, How.ended_one _ _, f1, 0, h1, .inr (.inr ⟨hk, hb, t3.mono (by omega), rfl⟩)⟩

theorem nested1_try {s : Nat} {a b d : Deed} {m bh inn : Int} {w : World} (h : NSt s a b 0 0 0 0 0 w)
    (K : ∀ w, NSt s a b 0 0 0 0 0 w → Calls Try.prog 16 (cap16 s) w fun e w' => ∃ g : How, g.ended e ∧ Fr (five s) w w' ∧ NSt s a b 1 m bh inn 0 w' ∧ d.tells w.heap.size g w') :
    Calls Try.prog 13 #[.func (.func 14) #[] (cap14 s)] w fun e w' => ∃ g : How, e = .returned (.tuple #[g.v, .bool g.is]) ∧ Fr (five s) w w' ∧ ∃ y, NSt s a b 1 m bh inn y w' ∧ d.errnoed (w.heap.size + 1) g y w' := by
  have fb : Still w (w.alloc box) := (Fr.refl _ w).alloc box
  have lt := lt_of_obj h.oo
  refine try_fr (F := five s) (S := fun g w' => ∃ y, NSt s a b 1 m bh inn y w' ∧ d.errnoed (w.heap.size + 1) g y w') (fun k hk => by have := hk.2; omega)
      (runs_of enters14 (first := #[]) (cap := cap14 s) ((nested1_ok (h.keep fb (fun _ h => h.elim)) K).mono ?_))
  rintro e w1 ⟨g, he, fr, y, h1, t⟩
  rw [World.size_alloc] at t
  refine ⟨g, he, fr, fun w2 f2 => ⟨y, h1.keep f2 (fun k e => by omega), ?_⟩⟩
  rcases t with t | t | ⟨t1, t2, t3, t4⟩
  · exact .inl t
  · exact .inr (.inl t)
  · exact .inr (.inr ⟨t1, t2, t3.keep f2 (fun k e => by omega), t4⟩)

/-- What the first rows of the law lay. -/
abbrev seven (a b : Deed) (w : World) : World := ((((((w.alloc a.obj).alloc b.obj).alloc (.cells #[.int .i64 0] 3)).alloc (.cells #[.int .i64 0] 3)).alloc (.cells #[.int .i64 0] 3)).alloc (.cells #[.int .i64 0] 36)).alloc (.cells #[.int .i64 0] 36)

theorem laid_seven (a b : Deed) (w : World) : Still w (seven a b w) ∧ NSt w.heap.size a b 0 0 0 0 0 (seven a b w) := by
  have fa : ∀ (u : World) (o : Obj), Still u (u.alloc o) := fun u o => (Fr.refl _ u).alloc o
  have f1 := fa w a.obj
  have f2 := fa (w.alloc a.obj) b.obj
  have f3 := fa ((w.alloc a.obj).alloc b.obj) (.cells #[.int .i64 0] 3)
  have f4 := fa (((w.alloc a.obj).alloc b.obj).alloc (.cells #[.int .i64 0] 3)) (.cells #[.int .i64 0] 3)
  have f5 := fa ((((w.alloc a.obj).alloc b.obj).alloc (.cells #[.int .i64 0] 3)).alloc (.cells #[.int .i64 0] 3)) (.cells #[.int .i64 0] 3)
  have f6 := fa (((((w.alloc a.obj).alloc b.obj).alloc (.cells #[.int .i64 0] 3)).alloc (.cells #[.int .i64 0] 3)).alloc (.cells #[.int .i64 0] 3)) (.cells #[.int .i64 0] 36)
  have f7 := fa ((((((w.alloc a.obj).alloc b.obj).alloc (.cells #[.int .i64 0] 3)).alloc (.cells #[.int .i64 0] 3)).alloc (.cells #[.int .i64 0] 3)).alloc (.cells #[.int .i64 0] 36)) (.cells #[.int .i64 0] 36)
  have n1 := obj_alloc_new w a.obj
  have n2 := obj_alloc_new (w.alloc a.obj) b.obj
  have n3 := obj_alloc_new ((w.alloc a.obj).alloc b.obj) (.cells #[.int .i64 0] 3)
  have n4 := obj_alloc_new (((w.alloc a.obj).alloc b.obj).alloc (.cells #[.int .i64 0] 3)) (.cells #[.int .i64 0] 3)
  have n5 := obj_alloc_new ((((w.alloc a.obj).alloc b.obj).alloc (.cells #[.int .i64 0] 3)).alloc (.cells #[.int .i64 0] 3)) (.cells #[.int .i64 0] 3)
  have n6 := obj_alloc_new (((((w.alloc a.obj).alloc b.obj).alloc (.cells #[.int .i64 0] 3)).alloc (.cells #[.int .i64 0] 3)).alloc (.cells #[.int .i64 0] 3)) (.cells #[.int .i64 0] 36)
  have n7 := obj_alloc_new ((((((w.alloc a.obj).alloc b.obj).alloc (.cells #[.int .i64 0] 3)).alloc (.cells #[.int .i64 0] 3)).alloc (.cells #[.int .i64 0] 3)).alloc (.cells #[.int .i64 0] 36)) (.cells #[.int .i64 0] 36)
  simp only [World.size_alloc] at n2 n3 n4 n5 n6 n7
  have g6 := f7
  have g5 := f6.trans g6
  have g4 := f5.trans g5
  have g3 := f4.trans g4
  have g2 := f3.trans g3
  have g1 := f2.trans g2
  exact ⟨f1.trans g1, ⟨g1.obj n1 (fun h => h), g2.obj n2 (fun h => h), g3.obj n3 (fun h => h), g4.obj n4 (fun h => h), g5.obj n5 (fun h => h), g6.obj n6 (fun h => h), n7⟩⟩
end Go.Proofs.Ytebfocfofoajkab
