/- RedoApart: what is told, and what is opened behind the loss. -/
import Derived.Test.YtockkjkaopihjaaApartS
import Derived.Test.YtockkjkaopihjaaBox
namespace Go.Proofs.Ytockkjkaopihjaa
open Go.RowKit

/-- Two logs on one device, in variables of their own. -/
structure Laid (w : World) (b : Nat) (L : Lay) (lga lgb ba bb : Nat) (w6 : World) : Prop where
  d : ∃ A, DevL w6 b L A ∧ Calm 32 False A 0 (fun _ => 0)
  la : LogAt w6 lga b 0 32
  lb : LogAt w6 lgb b 64 32
  na : ¬ foot b L lga
  nb : ¬ foot b L lgb
  xa : Box w6 ba (ptr lga)
  xb : Box w6 bb (ptr lgb)
  nxa : ¬ foot b L ba
  nxb : ¬ foot b L bb
  fr : Fr (fun _ => False) w w6
  new : ∀ k, foot b L k → w.heap.size ≤ k
  ne : ba ≠ bb
  wa : w.heap.size ≤ ba
  wb : w.heap.size ≤ bb

/-- What the loop holds. -/
structure ApJ (w6 : World) (b : Nat) (L : Lay) (pb qb k : Nat) (x y : Int) (wr : World) : Prop where
  dev : ∃ L1 A1 f, On w6 b L wr L1 A1 ∧ Calm 32 False A1 (19 * k) f ∧ Duo x y f ∧ ¬ foot b L1 pb ∧ ¬ foot b L1 qb
  p : Box wr pb (u64 x)
  q : Box wr qb (u64 y)
  hx : 0 ≤ x ∧ x ≤ k
  hy : 0 ≤ y ∧ y ≤ k

/-- What stands behind the loop. -/
structure LostJ (w6 : World) (b : Nat) (L : Lay) (pb qb : Nat) (x y p q : Int) (wr : World) : Prop where
  dev : ∃ L1 A1, On w6 b L wr L1 A1 ∧ A1.n = 32 ∧ A1.steps ≤ 600 ∧ (∀ k, Poss A1 k → Either x y p q k) ∧ ¬ foot b L1 pb ∧ ¬ foot b L1 qb
  p : Box wr pb (u64 p)
  q : Box wr qb (u64 q)

section
variable {w w6 W : World} {b lga lgb ba bb pb qb k : Nat} {L L1 : Lay} {A1 A : Ab} {f h : Nat → Int} {x y p q s : Int}

theorem ApJ.lost (j : ApJ w6 b L pb qb k x y W) (hk : k ≤ 30) : LostJ w6 b L pb qb x y x y W := by
  obtain ⟨L1, A1, f, o, c, du, n1, n2⟩ := j.dev
  exact ⟨⟨L1, A1, o, c.n, by have := c.st; omega, fun k hp => by rw [calm_poss c hp]; exact .inl du, n1, n2⟩, j.p, j.q⟩

theorem ApJ.drewN (j : ApJ w6 b L pb qb k x y W) (n : Nat) : ApJ w6 b L pb qb k x y (W.drewN n) := by
  obtain ⟨L1, A1, f, o, c, du, n1, n2⟩ := j.dev
  exact ⟨⟨L1, A1, f, o.drewN n, c, du, n1, n2⟩, j.p.kept ((Fr.refl (fun _ => False) W).drewN n) (fun h => h), j.q.kept ((Fr.refl (fun _ => False) W).drewN n) (fun h => h), j.hx, j.hy⟩

theorem twoWays {U x p : Int} (h : U = x ∨ U = p) : (U == x) = true ∨ ((U == x) = false ∧ (U == p) = true) := by
  by_cases e : U = x
  · exact .inl (by simp [e])
  · exact .inr ⟨by simp [e], by simp [h.resolve_left e]⟩

theorem tell_a (l : Laid w b L lga lgb ba bb w6) (o : On w6 b L W L1 A1) (c : Calm 32 False A1 (19 * k) f) (du : Duo x y f) (np : ¬ foot b L1 pb) (nq : ¬ foot b L1 qb) (xp : Box W pb (u64 p)) (xq : Box W qb (u64 y))
    (hk : k < 30) (hp : 0 ≤ p ∧ p ≤ k + 1) (hy : 0 ≤ y ∧ y ≤ k) :
    Calls Try.prog 19 #[.int .i64 0, .func (.func 26) #[] #[ptr ba, ptr pb]] W fun e w' => (e = .returned (.int .i64 0) ∧ ApJ w6 b L pb qb (k + 1) p y w') ∨ (e = .returned (.int .i64 1) ∧ LostJ w6 b L pb qb x y p y w') := by
  have fb := boxed_fr W 0
  have ob := o.quiet fb
  have lgw : lga < w6.heap.size := World.block_lt_of_cell? _ _ l.la.c0
  have C := clo_a ob.d (ob.log l.la l.na) (ob.other lgw l.na) c du (by omega) ba pb p (ob.fr.cell' l.xa.c l.nxa) (xp.kept fb (fun h => h)).c
  refine (told_dm (first := #[]) (cap := #[ptr ba, ptr pb]) (fun _ _ => by kernel_rfl) o.d C).mono ?_
  rintro e w' (⟨rfl, D⟩ | ⟨rfl, D⟩)
  · obtain ⟨L2, A2, o2, f2, c2, du2⟩ := D.on
    exact .inl ⟨rfl, ⟨L2, A2, f2, o.trans o2, c2.more (by omega), du2, o2.other xp.lt np, o2.other xq.lt nq⟩, xp.kept o2.fr np, xq.kept o2.fr nq, by omega, by omega⟩
  · obtain ⟨L2, A2, o2, n2, s2, ei⟩ := D.on
    exact .inr ⟨rfl, ⟨L2, A2, o.trans o2, n2, by omega, ei, o2.other xp.lt np, o2.other xq.lt nq⟩, xp.kept o2.fr np, xq.kept o2.fr nq⟩

theorem tell_b (l : Laid w b L lga lgb ba bb w6) (o : On w6 b L W L1 A1) (c : Calm 32 False A1 (19 * k) f) (du : Duo x y f) (np : ¬ foot b L1 pb) (nq : ¬ foot b L1 qb) (xp : Box W pb (u64 x)) (xq : Box W qb (u64 q))
    (hk : k < 30) (hq : 0 ≤ q ∧ q ≤ k + 1) (hx : 0 ≤ x ∧ x ≤ k) :
    Calls Try.prog 19 #[.int .i64 0, .func (.func 27) #[] #[ptr bb, ptr qb]] W fun e w' => (e = .returned (.int .i64 0) ∧ ApJ w6 b L pb qb (k + 1) x q w') ∨ (e = .returned (.int .i64 1) ∧ LostJ w6 b L pb qb x y x q w') := by
  have fb := boxed_fr W 0
  have ob := o.quiet fb
  have lgw : lgb < w6.heap.size := World.block_lt_of_cell? _ _ l.lb.c0
  have C := clo_b ob.d (ob.log l.lb l.nb) (ob.other lgw l.nb) c du (by omega) bb qb q (ob.fr.cell' l.xb.c l.nxb) (xq.kept fb (fun h => h)).c
  refine (told_dm (first := #[]) (cap := #[ptr bb, ptr qb]) (fun _ _ => by kernel_rfl) o.d C).mono ?_
  rintro e w' (⟨rfl, D⟩ | ⟨rfl, D⟩)
  · obtain ⟨L2, A2, o2, f2, c2, du2⟩ := D.on
    exact .inl ⟨rfl, ⟨L2, A2, f2, o.trans o2, c2.more (by omega), du2, o2.other xp.lt np, o2.other xq.lt nq⟩, xp.kept o2.fr np, xq.kept o2.fr nq, by omega, by omega⟩
  · obtain ⟨L2, A2, o2, n2, s2, ei⟩ := D.on
    exact .inr ⟨rfl, ⟨L2, A2, o.trans o2, n2, by omega, ei, o2.other xp.lt np, o2.other xq.lt nq⟩, xp.kept o2.fr np, xq.kept o2.fr nq⟩

/-- What stands when the first log has been opened. -/
def Either2 (x y p q : Int) (h : Nat → Int) : Prop := Duo x y h ∨ Duo p q h ∨ (∃ f, Duo x y f ∧ p = x ∧ Half 32 64 32 f (xb q) h)

theorem opens_a (d : DevL W b L A) (c : Calm 32 True A s h) (hs : s + 8 < 4294967296) (ei : Either x y p q h) :
    Calls Try.prog 22 #[ptr b, .int .i64 0, .int .i64 32] W fun e w' => e = .returned (.tuple #[ptr W.heap.size, .int .i64 0]) ∧ ∃ L' A' h', On W b L w' L' A' ∧ Calm 32 True A' (s + 8) h' ∧ Either2 x y p q h' := by
  have fresh : h 0 = 0 → Either2 x y p q h → Calls Try.prog 22 #[ptr b, .int .i64 0, .int .i64 32] W fun e w' => e = .returned (.tuple #[ptr W.heap.size, .int .i64 0]) ∧ ∃ L' A' h', On W b L w' L' A' ∧ Calm 32 True A' (s + 8) h' ∧ Either2 x y p q h' := fun h0 e2 => by
    refine (open_fresh d c.dead 0 32 (by omega) (by omega) (by rw [c.n]; omega) (by rw [c.now, h0])).mono ?_
    rintro e w' ⟨rfl, rfl⟩
    exact ⟨rfl, L, A, h, (On.start d).alloc _, c.more (by omega), e2⟩
  rcases ei with e | e | ⟨f, du, rfl, e⟩ | ⟨f, du, rfl, e⟩
  · exact fresh e.ma (.inl e)
  · exact fresh e.ma (.inr (.inl e))
  · refine (open_sealed d c (by omega) 0 32 (by omega) (by omega) (by omega) (xa p) e.whole (by simp [xa]; omega)).mono ?_
    rintro e' w' (⟨rfl, _, L', A', o, _, c'⟩ | ⟨rfl, D⟩)
    · exact ⟨rfl, L', A', _, o, c'.more (by simp [xa]; omega), .inr (.inl (du.nextA (e.done (by omega))))⟩
    · obtain ⟨_, _, _, ⟨h, _⟩, _⟩ := D
      exact absurd trivial h
  · exact fresh (du.halfB e) (.inr (.inr ⟨f, du, rfl, e⟩))

theorem opens_b (d : DevL W b L A) (c : Calm 32 True A s h) (hs : s + 8 < 4294967296) (ei : Either2 x y p q h) :
    Calls Try.prog 22 #[ptr b, .int .i64 64, .int .i64 32] W fun e w' => e = .returned (.tuple #[ptr W.heap.size, .int .i64 0]) ∧ ∃ L' A' h', On W b L w' L' A' ∧ Calm 32 True A' (s + 8) h' ∧ (Duo x y h' ∨ Duo p q h') := by
  have fresh : h 64 = 0 → (Duo x y h ∨ Duo p q h) → Calls Try.prog 22 #[ptr b, .int .i64 64, .int .i64 32] W fun e w' => e = .returned (.tuple #[ptr W.heap.size, .int .i64 0]) ∧ ∃ L' A' h', On W b L w' L' A' ∧ Calm 32 True A' (s + 8) h' ∧ (Duo x y h' ∨ Duo p q h') := fun h0 e2 => by
    refine (open_fresh d c.dead 64 32 (by omega) (by omega) (by rw [c.n]; omega) (by rw [c.now, h0])).mono ?_
    rintro e w' ⟨rfl, rfl⟩
    exact ⟨rfl, L, A, h, (On.start d).alloc _, c.more (by omega), e2⟩
  rcases ei with e | e | ⟨f, du, rfl, e⟩
  · exact fresh e.mb (.inl e)
  · exact fresh e.mb (.inr e)
  · refine (open_sealed d c (by omega) 64 32 (by omega) (by omega) (by omega) (xb q) e.whole (by simp [xb]; omega)).mono ?_
    rintro e' w' (⟨rfl, _, L', A', o, _, c'⟩ | ⟨rfl, D⟩)
    · exact ⟨rfl, L', A', _, o, c'.more (by simp [xb]; omega), .inr (du.nextB (e.done (by omega)))⟩
    · obtain ⟨_, _, _, ⟨h, _⟩, _⟩ := D
      exact absurd trivial h
end
end Go.Proofs.Ytockkjkaopihjaa
