/- RedoApart: two logs on one device. -/
import Derived.Test.YtockkjkaopihjaaTellD
namespace Go.Proofs.Ytockkjkaopihjaa
open Go.RowKit

/-- No marks; two words are x, two are y. -/
structure Duo (x y : Int) (f : Nat → Int) : Prop where
  ma : f 0 = 0
  mb : f 64 = 0
  a0 : f 130 = x
  a1 : f 131 = x
  b0 : f 140 = y
  b1 : f 141 = y

abbrev xa (p : Int) : List (Int × Int) := [(130, p), (131, p)]
abbrev xb (q : Int) : List (Int × Int) := [(140, q), (141, q)]

/-- What may stand when the power comes back. -/
def Either (x y p q : Int) (h : Nat → Int) : Prop :=
  Duo x y h ∨ Duo p q h ∨ (∃ f, Duo x y f ∧ q = y ∧ Half 32 0 32 f (xa p) h) ∨ (∃ f, Duo x y f ∧ p = x ∧ Half 32 64 32 f (xb q) h)

theorem homed_a (p : Int) (f : Nat → Int) : homed (xa p).reverse f 130 = p ∧ homed (xa p).reverse f 131 = p ∧ ∀ j, j ≠ 130 → j ≠ 131 → homed (xa p).reverse f j = f j := by
  refine ⟨rfl, rfl, fun j h1 h2 => homed_other (fun y hy => ?_) f⟩
  simp [xa] at hy
  rcases hy with rfl | rfl <;> (simp; omega)
theorem homed_b (p : Int) (f : Nat → Int) : homed (xb p).reverse f 140 = p ∧ homed (xb p).reverse f 141 = p ∧ ∀ j, j ≠ 140 → j ≠ 141 → homed (xb p).reverse f j = f j := by
  refine ⟨rfl, rfl, fun j h1 h2 => homed_other (fun y hy => ?_) f⟩
  simp [xb] at hy
  rcases hy with rfl | rfl <;> (simp; omega)

theorem Duo.cleanA {x y : Int} {f : Nat → Int} (d : Duo x y f) : Clean 0 32 f f := ⟨d.ma, fun _ _ => rfl⟩
theorem Duo.cleanB {x y : Int} {f : Nat → Int} (d : Duo x y f) : Clean 64 32 f f := ⟨d.mb, fun _ _ => rfl⟩
theorem Duo.same {x y : Int} {f h : Nat → Int} (d : Duo x y f) (c : Clean 0 32 f h) : Duo x y h :=
  ⟨c.mark, (c.out 64 (by omega)).trans d.mb, (c.out 130 (by omega)).trans d.a0, (c.out 131 (by omega)).trans d.a1, (c.out 140 (by omega)).trans d.b0, (c.out 141 (by omega)).trans d.b1⟩
theorem Duo.sameB {x y : Int} {f h : Nat → Int} (d : Duo x y f) (c : Clean 64 32 f h) : Duo x y h :=
  ⟨(c.out 0 (by omega)).trans d.ma, c.mark, (c.out 130 (by omega)).trans d.a0, (c.out 131 (by omega)).trans d.a1, (c.out 140 (by omega)).trans d.b0, (c.out 141 (by omega)).trans d.b1⟩
theorem Duo.nextA {x y p : Int} {f h : Nat → Int} (d : Duo x y f) (c : Clean 0 32 (homed (xa p).reverse f) h) : Duo p y h := by
  obtain ⟨e0, e1, e2⟩ := homed_a p f
  exact ⟨c.mark, (c.out 64 (by omega)).trans ((e2 64 (by omega) (by omega)).trans d.mb), (c.out 130 (by omega)).trans e0, (c.out 131 (by omega)).trans e1, (c.out 140 (by omega)).trans ((e2 140 (by omega) (by omega)).trans d.b0), (c.out 141 (by omega)).trans ((e2 141 (by omega) (by omega)).trans d.b1)⟩
theorem Duo.nextB {x y p : Int} {f h : Nat → Int} (d : Duo x y f) (c : Clean 64 32 (homed (xb p).reverse f) h) : Duo x p h := by
  obtain ⟨e0, e1, e2⟩ := homed_b p f
  exact ⟨(c.out 0 (by omega)).trans ((e2 0 (by omega) (by omega)).trans d.ma), c.mark, (c.out 130 (by omega)).trans ((e2 130 (by omega) (by omega)).trans d.a0), (c.out 131 (by omega)).trans ((e2 131 (by omega) (by omega)).trans d.a1), (c.out 140 (by omega)).trans e0, (c.out 141 (by omega)).trans e1⟩
theorem takesA (p : Int) : Takes 32 0 32 (xa p) := ⟨by simp [xa], by intro x hx; simp [xa] at hx; rcases hx with rfl | rfl <;> exact ⟨by omega, by omega, by omega⟩, by simp [xa], by omega⟩
theorem takesB (p : Int) : Takes 32 64 32 (xb p) := ⟨by simp [xb], by intro x hx; simp [xb] at hx; rcases hx with rfl | rfl <;> exact ⟨by omega, by omega, by omega⟩, by simp [xb], by omega⟩
/-- The other log's mark, when this one's writes stand half. -/
theorem Duo.halfA {x y p : Int} {f h : Nat → Int} (d : Duo x y f) (c : Half 32 0 32 f (xa p) h) : h 64 = 0 := by
  rcases c.out 64 (by omega) with e | e
  · rw [e]; exact d.mb
  · rw [e, (homed_a p f).2.2 64 (by omega) (by omega)]; exact d.mb
theorem Duo.halfB {x y p : Int} {f h : Nat → Int} (d : Duo x y f) (c : Half 32 64 32 f (xb p) h) : h 0 = 0 := by
  rcases c.out 0 (by omega) with e | e
  · rw [e]; exact d.ma
  · rw [e, (homed_b p f).2.2 0 (by omega) (by omega)]; exact d.ma

section
variable {W : World} {b : Nat} {L : Lay} {free : Prop} {A : Ab} {s : Int} {f : Nat → Int} {lg : Nat} {x y : Int}

set_option maxHeartbeats 1000000 in
theorem clo_a (d : DevL W b L A) (hl : LogAt W lg b 0 32) (hlg : ¬ foot b L lg) (h : Calm 32 free A s f) (hd : Duo x y f) (hs : s + 19 < 4294967296) (ba bp : Nat) (p : Int)
    (ca : W.cell? ⟨ba, 0, none⟩ = some (ptr lg)) (cp : W.cell? ⟨bp, 0, none⟩ = some (u64 p)) :
    Calls Try.prog 26 #[.pointer (some ⟨ba, 0, none⟩), .pointer (some ⟨bp, 0, none⟩)] W fun e w' =>
      ((∃ v, e = .returned v) ∧ DM W b L w' fun A' => ∃ f', Calm 32 free A' (s + 19) f' ∧ Duo p y f') ∨
      (e = .panicked lost ∧ DM W b L w' fun A' => A'.n = 32 ∧ A'.steps ≤ s + 19 ∧ ∀ k, Poss A' k → Either x y p y k) := by
  have HD := hide d; have HL := hide hl; have HG := hide hlg; have HC := hide h; have HDU := hide hd
  clear d hl hlg h hd
  go_enter Try.func26, Try.ntmps26
  go_wp2_with fail
  obtain ⟨W2, hW2⟩ : ∃ W2, W.alloc (.cells #[.int .i64 130, .int .u64 p, .int .i64 131, .int .u64 p] 32) = W2 := ⟨_, rfl⟩
  have f2 : Fr (fun _ => False) W W2 := hW2 ▸ (Fr.refl _ W).alloc _
  have x2 : WrAt W2 W.heap.size 0 (xa p) := two_writes _ _ _ _ _ _ 32 (by rw [← hW2]; exact heap_alloc_new W _)
  have nx : ¬ foot b L W.heap.size := fun hf => by have := (unhide HD).lt _ hf; omega
  have C := commit_ok ((unhide HD).keptF f2) ((unhide HL).kept f2 (fun h => h)) (unhide HG) (unhide HC) (unhide HDU).cleanA W.heap.size 0 2 _ x2 nx (takesA p) (by omega) (by omega) (by simp [xa]; omega)
  rw [hW2]
  have HCC := hide C; have HF2 := hide f2
  clear C x2 nx hW2 f2
  refine (unhide HCC).mono ?_
  clear HCC
  rintro e w3 (⟨rfl, D⟩ | ⟨rfl, D⟩)
  rotate_left
  · refine ⟨rfl, .inr ⟨rfl, (D.after (unhide HF2)).mono fun A' t => ?_⟩⟩
    obtain ⟨_, t1, t2, t3⟩ := t
    refine ⟨t1, Int.le_trans t2 (by simp [xa]; omega), fun k hk => ?_⟩
    rcases t3 k hk with e | e | e
    · exact .inl ((unhide HDU).same e)
    · exact .inr (.inr (.inl ⟨f, unhide HDU, rfl, e⟩))
    · exact .inr (.inl ((unhide HDU).nextA e))
  have DD := hide (D.after (unhide HF2))
  clear D
  go_wp2
  go_end0
  refine .inl ⟨⟨_, rfl⟩, (unhide DD).mono fun A' t => ?_⟩
  obtain ⟨f', c', l'⟩ := t
  exact ⟨f', c'.more (by simp [xa]; omega), (unhide HDU).nextA l'⟩

set_option maxHeartbeats 1000000 in
theorem clo_b (d : DevL W b L A) (hl : LogAt W lg b 64 32) (hlg : ¬ foot b L lg) (h : Calm 32 free A s f) (hd : Duo x y f) (hs : s + 19 < 4294967296) (ba bp : Nat) (p : Int)
    (ca : W.cell? ⟨ba, 0, none⟩ = some (ptr lg)) (cp : W.cell? ⟨bp, 0, none⟩ = some (u64 p)) :
    Calls Try.prog 27 #[.pointer (some ⟨ba, 0, none⟩), .pointer (some ⟨bp, 0, none⟩)] W fun e w' =>
      ((∃ v, e = .returned v) ∧ DM W b L w' fun A' => ∃ f', Calm 32 free A' (s + 19) f' ∧ Duo x p f') ∨
      (e = .panicked lost ∧ DM W b L w' fun A' => A'.n = 32 ∧ A'.steps ≤ s + 19 ∧ ∀ k, Poss A' k → Either x y x p k) := by
  have HD := hide d; have HL := hide hl; have HG := hide hlg; have HC := hide h; have HDU := hide hd
  clear d hl hlg h hd
  go_enter Try.func27, Try.ntmps27
  go_wp2_with fail
  obtain ⟨W2, hW2⟩ : ∃ W2, W.alloc (.cells #[.int .i64 140, .int .u64 p, .int .i64 141, .int .u64 p] 32) = W2 := ⟨_, rfl⟩
  have f2 : Fr (fun _ => False) W W2 := hW2 ▸ (Fr.refl _ W).alloc _
  have x2 : WrAt W2 W.heap.size 0 (xb p) := two_writes _ _ _ _ _ _ 32 (by rw [← hW2]; exact heap_alloc_new W _)
  have nx : ¬ foot b L W.heap.size := fun hf => by have := (unhide HD).lt _ hf; omega
  have C := commit_ok ((unhide HD).keptF f2) ((unhide HL).kept f2 (fun h => h)) (unhide HG) (unhide HC) (unhide HDU).cleanB W.heap.size 0 2 _ x2 nx (takesB p) (by omega) (by omega) (by simp [xb]; omega)
  rw [hW2]
  have HCC := hide C; have HF2 := hide f2
  clear C x2 nx hW2 f2
  refine (unhide HCC).mono ?_
  clear HCC
  rintro e w3 (⟨rfl, D⟩ | ⟨rfl, D⟩)
  rotate_left
  · refine ⟨rfl, .inr ⟨rfl, (D.after (unhide HF2)).mono fun A' t => ?_⟩⟩
    obtain ⟨_, t1, t2, t3⟩ := t
    refine ⟨t1, Int.le_trans t2 (by simp [xb]; omega), fun k hk => ?_⟩
    rcases t3 k hk with e | e | e
    · exact .inl ((unhide HDU).sameB e)
    · exact .inr (.inr (.inr ⟨f, unhide HDU, rfl, e⟩))
    · exact .inr (.inl ((unhide HDU).nextB e))
  have DD := hide (D.after (unhide HF2))
  clear D
  go_wp2
  go_end0
  refine .inl ⟨⟨_, rfl⟩, (unhide DD).mono fun A' t => ?_⟩
  obtain ⟨f', c', l'⟩ := t
  exact ⟨f', c'.more (by simp [xb]; omega), (unhide HDU).nextB l'⟩
end
end Go.Proofs.Ytockkjkaopihjaa
