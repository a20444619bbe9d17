/- The law's own Open; Do about a heap; awake. -/
import Derived.Test.YtdgobaknbjlahaaGreatDoorGHn
namespace Go.Proofs.YtdgobaknbjlahaaGreatDoor
open Go.RowKit

section
variable {nu sz : Nat} {w w' w0 : World} {X V : Nat → Prop} {hb sb b : Nat} {T : Tay} {A : Ab} {N : Nat} {free : Prop} {s : Int} {base : Nat → Int}

theorem HpC.still (h : HpC nu sz w0 X w hb sb b T A N free s base) (hf : Still w w') : HpC nu sz w0 X w' hb sb b T A N free s base :=
  ⟨h.hd.still hf, h.cl, h.hp.kept hf (fun x => x) (fun x => x), h.xh, h.l0⟩
theorem HpC.more (h : HpC nu sz w0 X w hb sb b T A N free s base) (o : Obj) : HpC nu sz w0 (fun k => X k ∨ k = w.heap.size) (w.alloc o) hb sb b T A N free s base :=
  ⟨h.hd.more o, h.cl, h.hp.kept ((Fr.refl (fun _ => False) w).alloc o) (fun x => x) (fun x => x), .inl h.xh, h.l0⟩
theorem HpC.var (h : HpC nu sz w0 X w hb sb b T A N free s base) {F : Nat → Prop} (hf : Fr F w w') (hF : ∀ k, F k → X k) (hn : ¬ F hb) : HpC nu sz w0 X w' hb sb b T A N free s base :=
  ⟨h.hd.var hf hF, h.cl, h.hp.kept hf hn (fun e => by have := (h.hd.xl 0 (hF 0 e)).1; have := h.l0; omega), h.xh, h.l0⟩
theorem HpC.sub {Y : Nat → Prop} (h : HpC nu sz w0 X w hb sb b T A N free s base) (hX : ∀ k, Y k → X k) (hy : Y hb) : HpC nu sz w0 Y w hb sb b T A N free s base := ⟨h.hd.sub hX, h.cl, h.hp, hy, h.l0⟩
theorem HpC.slow (h : HpC nu sz w0 X w hb sb b T A N free s base) {t : Int} (ht : s ≤ t) : HpC nu sz w0 X w hb sb b T A N free t base := by
  obtain ⟨f, c, k⟩ := h.cl
  exact { h with cl := ⟨f, c.more ht, k⟩ }

/-- A Do that ends well, or by an error. -/
def DidH (nu sz : Nat) (w0 : World) (X V : Nat → Prop) (w : World) (hb sb b : Nat) (T : Tay) (A : Ab) (N : Nat) (s : Int) (base : Nat → Int) (R : How → List (Int × Int) → World → Prop) (e : Ending) (w' : World) : Prop :=
  Fr (fun k => tfoot sb b T k ∨ V k) w w' ∧ ((∃ P' T' A', R .well P' w' ∧ e = .returned (.int .i64 0) ∧ HpC nu sz w0 X w' hb sb b T' A' N True (s + 30729) (homed P' base)) ∨
  (∃ i P' T', R (.errno i) P' w' ∧ e = .returned (.int .i64 i) ∧ HpC nu sz w0 X w' hb sb b T' A N True s base))

theorem HpC.do_ {g : Nat} {fi ca : Array Value} {R : How → List (Int × Int) → World → Prop} (h : HpC nu sz w0 X w hb sb b T A N True s base) (hV : ∀ k, V k → X k) (hn : ¬ V hb) (hR : Stays V R)
    (hf : ChangeX V w sb b T sz A (.func (.func g) fi ca) R) (hs : s + 30729 < 4294967296) :
    Calls Tryz.prog 7 #[ptr sb, .func (.func g) fi ca] w (DidH nu sz w0 X V w hb sb b T A N s base R) := by
  obtain ⟨f, c, k⟩ := h.cl
  refine (t_doX h.hd.st c k (fun k hk => ⟨(h.hd.xl k (hV k hk)).2, h.hd.ap k (hV k hk)⟩) hR hf hs).mono ?_
  have key : ∀ {w' : World} {T' : Tay} {A' : Ab}, OnxX V w sb b T w' T' sz A' [] false → Hold w0 X w' sb b sz T' A' [] false ∧ HpL nu sz w' hb sb := by
    intro w' T' A' o
    refine ⟨⟨o.st, h.hd.fr.trans' o.fr (fun k hk => .inr (hk.elim (h.hd.new k) (fun x => (h.hd.xl k (hV k x)).1))), fun k hk => (o.sub k hk).elim (h.hd.new k) (fun x => Nat.le_trans h.hd.fr.size x), fun k hk => o.other (h.hd.xl k hk).2 (h.hd.ap k hk), fun k hk => ⟨(h.hd.xl k hk).1, Nat.lt_of_lt_of_le (h.hd.xl k hk).2 o.fr.size⟩⟩, ?_⟩
    refine h.hp.kept o.fr (fun e => e.elim (h.hd.ap hb h.xh) hn) (fun e => ?_)
    have l0 := h.l0
    rcases e with e | e
    · have := h.hd.new 0 e; omega
    · have := (h.hd.xl 0 (hV 0 e)).1; omega
  rintro e w' (⟨P', r, rfl, T', A', o, f', c', k'⟩ | ⟨_, _, _, _, _, _, hg, _⟩ | ⟨i, P', r, rfl, T', o⟩)
  · exact ⟨o.fr, .inl ⟨P', T', A', r, rfl, (key o).1, ⟨f', c', k'⟩, (key o).2, h.xh, h.l0⟩⟩
  · exact absurd trivial hg
  · exact ⟨o.fr, .inr ⟨i, P', T', r, rfl, (key o).1, ⟨f, c, k⟩, (key o).2, h.xh, h.l0⟩⟩

/-- A heap of which nothing is taken, and whose roots are noughts. -/
structure NewH (nu : Nat) (g : Nat → Int) : Prop where
  st : HpS nu g
  ak : ask nu g = fun _ => 0
  root : ∀ i, 2 ≤ i → i < 18 → g i = 0

theorem eq_nil_heap (b : Nat) (w : World) : (binOp .eql 25 (ptr b) (.pointer none)).run Tryz.prog w = .ok (.bool false) w := by kernel_rfl

set_option maxRecDepth 20000 in
set_option maxHeartbeats 1000000 in
theorem l8_open (G : Geo nu sz) {N : Nat} (hN8 : N * 8 = 12400 + sz) (w : World) (tab : TabL w) : Calls Tryz.prog 5 #[.int .i64 ((N : Int) * 8)] w fun e w' => ∃ b sb hb T A base, e = .returned (.tuple #[ptr b, ptr sb, ptr hb]) ∧ HpC nu sz w (fun k => k = hb) w' hb sb b T A N True 43021 base ∧ NewH nu (rb base) := by
  obtain ⟨g1, g2, g3, g4, g5, g6⟩ := G.b
  have K : Calls Tryz.prog 19 #[.int .i64 ((N : Int) * 8)] w _ := law_open sz N hN8 (by omega) (by omega) w
  have l0 : 0 < w.heap.size := World.block_lt_of_cell? _ _ (tab 0 (by omega))
  have h1 := eq_nil_stor
  have HK := hide K; have HT := hide tab
  clear K tab
  go_enter Tryz.func5, Tryz.ntmps5
  go_wp2_with fail
  refine (unhide HK).mono ?_
  clear HK
  rintro e w1 ⟨b, sb, T, A, rfl, o⟩
  obtain ⟨N', f, hN, c, k⟩ := o.calm
  have hN' : N' = N := by omega
  subst hN'
  have tab1 : TabL w1 := fun j hj => o.fr.cell' (unhide HT j hj) (fun x => x)
  have OP := h_open_by (R := fun P' => Began nu (says [] A) (says P' A)) G o.st c k tab1 (fun ht => by have := o.new 0 ht; omega) (by omega) (fun w2 hb bx hp bc => (h_openC_new hp (by simp) (fun i hi => by
    rw [says_base c k []]; rfl) bc).mono (by
    rintro e w3 ⟨rfl, g, ⟨T', P', o', eg, -⟩, bg⟩
    subst eg
    exact ⟨rfl, T', P', o', bg⟩))
  have HOP := hide OP; have HO := hide o; have HC := hide (And.intro c k)
  clear OP o c k tab1
  go_wp2_with fail
  refine (unhide HOP).mono ?_
  clear HOP
  rintro e w2 (⟨hb, P', T', A', rfl, lh, hl, bg, o2, nh, f', c', k'⟩ | ⟨_, _, _, _, _, _, hg, _⟩)
  · have HX := hide (And.intro lh (And.intro hl (And.intro bg (And.intro o2 (And.intro nh (And.intro c' k'))))))
    clear lh hl bg o2 nh c' k'
    go_wp2
    go_ret3
    obtain ⟨lh, hl, bg, o2, nh, c', k'⟩ := unhide HX
    have o := unhide HO
    refine ⟨b, sb, hb, T', A', homed P' (fun _ => 0), rfl, ⟨⟨o2.st, o.fr.trans' o2.fr (fun k hk => .inr (o.new k hk)), fun k hk => (o2.sub k hk).elim (o.new k) (fun x => Nat.le_trans o.fr.size x), fun k hk => by subst hk; exact nh, fun k hk => by subst hk; exact ⟨Nat.le_trans o.fr.size lh, World.block_lt_of_cell? _ _ hl.c0⟩⟩, ⟨f', c', k'⟩, hl, rfl, l0⟩, ?_⟩
    rw [← says_base (unhide HC).1 (unhide HC).2 P']
    exact ⟨bg.st, bg.ak, bg.root⟩
  · exact absurd trivial hg
end
end Go.Proofs.YtdgobaknbjlahaaGreatDoor
