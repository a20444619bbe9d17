/- The closures of HeapNoughts, HeapRoots and HeapWrong, for HeapPlays. -/
import Derived.Test.YtacfmmbdeajjbaaGreatDoorLa
import Derived.Test.YtacfmmbdeajjbaaGreatDoorLq
import Derived.Test.YtacfmmbdeajjbaaGreatDoorHs
namespace Go.Proofs.YtacfmmbdeajjbaaGreatDoor
open Go.RowKit

/-- A piece was taken, then words of it put. -/
def TookD (f : Nat → Int) (x u : Nat) (g' : Nat → Int) : Prop := ∃ g, Took f x u g ∧ ∀ i, i < 160 → g' i = g i

section
variable {w w' w0 : World} {hb sb b bh ba bo bs br bw : Nat} {T : Tay} {A : Ab} {P : List (Int × Int)} {v : Value}

/-- Told by HeapNoughts' first closure. -/
def NoR (f : Nat → Int) (x : Nat) (A : Ab) (ba bo : Nat) (P' : List (Int × Int)) (w' : World) : Prop := ∃ u : Nat, Box w' ba (.int .i64 (160 + u * 8)) ∧ Box w' bo (.bool true) ∧ TookD f x u (says P' A)

end

/-- A device that is new since w0, beside the law's own blocks X. -/
structure Dvx (w0 : World) (X : Nat → Prop) (w : World) (b : Nat) (L : Lay) (A : Ab) : Prop where
  d : DevL w b L A
  fr : Still w0 w
  new : ∀ k, foot b L k → w0.heap.size ≤ k
  ap : ∀ k, X k → ¬ foot b L k
  xl : ∀ k, X k → w0.heap.size ≤ k ∧ k < w.heap.size

section
variable {w0 w w' : World} {X : Nat → Prop} {b sb hb N : Nat} {L L' : Lay} {T : Tay} {A A' : Ab} {base h f : Nat → Int} {xs : List (Int × Int)} {s : Int} {free : Prop}

theorem Dvx.step (D : Dvx w0 X w b L A) (d' : DevL w' b L' A') (f : Fr (foot b L) w w') (sub : ∀ k, foot b L' k → foot b L k ∨ w.heap.size ≤ k) : Dvx w0 X w' b L' A' :=
  ⟨d', D.fr.trans' f (fun k hk => .inr (D.new k hk)), fun k hk => (sub k hk).elim (D.new k) (fun x => Nat.le_trans D.fr.size x),
    fun k hk x => (sub _ x).elim (D.ap k hk) (fun y => by have := (D.xl k hk).2; omega), fun k hk => ⟨(D.xl k hk).1, Nat.lt_of_lt_of_le (D.xl k hk).2 f.size⟩⟩
theorem Dvx.dm {P : Ab → Prop} (D : Dvx w0 X w b L A) (m : DM w b L w' P) : (∃ L' A', Dvx w0 X w' b L' A' ∧ P A') ∧ Fr (foot b L) w w' := by
  obtain ⟨L', A', d, p, f, sub⟩ := m
  exact ⟨⟨L', A', D.step d f sub, p⟩, f⟩
theorem HpC.dv (hc : HpC w0 X w hb sb b T A N free s base) : Dvx w0 X w b T.L A :=
  ⟨hc.hd.st.dev, hc.hd.fr, fun k hk => hc.hd.new k (.inl hk), fun k hk x => hc.hd.ap k hk (.inl x), hc.hd.xl⟩

/-- The power comes back to a device. -/
theorem x_power (D : Dvx w0 X w b L A) (lt : LogTorn N 0 12304 base xs s A) (hs2 : s < 4294967296) (flip : Bool) (la : Option Addr) (len cap : Nat) (zs : Nat → Int) (hlen : len ≤ maxLen) (hl : Nums w la len zs) :
    Calls Tryz.prog 14 #[ptr b, .bool flip, .slice la len cap] w fun e w' => e = .returned (.tuple #[]) ∧ (∃ L' A' h, Dvx w0 X w' b L' A' ∧ (∀ free, Calm N free A' s h) ∧ Stand N base xs h) ∧ Fr (foot b L) w w' := by
  refine (p_power D.d lt.1 lt.2.1 hs2 flip la len cap zs hlen hl).mono ?_
  rintro e w' ⟨rfl, m⟩
  obtain ⟨⟨L', A', D', h, hp, c⟩, fr⟩ := D.dm m
  exact ⟨rfl, ⟨L', A', h, D', c, lt.2.2 h hp⟩, fr⟩

/-- A store is opened on it, or the power goes. -/
theorem x_open (D : Dvx w0 X w b L A) (c : Calm N free A s h) (st : Stand N base xs h) (hxs : xs.length ≤ 6144) (hN : N * 8 = 12400 + 3984) (hs : s + 12292 < 4294967296) :
    Calls Tryz.prog 15 #[ptr b] w fun e w' => ((∃ sb T A' h', e = .returned (.tuple #[ptr sb, .int .i64 0]) ∧ Hold w0 X w' sb b 3984 T A' [] false ∧ Calm N free A' (s + 12292) h' ∧ Either base xs h') ∨
      (e = .returned (.tuple #[.pointer none, .int .i64 50]) ∧ ¬ free ∧ ∃ L' A', Dvx w0 X w' b L' A' ∧ LogTorn N 0 12304 base xs (s + 12292) A')) ∧ Fr (foot b L) w w' := by
  refine (tx_open (n := 3984) D.d c st hxs hN (by omega) hs).mono ?_
  rintro e w' (⟨sb, rfl, _, op⟩ | ⟨rfl, m⟩)
  · obtain ⟨T, A', h', st', sub, c', ei⟩ := op.ex
    refine ⟨.inl ⟨sb, T, A', h', rfl, ⟨st', D.fr.trans' op.fr (fun k hk => .inr (D.new k hk)), fun k hk => (sub k hk).elim (D.new k) (fun x => Nat.le_trans D.fr.size x), fun k hk x => (sub _ x).elim (D.ap k hk) (fun y => by have := (D.xl k hk).2; omega), fun k hk => ⟨(D.xl k hk).1, Nat.lt_of_lt_of_le (D.xl k hk).2 op.fr.size⟩⟩, c', ei⟩, op.fr⟩
  · obtain ⟨⟨L', A', D', hn, lt⟩, fr⟩ := D.dm m
    exact ⟨.inr ⟨rfl, hn, L', A', D', lt⟩, fr⟩

set_option maxRecDepth 20000 in
/-- The heap is opened on it. -/
theorem x_heap (hd : Hold w0 X w sb b 3984 T A [] false) (c : Calm N free A s f) (k : Clean 0 12304 base f) (tab : TabL w0) (hps : HpS (rb base)) (hs : s + 30729 < 4294967296) :
    Calls Tryz.prog 16 #[ptr sb] w fun e w' => ((∃ hb T' A', e = .returned (.tuple #[ptr hb, .int .i64 0]) ∧ HpC w0 (fun k => X k ∨ k = hb) w' hb sb b T' A' N free (s + 30729) base) ∨
      (e = .returned (.tuple #[.pointer none, .int .i64 50]) ∧ ¬ free ∧ ∃ T' A', Hold w0 X w' sb b 3984 T' A' [] true ∧ LogTorn N 0 12304 base [] (s + 30729) A')) ∧ Fr (tfoot sb b T) w w' := by
  have l0 : 0 < w0.heap.size := World.block_lt_of_cell? _ _ (tab 0 (by omega))
  have sy := says_base c k []
  rw [homed_nil] at sy
  have OP := h_open_by (R := fun P' => P' = []) hd.st c k (fun j hj => hd.fr.cell' (tab j hj) (fun x => x)) (fun ht => by have := hd.new 0 ht; omega) hs (fun w1 hb bx hp bc => (h_openC_old hp (by rw [sy, hps.mrk]; omega) bc).mono (by
    rintro e w3 ⟨rfl, hw⟩
    exact ⟨rfl, T, [], by rw [hw]; exact Onx.start hp.st, rfl⟩))
  refine OP.mono ?_
  rintro e w' (⟨hb, P', T', A', rfl, lh, hl, rfl, o, nh, f', c', k'⟩ | ⟨P', T', A', rfl, rfl, o, hg, lt⟩)
  · rw [homed_nil] at k'
    have h1 := hd.call o
    refine ⟨.inl ⟨hb, T', A', rfl, ⟨⟨h1.st, h1.fr, h1.new, fun k hk => ?_, fun k hk => ?_⟩, ⟨f', c', k'⟩, hl, .inr rfl, l0⟩⟩, o.fr⟩
    · rcases hk with hk | rfl
      · exact h1.ap k hk
      · exact nh
    · rcases hk with hk | rfl
      · exact h1.xl k hk
      · exact ⟨Nat.le_trans hd.fr.size lh, World.block_lt_of_cell? _ _ hl.c0⟩
  · exact ⟨.inr ⟨rfl, hg, T', A', hd.call o, lt⟩, o.fr⟩
end

theorem HpS.root {f : Nat → Int} (s : HpS f) (i : Nat) (h1 : 2 ≤ i) (h2 : i < 18) (v : Nat) (hv : v < 18446744073709551616) : HpS (upd f i v) :=
  ⟨words_upd s.wd i v hv, by rw [upd_other _ _ (by omega)]; exact s.mrk, by rw [fre_upd _ (.inl h2), ask_upd _ (.inl (by omega))]; exact s.inv, by rw [ask_upd _ (.inl (by omega)), upd_other _ _ (by omega)]; exact s.fr⟩

/-- A root was set, and, if asked for, a piece of 20 words taken. -/
structure Rooted (f : Nat → Int) (k v : Nat) (fill : Bool) (g : Nat → Int) : Prop where
  st : HpS g
  root : ∀ j, j < 16 → g (2 + j) = if j = k then (v : Int) else f (2 + j)
  ak : (fill = false ∧ ask g = ask f) ∨ (fill = true ∧ ∃ c u, u = c * 2 ^ lv 20 ∧ c < 478 / 2 ^ lv 20 ∧ ask f u = 0 ∧ ask g = setK (ask f) u 20)

section
variable {w w' w0 : World} {hb sb b bh bk bi bf bs : Nat} {T : Tay} {A : Ab} {P : List (Int × Int)}

end

section
variable {w w' w0 : World} {hb sb b bh bz bi bp ba : Nat} {T : Tay} {A : Ab} {P : List (Int × Int)} {v : Value}

/-- A Do that leaves the heap as it was. -/
theorem HpC.same {X : Nat → Prop} {N : Nat} {s : Int} {base : Nat → Int} (h : HpC w0 X w hb sb b T A N True s base) {g : Nat} {fi ca : Array Value} {R : How → List (Int × Int) → Prop} (hR : ∀ P, R .well P → P = [])
    (hf : ChangeX (fun _ => False) w sb b T 3984 A (.func (.func g) fi ca) (fun h P _ => R h P)) (hs : s + 30729 < 4294967296) :
    Calls Tryz.prog 9 #[ptr sb, .func (.func g) fi ca] w fun e w' => ((R .well [] ∧ e = .returned (.int .i64 0)) ∨ ∃ i P, R (.errno i) P ∧ e = .returned (.int .i64 i)) ∧ (∃ T' A', HpC w0 X w' hb sb b T' A' N True (s + 30729) base) ∧ Fr (fun k => tfoot sb b T k ∨ False) w w' := by
  refine (h.do_ (V := fun _ => False) (fun k hk => hk.elim) (fun x => x) (fun h P w w' F r _ _ => r) hf hs).mono ?_
  rintro e w' ⟨fr, ⟨P', T', A', r, rfl, hc⟩ | ⟨i, P', T', r, rfl, hc⟩⟩
  · obtain rfl := hR _ r
    rw [homed_nil] at hc
    exact ⟨.inl ⟨r, rfl⟩, ⟨T', A', hc⟩, fr⟩
  · exact ⟨.inr ⟨i, P', r, rfl⟩, ⟨T', A, hc.slow (by omega)⟩, fr⟩

section
variable {X : Nat → Prop} {s : Int} {base : Nat → Int}
/-- Where a piece begins, or none does. -/
def Pc (K : Nat → Nat) (at_ : Int) (t : Bool) : Prop := (t = true ∧ ∃ u : Nat, at_ = 160 + u * 8 ∧ K u ≠ 0) ∨ (t = false ∧ NoPiece K at_)

end

/-- What is no piece's place. -/
theorem noPiece_of {K : Nat → Nat} {ls : List (Nat × Nat)} (l : Lists K ls) (at_ : Int) (h : ∀ y ∈ ls, ((160 + y.1 * 8 : Nat) : Int) ≠ at_) : NoPiece K at_ := by
  intro u hu e
  unfold begs
  refine decide_eq_false fun ⟨h0, _⟩ => ?_
  exact h _ (l.all u h0) (by rw [e]; simp)
end
end Go.Proofs.YtacfmmbdeajjbaaGreatDoor
