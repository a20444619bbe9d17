/- Joined: Tk Mk. -/
import Derived.Test.YtflnaiijdpihcaaGreatDoorP12
import Derived.Test.YtflnaiijdpihcaaGreatDoorP14
namespace Go.Proofs.YtflnaiijdpihcaaGreatDoor
open Go.RowKit

section
theorem postM_of {P : Program} {fn : Func} {R : Ending → World → Prop} {e : Exit} {a : Act} {w : World} (h : bodyPost P fn R e a w) : bodyPostM Fence.wide 0 P fn R e a w := by
  cases e with
  | normal => obtain ⟨h1, v, h2, h3⟩ := h; show LeavesInM _ _ _ _ _ _ a.defers _ _; rw [h1]; exact ⟨v, h2, h3⟩
  | ret => obtain ⟨h1, v, h2, h3⟩ := h; show LeavesInM _ _ _ _ _ _ a.defers _ _; rw [h1]; exact ⟨v, h2, h3⟩
  | panic c => obtain ⟨h1, h3⟩ := h; show LeavesInM _ _ _ _ _ _ a.defers _ _; rw [h1]; exact h3
  | exit id => exact h.elim
  | goto l => exact h.elim
  | outgrown => exact h

theorem wpOf_cond {P : Program} {f : FuncId} {Q : Exit → Act → World → Prop} {a : Act} {w : World} {c : Operand} {x y : Code} {t : Bool} (h : a.eval c = .bool t) (hc : wpOf P f (if t then x else y) Q a w) : wpOf P f (Code.cond c x y) Q a w := by
  intro b k cs hro hb
  obtain ⟨e, a₁, w₁, hq, harr⟩ := hc b k cs hro hb
  have s0 := StepsIn.one (fenced_wide P (lone (b.atR a (.code (.cond c x y) :: k)) cs w)) (stepR_cond (P := P) (x := x) (y := y) h)
  exact ⟨e, a₁, w₁, hq, .of_steps s0 harr⟩

structure GvJ (nu sz : Nat) (wa : World) (sb b : Nat) (T4 : Tay) (A : Ab) (n4 : Nat) (vs : List Nat) (k : Nat) (W : World) (T5 : Tay) (P5 : List (Int × Int)) : Prop where
  on : Onx wa sb b T4 W T5 sz A P5 false
  sz2 : wa.heap.size + 2 ≤ W.heap.size
  nd0 : ¬ tfoot sb b T5 wa.heap.size
  nd1 : ¬ tfoot sb b T5 (wa.heap.size + 1)
  len : P5.length ≤ n4 + 10 * k
  st : HpS nu (says P5 A)
  left : ∀ i u, i + k < vs.length → vs[i]? = some u → ask nu (says P5 A) u ≠ 0

theorem GvJ.kept {nu sz : Nat} {wa : World} {sb b : Nat} {T4 : Tay} {A : Ab} {n4 : Nat} {vs : List Nat} {k : Nat} {W W' : World} {T5 : Tay} {P5 : List (Int × Int)} (h : GvJ nu sz wa sb b T4 A n4 vs k W T5 P5) (hf : Fr (pair wa.heap.size) W W') : GvJ nu sz wa sb b T4 A n4 vs k W' T5 P5 :=
  ⟨h.on.turn hf (fun k hk => by unfold pair at hk; rcases hk with e | e; exact e ▸ h.nd0; exact e ▸ h.nd1) (fun k hk => by unfold pair at hk; omega), Nat.le_trans h.sz2 hf.size, h.nd0, h.nd1, h.len, h.st, h.left⟩
theorem GvJ.still {nu sz : Nat} {wa : World} {sb b : Nat} {T4 : Tay} {A : Ab} {n4 : Nat} {vs : List Nat} {k : Nat} {W W' : World} {T5 : Tay} {P5 : List (Int × Int)} (h : GvJ nu sz wa sb b T4 A n4 vs k W T5 P5) (hf : Still W W') : GvJ nu sz wa sb b T4 A n4 vs k W' T5 P5 :=
  ⟨h.on.quiet hf, Nat.le_trans h.sz2 hf.size, h.nd0, h.nd1, h.len, h.st, h.left⟩

section
variable {nu sz : Nat} {w w' w0 : World} {hb sb b : Nat} {T : Tay} {A : Ab} {P : List (Int × Int)}

theorem sliceP (g L cap m : Nat) (w : World) (hm : m ≤ cap) : (Instr.slice 95 (.slice (some ⟨g, 0, none⟩) L cap) none (some (.int .i64 (m : Nat))) none).run Tryz.prog w = .ok (.slice (some ⟨g, 0, none⟩) m cap) w := by
  have he : Tryz.prog.elem 95 = 101 := by kernel_rfl
  have hs : (sizeOf 101).run Tryz.prog w = .ok 4 w := by kernel_rfl
  rw [run_slice_h (P := Tryz.prog) w 95 (some ⟨g, 0, none⟩) L cap (by rw [he]; exact Tryz.underlying95) .i64 (m : Nat) (by omega) (by omega), he, hs]
  simp [Result.andThen, sliced, Addr.add]

theorem back_call (a : Option Addr) (n c : Nat) (w : World) : Calls Tryz.prog 108 #[.slice a n c] w fun e w' => e = .returned (.func (.func 166) #[] #[ptr w.heap.size]) ∧ w' = w.alloc (.cells #[.slice a n c] 95) := by
  have h2 := mf
  go_enter Tryz.func108, Tryz.ntmps108
  go_wp2
  go_ret
  exact ⟨rfl, rfl⟩

attribute [local go_sem] Oper.semAt_some

set_option maxRecDepth 20000 in
set_option maxHeartbeats 4000000 in
theorem r_takeB (h : Hp nu sz w hb sb b T A P) (s : HpS nu (says P A)) {l : List Prt} {g cap lo L : Nat} (hL : l.length = L) (pr : PR w lo (.slice (some ⟨g, 0, none⟩) L cap) l) (hl1 : 1 ≤ L) (hl : L ≤ 17) (hn : ∀ p ∈ l, p.n ≤ 4096) (hm : P.length + 100 * L ≤ 6144)
    (tg : ¬ tfoot sb b T g) (dh : hb ≠ g) (d0 : 0 ≠ g) :
    Calls Tryz.prog 53 #[ptr hb, .slice (some ⟨g, 0, none⟩) L cap] w fun e w' => (e = .returned (.slice (some ⟨g, 0, none⟩) L cap) ∧ ∃ T' P' us, us.length = L ∧ OnxX (fun k => k = g) w sb b T w' T' sz A P' false ∧ P'.length ≤ P.length + 74 * L ∧ HpS nu (says P' A) ∧ Takn nu (says P A) us (l.map fun _ => 32) (says P' A) ∧ PR w' lo (.slice (some ⟨g, 0, none⟩) L cap) (nxs (plc nu l us) (L - 1))) ∨
      (e = .panicked (errnoQ 60) ∧ (∃ T' P', OnxX (fun k => k = g) w sb b T w' T' sz A P' false ∧ P'.length ≤ P.length + 100 * L) ∧ ∃ us f, us.length < L ∧ Takn nu (says P A) us ((l.map fun _ => 32).take us.length) f ∧ ∀ j, 3 ≤ j → j < 7 → ∀ c, fre nu f j c = false) := by
  obtain ⟨W1, hW1⟩ : ∃ W1, w.alloc (.cells #[ptr hb] 25) = W1 := ⟨_, rfl⟩
  obtain ⟨W2, hW2⟩ : ∃ W2, W1.alloc (.cells #[.slice (some ⟨g, 0, none⟩) L cap] 95) = W2 := ⟨_, rfl⟩
  obtain ⟨W3, hW3⟩ : ∃ W3, W2.alloc (.cells #[.int .i64 0] 3) = W3 := ⟨_, rfl⟩
  obtain ⟨gg, hg⟩ : ∃ gg, w.heap.size = gg := ⟨_, rfl⟩
  have z1 : W1.heap.size = gg + 1 := by rw [← hW1]; simp [hg]
  have z2 : W2.heap.size = gg + 2 := by rw [← hW2]; simp; omega
  have z3 : W3.heap.size = gg + 3 := by rw [← hW3]; simp; omega
  have f1 : Still w W1 := hW1 ▸ (Fr.refl _ w).alloc _
  have f2 : Still W1 W2 := hW2 ▸ (Fr.refl _ W1).alloc _
  have f3 : Still W2 W3 := hW3 ▸ (Fr.refl _ W2).alloc _
  have f23 : Still W1 W3 := f2.trans' f3 (fun _ x => x.elim)
  have f03 : Still w W3 := f1.trans' f23 (fun _ x => x.elim)
  have b2 : Box W3 gg (ptr hb) := by
    have := Box.new w (ptr hb) 25
    rw [hW1, hg] at this; exact this.kept f23 (fun x => x)
  have b3 : Box W3 (gg + 1) (.slice (some ⟨g, 0, none⟩) L cap) := by
    have := Box.new W1 (.slice (some ⟨g, 0, none⟩) L cap) 95
    rw [hW2, z1] at this; exact this.kept f3 (fun x => x)
  have b5 : Box W3 (gg + 2) (.int .i64 0) := by
    have := Box.new W2 (.int .i64 0) 3
    rw [hW3, z2] at this; exact this
  have ltg : g < gg := by rw [← hg]; exact (World.ownsRow.lt pr g rfl).2
  have lth : hb < gg := by rw [← hg]; exact h.lth
  have lt0 : 0 < gg := by rw [← hg]; exact h.lt0
  have ft : ∀ k, tfoot sb b T k → k < gg := fun k hk => by rw [← hg]; exact h.st.lt k hk
  have CL := r_takeC (b2 := gg) (b3 := gg + 1) (b5 := gg + 2) (h.still (f03.alloc box)) s hL ((pr.still f03).still ((Fr.refl _ W3).alloc box)) hl hn (by omega) (b2.alloc box) (b3.alloc box) (b5.alloc box) (fun x => by have := ft _ x; omega) (fun x => by have := ft _ x; omega) (fun x => by have := ft _ x; omega) tg (by omega) (by omega) (by omega) (by omega) (by omega)
  have TR : Calls Tryz.prog 99 #[.func (.func 106) #[] #[ptr (gg + 2), ptr (gg + 1), ptr gg]] W3 fun e w' => ∃ h : How, e = .returned (.tuple #[h.v, .bool h.is]) ∧ ((h = .well ∧ ∃ T' P' us, us.length = L ∧ OnxX (fun k => k = g ∨ k = gg + 2) W3 sb b T w' T' sz A P' false ∧ P'.length ≤ P.length + 74 * L ∧ HpS nu (says P' A) ∧ Takn nu (says P A) us (l.map fun _ => 32) (says P' A) ∧ PR w' lo (.slice (some ⟨g, 0, none⟩) L cap) (plc nu l us)) ∨ (h = .errno 60 ∧ ∃ T' P' us, us.length < L ∧ OnxX (fun k => k = g ∨ k = gg + 2) W3 sb b T w' T' sz A P' false ∧ P'.length ≤ P.length + 74 * us.length ∧ HpS nu (says P' A) ∧ Takn nu (says P A) us ((l.map fun _ => 32).take us.length) (says P' A) ∧ PR w' lo (.slice (some ⟨g, 0, none⟩) L cap) (plc nu l us) ∧ Box w' (gg + 2) (.int .i64 us.length) ∧ ∀ j, 3 ≤ j → j < 7 → ∀ c, fre nu (says P' A) j c = false)) :=
    try_fr (F := fun k => tfoot sb b T k ∨ k = g ∨ k = gg + 2) (fun k hk => by rcases hk with hk | hk | hk; (· have := ft k hk; omega); (· omega); (· omega)) (acts_of (fun _ _ => by kernel_rfl) (CL.mono (by
      rintro e w' ⟨T', P', us, hh | ⟨hQ, hlt, hno⟩, o, el, sq, tk, pr', b5'⟩
      · obtain ⟨rfl, hu⟩ := hh
        refine ⟨.well, rfl, o.fr, fun w2 f2 => .inl ⟨rfl, T', P', us, hu, ?_, by omega, sq, ?_, ?_⟩⟩
        · exact OnxX.boxed (h.still f03).st (Fr.refl _ W3) o f2
        · rw [List.take_of_length_le (by simp; omega)] at tk; exact tk
        · exact pr'.kept f2 (fun k hk e => by cases hk; have e : g = W3.heap.size := e; omega)
      · refine ⟨.errno 60, hQ ▸ How.ended_one _ _, o.fr, fun w2 f2 => .inr ⟨rfl, T', P', us, hlt, ?_, el, sq, tk, ?_, ?_, hno⟩⟩
        · exact OnxX.boxed (h.still f03).st (Fr.refl _ W3) o f2
        · exact pr'.kept f2 (fun k hk e => by cases hk; have e : g = W3.heap.size := e; omega)
        · exact b5'.kept f2 (fun e => by have e : gg + 2 = W3.heap.size := e; omega))))
  have ER := g_errno TR (fun h w' x => x.elim (fun y => .inl y.1) (fun y => .inr ⟨60, y.1⟩))
  have mfk := mf
  have HER := hide ER; have HW := hide (And.intro hW1 (And.intro hW2 hW3)); have HF := hide f03; have HB := hide (And.intro b2 (And.intro b3 ltg)); have HFT := @hide _ ft
  have HZ := hide (And.intro hg (And.intro z1 (And.intro z2 z3))); have HHL := hide hL
  have HHH := hide (And.intro h (And.intro s lt0))
  clear h s pr hn CL TR ER f1 f2 f3 f23 f03 b2 b3 b5 hW1 hW2 hW3 z1 z2 z3 ft hL
  have hwd : Fence.wide.depth = none := rfl
  have hwf : ∀ f, Fence.wide.fn f := fun _ => trivial
  refine calls_of_wpOf Tryz.func53 rfl ?_
  simp only [Tryz.ntmps53, List.size_toArray, List.length_cons, List.length_nil, Nat.reduceAdd, Nat.reduceSub, Array.replicate_succ, Array.replicate_zero, List.push_toArray, List.append_toArray, List.nil_append, List.cons_append]
  refine wpOf_seq (wpOf_of_wp ?_)
  go_wp2
  show wpOf _ _ _ _ _ _
  refine wpOf_seq (wpOf_of_wp ?_)
  go_wp2
  show wpOf _ _ _ _ _ _
  refine wpOf_seq (wpOf_of_wp ?_)
  go_wp2_with fail
  rw [(unhide HW).1, (unhide HW).2.1, (unhide HW).2.2, show gg + 1 + 1 = gg + 2 from rfl]
  refine (unhide HER).mono ?_
  clear HER HW
  rintro e w4 (⟨rfl, hwell | ⟨hf, _⟩⟩ | ⟨i, rfl, ⟨hf, _⟩ | ⟨hi, hfull⟩⟩)
  · have HWELL := hide hwell
    clear hwell
    go_wp2
    show wpOf _ _ _ _ _ _
    refine wpOf_mono (wpOf_of_wp (Q := bodyPost Tryz.prog Tryz.f53 _) ?_) (fun e a w hq => postM_of hq)
    obtain ⟨-, T4, P4, us, hu, o4, el4, s4, tk4, pr4⟩ := unhide HWELL
    clear HWELL
    obtain ⟨B2, B3, ltg'⟩ := unhide HB
    have n3 : ¬ tfoot sb b T (gg + 1) := fun x => by have := unhide HFT _ x; omega
    have B34 := B3.kept o4.fr (fun x => by rcases x with x | x | x; (· exact n3 x); (· omega); (· omega))
    have c3 := B34.c
    have on3 := o4.other (k := gg + 1) (by have := (unhide HZ).2.2.2; omega) n3
    have ong := o4.other (k := g) (by have := (unhide HZ).2.2.2; omega) tg
    have hpl : (plc nu l us).length = L := by rw [plc_len]; exact unhide HHL
    generalize hple : plc nu l us = pl at *
    have HPLE := hide hple
    clear hple
    have HX := hide (And.intro hu (And.intro o4 (And.intro el4 (And.intro s4 tk4)))); have HPR := hide pr4; have HB34 := hide B34; have HPL := hide hpl
    obtain ⟨L', rfl⟩ : ∃ L', L = L' + 1 := ⟨L - 1, by omega⟩
    have capf : L' + 1 ≤ cap := by
      rcases pr4.form with ⟨e, _⟩ | ⟨_, _, e, hc, _⟩
      · cases e
      · injection e with e1 e2 e3; omega
    clear o4 el4 s4 tk4 pr4 B34 B3 B2 hu HB hpl
    rcases Nat.eq_or_lt_of_le (show 1 ≤ cap by omega) with hc | hc
    · subst hc
      go_wp2_with fail
      go_loopw [31] (fun iv wr => ∃ m : Nat, m ≤ L' ∧ iv = .int .i64 m ∧ Fr (fun k => k = g) w4 wr ∧ PR wr lo (.slice (some ⟨g, 0, none⟩) (L' + 1) 1) (nxs pl m)) (fun iv wr => L' - (intOf iv).toNat)
      case atStart => exact ⟨0, by omega, rfl, Fr.refl _ _, by rw [nxs_zero]; exact unhide HPR⟩
      case round =>
        obtain ⟨m, hmL, rfl, fq, prq⟩ := hrel
        generalize wr = wq at *
        clear wr
        have c3q := fq.cell' c3 (fun e => by have e : gg + 1 = g := e; omega)
        by_cases hlt : m < L'
        · exact absurd hlt (by omega)
        · have em : m = L' := by omega
          subst em
          have hlt' : ((m : Int) < m) = False := by simp
          have HXX := hide (And.intro fq prq)
          clear fq prq
          go_wp2
          go_ret
          obtain ⟨fq, prq⟩ := unhide HXX
          obtain ⟨hu, o4, el4, s4, tk4⟩ := unhide HX
          obtain ⟨zg, z1, z2, z3⟩ := unhide HZ
          have o5 := o4.var fq (fun k hk => .inl hk) (fun k hk => hk ▸ ong)
          refine .inl ⟨rfl, T4, P4, us, hu, ?_, el4, s4, tk4, ?_⟩
          · exact ⟨o5.st, ((unhide HF).mono (G := fun k => tfoot sb b T k ∨ k = g) (fun _ hk => hk.elim)).trans' o5.fr (fun k hk => by
              rcases hk with hk | hk | hk
              · exact .inl (.inl hk)
              · exact .inl (.inr hk)
              · exact .inr (by omega)), fun k hk => (o5.sub k hk).imp id (fun x => Nat.le_trans (unhide HF).size x)⟩
          · rw [unhide HPLE]; exact prq
    · have hcn : ¬ cap = 1 := by omega
      go_wp2_with fail
      go_loopw [31] (fun iv wr => ∃ m : Nat, m ≤ L' ∧ iv = .int .i64 m ∧ Fr (fun k => k = g) w4 wr ∧ PR wr lo (.slice (some ⟨g, 0, none⟩) (L' + 1) cap) (nxs pl m)) (fun iv wr => L' - (intOf iv).toNat)
      case atStart => exact ⟨0, by omega, rfl, Fr.refl _ _, by rw [nxs_zero]; exact unhide HPR⟩
      case round =>
        obtain ⟨m, hmL, rfl, fq, prq⟩ := hrel
        generalize wr = wq at *
        clear wr
        have c3q := fq.cell' c3 (fun e => by have e : gg + 1 = g := e; omega)
        by_cases hlt : m < L'
        · have hlt' : ((m : Int) < L') = True := by simp; omega
          obtain ⟨p, hp⟩ : ∃ p, pl[m]? = some p := ⟨_, List.getElem?_eq_getElem (by rw [unhide HPL]; omega)⟩
          obtain ⟨q, hq⟩ : ∃ q, pl[m + 1]? = some q := ⟨_, List.getElem?_eq_getElem (by rw [unhide HPL]; omega)⟩
          obtain ⟨e0, e1, e2, e3⟩ := prq.cells (nxs_at hp (Nat.le_refl m))
          obtain ⟨x0, x1, x2, x3⟩ := prq.cells (nxs_at hq (Nat.le_succ m))
          have gz : ∀ i, wq.frozen? ⟨g, i, none⟩ = false := fun i => by
            rcases prq.form with ⟨e, _⟩ | ⟨g', cap', e, _, _, _, hz⟩
            · cases e
            · injection e with e1 _ _; injection e1 with e1; injection e1 with e1 _ _; subst e1; exact hz i
          have gz3 := gz (m * 4 + 3)
          have im : IntKind.i64.wrap ((m : Int) + 1) = (m : Int) + 1 := (wrap_small _ (by omega) (by omega)).1
          have hlt2 : ((m : Int) + 1 < L' + 1) = True := by simp; omega
          have HXX := hide (And.intro fq (And.intro prq (And.intro hp hq)))
          clear fq prq hp hq gz e0 e1 e2 x1 x2 x3
          obtain ⟨qa', hqa⟩ : ∃ x, q.at_ = x := ⟨_, rfl⟩
          obtain ⟨pn, hpn⟩ : ∃ x, p.nx = x := ⟨_, rfl⟩
          rw [hqa] at x0; rw [hpn] at e3
          have HQA := hide hqa
          clear hqa hpn
          go_upto_region 12 with fail
          refine region_tailP 8 (by kernel_rfl) (by kernel_rfl) ?_
          simp only [List.take_succ_cons, List.take_zero, List.drop_succ_cons, List.drop_zero]
          repeat (go_big_quiet_step (first | fail))
          refine wpQuiet_nil ?_
          rintro _ ⟨nq, rfl⟩
          go_wp2
          obtain ⟨fq, prq, hp, hq⟩ := unhide HXX
          refine ⟨⟨m + 1, by omega, by go_num, ?_, ?_⟩, by simp [intOf]; omega⟩
          · exact (fq.drewN nq).setCell (.inl rfl) _
          · have s7 := (prq.still ((Fr.refl _ wq).drewN nq)).setNx (k := m) (p := p) (nxs_at hp (Nat.le_refl m)) q.at_
            rw [nxs_set hp hq, unhide HQA] at s7
            exact s7
        · have em : m = L' := by omega
          subst em
          have hlt' : ((m : Int) < m) = False := by simp
          have HXX := hide (And.intro fq prq)
          clear fq prq
          go_wp2
          go_ret
          obtain ⟨fq, prq⟩ := unhide HXX
          obtain ⟨hu, o4, el4, s4, tk4⟩ := unhide HX
          obtain ⟨zg, z1, z2, z3⟩ := unhide HZ
          have o5 := o4.var fq (fun k hk => .inl hk) (fun k hk => hk ▸ ong)
          refine .inl ⟨rfl, T4, P4, us, hu, ?_, el4, s4, tk4, ?_⟩
          · exact ⟨o5.st, ((unhide HF).mono (G := fun k => tfoot sb b T k ∨ k = g) (fun _ hk => hk.elim)).trans' o5.fr (fun k hk => by
              rcases hk with hk | hk | hk
              · exact .inl (.inl hk)
              · exact .inl (.inr hk)
              · exact .inr (by omega)), fun k hk => (o5.sub k hk).imp id (fun x => Nat.le_trans (unhide HF).size x)⟩
          · rw [unhide HPLE]; exact prq
  · exact (well_errnoG hf).elim
  · exact (well_errnoG hf.symm).elim
  · have ei : i = 60 := by injection hi with hi; injection hi with hi; injection hi with _ hi; injection hi
    subst ei
    obtain ⟨T4, P4, us, hu, o4, el4, s4, tk4, pr4, b54, hno⟩ := hfull
    obtain ⟨B2, B3, ltg'⟩ := unhide HB
    obtain ⟨h, s, lt0⟩ := unhide HHH
    obtain ⟨zg, z1, z2, z3⟩ := unhide HZ
    have f03 := unhide HF
    have n2 : ¬ tfoot sb b T gg := fun x => by have := unhide HFT _ x; omega
    have n3 : ¬ tfoot sb b T (gg + 1) := fun x => by have := unhide HFT _ x; omega
    have B24 := B2.kept o4.fr (fun x => by rcases x with x | x | x; (· exact n2 x); (· omega); (· omega))
    have B34 := B3.kept o4.fr (fun x => by rcases x with x | x | x; (· exact n3 x); (· omega); (· omega))
    have lth : hb < gg := by rw [← zg]; exact h.lth
    have h4 : Hp nu sz w4 hb sb b T4 A P4 := ⟨o4.st, (h.still f03).hp.kept o4.fr (fun x => by rcases x with x | x | x; (· exact h.nh x); (· exact dh x); (· omega)) (fun x => by rcases x with x | x | x; (· exact h.n0 x); (· exact d0 x); (· omega)), o4.other (by omega) h.nh, o4.other (by omega) h.n0, h.ha⟩
    have t4g := o4.other (k := g) (by omega) tg
    have t42 := o4.other (k := gg) (by omega) n2
    have capf : L ≤ cap := by
      rcases pr4.form with ⟨e, _⟩ | ⟨_, _, e, hc, _⟩
      · cases e
      · injection e with e1 e2 e3; rw [plc_len, unhide HHL] at hc; omega
    obtain ⟨m, hm'⟩ : ∃ m, us.length = m := ⟨_, rfl⟩
    have c3 := B34.c
    have c5 := b54.c
    rw [hm'] at c5
    have sl : ∀ w, (Instr.slice 95 (.slice (some ⟨g, 0, none⟩) L cap) none (some (.int .i64 m)) none).run Tryz.prog w = .ok (.slice (some ⟨g, 0, none⟩) m cap) w := fun w => sliceP g L cap m w (by omega)
    obtain ⟨D, hD⟩ : ∃ D, w4.heap.size = D := ⟨_, rfl⟩
    obtain ⟨wa, hwa⟩ : ∃ wa, w4.alloc (.cells #[.slice (some ⟨g, 0, none⟩) m cap] 95) = wa := ⟨_, rfl⟩
    have zD : wa.heap.size = D + 1 := by rw [← hwa]; simp [hD]
    have fa : Still w4 wa := hwa ▸ (Fr.refl _ w4).alloc _
    have BD : Box wa D (.slice (some ⟨g, 0, none⟩) m cap) := by
      have := Box.new w4 (.slice (some ⟨g, 0, none⟩) m cap) 95
      rw [hwa, hD] at this; exact this
    have HX := hide (And.intro o4 (And.intro el4 (And.intro s4 (And.intro tk4 (And.intro pr4 (And.intro hno (And.intro h4 (And.intro B24 (And.intro fa (And.intro BD (And.intro t4g t42)))))))))))
    have HU := hide (And.intro hu (And.intro hm' (And.intro hD zD))); have HWA := hide hwa
    clear o4 el4 s4 tk4 pr4 hno h4 B24 B34 B2 B3 b54 h s f03 fa BD t4g t42 hu n2 n3 hwa hi
    go_wp2
    show wpOf _ _ _ _ _ _
    refine wpOf_seq (wpOf_seq (wpOf_of_wp ?_))
    go_wp2
    show wpOf _ _ _ _ _ _
    refine wpOf_cond (t := true) rfl ?_
    simp only [if_true]
    refine wpOf_seq (wpOf_of_wp ?_)
    go_wp2_with (go_at_call 108; refine (back_call _ _ _ _).mono ?_; rintro e w' ⟨rfl, rfl⟩)
    show wpOf _ _ _ _ _ _
    rw [unhide HWA]
    have hpl : ((plc nu l us).take m).length = m := by
      obtain ⟨hu, hm', _, _⟩ := unhide HU
      rw [List.length_take, plc_len, unhide HHL]; omega
    have hpa : ∀ (i : Nat) (p : Prt), ((plc nu l us).take m)[i]? = some p → ∃ u, us[i]? = some u ∧ p.at_ = fi nu + u * 8 ∧ (plc nu l us)[i]? = some p := fun i p hp => by
      obtain ⟨hu, hm', _, _⟩ := unhide HU
      have hi : i < m := by have := (List.getElem?_eq_some_iff.1 hp).1; omega
      rw [List.getElem?_take, if_pos hi] at hp
      obtain ⟨u, hu'⟩ : ∃ u, us[i]? = some u := ⟨_, List.getElem?_eq_getElem (l := us) (i := i) (by omega)⟩
      refine ⟨u, hu', ?_, hp⟩
      simp only [plc, List.getElem?_mapIdx, hu'] at hp
      cases hq : l[i]? with
      | none => rw [hq] at hp; simp at hp
      | some p' =>
        rw [hq] at hp
        simp only [Option.map_some, Option.some.injEq] at hp
        rw [← hp]
    have HPL := hide hpl; have HPA := @hide _ hpa
    clear hpl hpa
    generalize hpp : (plc nu l us).take m = pl at *
    clear hpp
    refine wpOf_block (range_okA (gf := 166) (lb := #[ptr D]) (N := m) (enc := backE pl) rfl (fun _ _ => by kernel_rfl) ⟨_, Tryz.func53⟩ (fun k => rfl)
      (fun k W => ∃ T5 P5, GvJ nu sz wa sb b T4 A P4.length us k W T5 P5)
      (fun k a' W => ∃ (T5 : Tay) (P5 : List (Int × Int)) (u : Nat) (p : Prt) (q : Nat), GvJ nu sz wa sb b T4 A P4.length us k W T5 P5 ∧ us[m - 1 - k]? = some u ∧ p.at_ = fi nu + u * 8 ∧ W.heap[q]? = some (.cells #[.int .i64 p.at_, .int .u64 (kdN p.fr), .int .i64 p.n, .int .i64 p.nx] 101 (0, 0)) ∧ D + 3 ≤ q ∧ ¬ tfoot sb b T5 q ∧
        a' = { tmps := #[ptr hb, .slice (some ⟨g, 0, none⟩) L cap, .pointer (some ⟨gg, 0, none⟩), .pointer (some ⟨gg + 1, 0, none⟩), .slice none 0 0, .pointer (some ⟨gg + 2, 0, none⟩), .int .i64 60, undef, .pointer (some ⟨q, 0, none⟩), undef, .func (.func 106) #[] #[.pointer (some ⟨gg + 2, 0, none⟩), .pointer (some ⟨gg + 1, 0, none⟩), .pointer (some ⟨gg, 0, none⟩)], .int .i64 60, .int .i64 60, .bool true, .slice (some ⟨g, 0, none⟩) L cap, .int .i64 m, .slice (some ⟨g, 0, none⟩) m cap, .func (.func 166) #[] #[ptr D], .int .i64 ((m : Int) - 1 - k), .agg #[.int .i64 p.at_, .int .u64 (kdN p.fr), .int .i64 p.n, .int .i64 p.nx], undef, undef, undef, undef, undef, undef, undef, undef, undef, undef, undef, undef, undef, undef, undef, undef, undef, undef, undef, undef, undef, undef, undef, undef, undef, undef], defers := [] })
      (fun _ => False) (fun _ _ => False) ?hJ ?hJA (fun _ _ h _ => h) ?hseq ?h0 ?hassign ?hbody ?hdone (fun _ h _ => h.elim) (fun _ _ h _ => h.elim))
    case hJ => rintro k W W' ⟨T5, P5, gj⟩ hf; exact ⟨T5, P5, gj.kept hf⟩
    case hJA =>
      rintro k a W W' ⟨T5, P5, u, p, q, gj, e1, e2, e3, e4, e5, rfl⟩ hf
      obtain ⟨hu, hm', hD, zD⟩ := unhide HU
      exact ⟨T5, P5, u, p, q, gj.kept hf, e1, e2, (hf.block q (Array.getElem?_eq_some_iff.1 e3).1 (fun hj => by unfold pair at hj; omega)).trans e3, e4, e5, rfl⟩
    case hseq =>
      obtain ⟨hu, hm', hD, zD⟩ := unhide HU
      obtain ⟨o4, el4, s4, tk4, pr4, hno, h4, B24, fa, BD, t4g, t42⟩ := unhide HX
      refine back_ok D (wa.heap.size + 1) g cap m pl _ (unhide HPL) (by omega) ?_
      rintro k W ⟨T5, P5, gj⟩
      refine ⟨gj.on.fr.cell' BD.c (fun x => by have := h4.st.lt D x; omega), fun i p hp => ?_⟩
      obtain ⟨u, _, _, hp'⟩ := unhide HPA i p hp
      exact ((pr4.still fa).kept gj.on.fr (fun k hk => by cases hk; exact t4g)).cells hp'
    case h0 =>
      intro ob1 ob2
      obtain ⟨hu, hm', hD, zD⟩ := unhide HU
      obtain ⟨o4, el4, s4, tk4, pr4, hno, h4, B24, fa, BD, t4g, t42⟩ := unhide HX
      have fo : Still wa ((wa.alloc ob1).alloc ob2) := ((Fr.refl _ wa).alloc ob1).alloc ob2
      refine ⟨T4, P4, (Onx.start (h4.st.still fa)).quiet fo, by simp, fun x => by have := h4.st.lt _ x; omega, fun x => by have := h4.st.lt _ x; omega, by omega, s4, fun i u hi hu' => ?_⟩
      have tf := tk4.facts (unhide HHH).2.1 (fun x hx => by obtain ⟨p, _, rfl⟩ := List.mem_map.1 (List.mem_of_mem_take hx); exact (by omega : 1 ≤ 32))
      obtain ⟨x, hx⟩ : ∃ x, ((l.map fun _ => 32).take us.length)[i]? = some x := ⟨_, List.getElem?_eq_getElem (by rw [← tf.len]; exact (List.getElem?_eq_some_iff.1 hu').1)⟩
      rw [tf.is i u x hu' hx]
      obtain ⟨p, _, rfl⟩ := List.mem_map.1 (List.mem_of_mem_take (List.mem_of_getElem? hx))
      have : 1 ≤ 32 := by omega
      omega
    case hassign =>
      rintro l' k W K ⟨T5, P5, gj⟩ hk hK
      obtain ⟨p, hp⟩ : ∃ p, pl[m - 1 - k]? = some p := ⟨_, List.getElem?_eq_getElem (l := pl) (i := m - 1 - k) (by have := unhide HPL; omega)⟩
      obtain ⟨u, hu', hpe, _⟩ := unhide HPA _ p hp
      have ce : backE pl k = #[.int .i64 ((m : Int) - 1 - k), .agg #[.int .i64 p.at_, .int .u64 (kdN p.fr), .int .i64 p.n, .int .i64 p.nx]] := by
        unfold backE
        rw [unhide HPL, hp]
      rw [ce]
      have HGJ := hide (And.intro gj (And.intro hu' hpe)); have HHK := @hide _ hK
      clear gj hu' hpe hK hp ce HX
      gi_wp2
      obtain ⟨gj, hu', hpe⟩ := unhide HGJ
      obtain ⟨hu, hm', hD, zD⟩ := unhide HU
      have hsz := gj.sz2
      exact unhide HHK _ _ ⟨T5, P5, u, p, W.heap.size, gj.still ((Fr.refl _ W).alloc _), hu', hpe, heap_alloc_new W _, by omega, fun x => by have := gj.on.st.lt _ x; omega, rfl⟩ (Below.heap_alloc W _ _ (by omega)) (Below.heap_alloc W _ _ (by omega))
    case hbody =>
      rintro l' k a' W ⟨T5, P5, u, p, q, gj, hu', hpe, ob, hq, nq, rfl⟩ hk
      obtain ⟨hu, hm', hD, zD⟩ := unhide HU
      obtain ⟨o4, el4, s4, tk4, pr4, hno, h4, B24, fa, BD, t4g, t42⟩ := unhide HX
      have hW := (h4.still fa).call gj.on
      have cB : W.cell? ⟨gg, 0, none⟩ = some (ptr hb) := gj.on.fr.cell' (fa.cell' B24.c (fun x => x)) t42
      have y0 : W.cell? ⟨q, 0, none⟩ = some (.int .i64 (fi nu + u * 8)) := by have := cell_of_obj ob 0; rw [← hpe]; exact this
      have glen := gj.len
      have GV := h_give hW gj.st (by omega) u (gj.left (m - 1 - k) u (by omega) hu')
      have HGV := hide GV
      have HGJ := hide (And.intro gj (And.intro hu' (And.intro (And.intro hm' zD) tk4)))
      clear GV gj hu' hpe ob o4 el4 s4 tk4 pr4 hno h4 B24 fa BD t4g t42 hW hu hm' hD zD glen
      gi_wp2_with fail
      refine (CallsIn.inRound l' (callsIn_wide.2 (unhide HGV))).mono ?_
      clear HGV
      rintro e w6 ⟨rfl, g', t6, gv⟩
      have HT6 := hide (And.intro t6 gv)
      clear t6 gv
      gi_wp2
      obtain ⟨⟨T6, P6, o6, e6, l6⟩, gv⟩ := unhide HT6
      obtain ⟨gj, hu', ⟨hm', zD⟩, tk4⟩ := unhide HGJ
      subst e6
      have hsz := gj.sz2
      have tf := tk4.facts (unhide HHH).2.1 (fun x hx => by obtain ⟨p, _, rfl⟩ := List.mem_map.1 (List.mem_of_mem_take hx); exact (by omega : 1 ≤ 32))
      refine ⟨⟨o6.fr.block _ (by omega) gj.nd0, o6.fr.block _ (by omega) gj.nd1⟩, T6, P6, gj.on.trans o6, Nat.le_trans hsz o6.fr.size, o6.other (by omega) gj.nd0, o6.other (by omega) gj.nd1, by have := gj.len; omega, gv.st, fun i v hi hv => ?_⟩
      rw [gv.ak]
      have hne : v ≠ u := fun e => by
        subst e
        have := (List.getElem?_inj (List.getElem?_eq_some_iff.1 hv).1 tf.nd).1 (hv.trans hu'.symm)
        omega
      unfold setK
      rw [if_neg hne]
      exact gj.left i v (by omega) hv
    case hdone =>
      rintro W ⟨T5, P5, gj⟩ hDD
      have HGJ := hide (And.intro gj hDD)
      clear gj hDD
      show wpOf _ _ _ _ _ _
      refine wpOf_of_wp ?_
      go_wp2
      obtain ⟨gj, hDD⟩ := unhide HGJ
      obtain ⟨hu, hm', hD, zD⟩ := unhide HU
      obtain ⟨o4, el4, s4, tk4, pr4, hno, h4, B24, fa, BD, t4g, t42⟩ := unhide HX
      obtain ⟨zg, z1, z2, z3⟩ := unhide HZ
      rw [zD] at hDD
      refine ⟨by simp, .inl ⟨_, _, rfl, run_takeDeferred hDD, ?_⟩⟩
      have fp : Fr (fun j => j = D + 1) W (W.putObj (D + 1) (.deferred none)) := (Fr.refl (fun j => j = D + 1) W).putObj (.inl rfl) _
      have o5 := (gj.on.turn fp (fun k hk => by have hk : k = D + 1 := hk; rw [hk, ← zD]; exact gj.nd0) (fun k hk => by have hk : k = D + 1 := hk; omega)).after fa
      have o6 := o4.trans o5
      refine .inr ⟨rfl, ⟨T5, P5, ⟨o6.st, ((unhide HF).mono (G := fun k => tfoot sb b T k ∨ k = g) (fun _ hk => hk.elim)).trans' o6.fr (fun k hk => ?_), fun k hk => (o6.sub k hk).imp id (fun x => Nat.le_trans (unhide HF).size x)⟩, by have := gj.len; omega⟩, us, by omega, _, tk4, hno⟩
      rcases hk with hk | hk | hk
      · exact .inl (.inl hk)
      · exact .inl (.inr hk)
      · exact .inr (by omega)
end
end

section
section
variable {nu sz : Nat} {w w' w0 : World} {hb sb b : Nat} {T : Tay} {A : Ab} {P : List (Int × Int)}

set_option maxRecDepth 20000 in
set_option maxHeartbeats 4000000 in
theorem r_makeB (h : Hp nu sz w hb sb b T A P) (s : HpS nu (says P A)) {a : Option Addr} {n cp : Nat} {bt : Nat → Nat} (hN : Nats .u8 w a n bt) (hb8 : ∀ i, i < n → bt i < 256) (n4 : n ≤ 4096) (hm : P.length + 2000 ≤ 6144)
    (na : ∀ x, a = some x → ¬ tfoot sb b T x.block) :
    Calls Tryz.prog 13 #[ptr sb, ptr hb, .slice a n cp] w fun e w' => (∃ u us g, e = .returned (.int .i64 (fi nu + 8 * u : Nat)) ∧ To sz w sb b T A w' g (P.length + 2000) ∧ RecS nu sz g u us n 1 (wordN bt n) ∧ Mde nu (says P A) (u :: us) g) ∨ (e = .panicked (errnoQ 60) ∧ ∃ T' P', Onx w sb b T w' T' sz A P' false) := by
  have PL := r_planned n n4 w
  have big : ((4096 : Int) < n) = False := by simp; omega
  obtain ⟨L, hL⟩ : ∃ L, (chn true n 17).length = L := ⟨_, rfl⟩
  have hl1 : 1 ≤ L := by rw [← hL]; exact chn_one true n 16
  have hl10 : L ≤ 17 := by rw [← hL]; exact chn_len true n 17
  rw [hL] at PL
  have TK : ∀ w1 g cap, Still w w1 → w.heap.size ≤ g → PR w1 w.heap.size (.slice (some ⟨g, 0, none⟩) L cap) (chn true n 17) → Calls Tryz.prog 53 #[ptr hb, .slice (some ⟨g, 0, none⟩) L cap] w1 _ := fun w1 g cap f1 hg pr =>
    r_takeB (h.still f1) s hL pr hl1 (by omega) (fun p hp => by have := chn_le true n 17 p hp; omega) (by omega) (fun x => by have := h.st.lt g x; omega) (by have := h.lth; omega) (by have := h.lt0; omega)
  have HPL := hide PL; have HTK := @hide _ TK; have HH := hide h; have HS := hide s; have HN := hide (And.intro hN (And.intro hb8 na)); have HL := hide hL
  clear PL TK h s hN hb8 na hL
  go_enter Tryz.func13, Tryz.ntmps13
  go_wp2_with fail
  refine (unhide HPL).mono ?_
  clear HPL
  rintro e w1 ⟨g, cap, rfl, pr1, f1⟩
  have gw : w.heap.size ≤ g := (World.ownsRow.lt pr1 g rfl).1
  have TK1 := hide (unhide HTK w1 g cap f1 gw pr1)
  have HF1 := hide (And.intro f1 gw); have HP1 := hide pr1
  clear f1 pr1 HTK
  go_wp2_with fail
  refine (unhide TK1).mono ?_
  clear TK1
  rintro e w2 (⟨rfl, T2, P2, vs, hv, o2, el2, s2, tk2, pr2⟩ | ⟨rfl, ⟨T2, P2, o2, _⟩, _⟩)
  rotate_left
  · exact ⟨rfl, .inr ⟨rfl, T2, P2, o2.st, ((unhide HF1).1.mono (G := tfoot sb b T) (fun _ hk => hk.elim)).trans' o2.fr (fun k hk => by
      rcases hk with hk | hk
      · exact .inl hk
      · subst hk; exact .inr (unhide HF1).2), fun k hk => (o2.sub k hk).imp id (fun x => Nat.le_trans (unhide HF1).1.size x)⟩⟩
  have o2' : Onx w sb b T w2 T2 sz A P2 false := ⟨o2.st, ((unhide HF1).1.mono (G := tfoot sb b T) (fun _ hk => hk.elim)).trans' o2.fr (fun k hk => by
    rcases hk with hk | hk
    · exact .inl hk
    · subst hk; exact .inr (unhide HF1).2), fun k hk => (o2.sub k hk).imp id (fun x => Nat.le_trans (unhide HF1).1.size x)⟩
  obtain ⟨hN, hb8, na⟩ := unhide HN
  have PK := pack_ok a n cp bt w2 (hN.fr o2'.fr na) hb8 (by omega)
  have hvl : vs.length = (chn true n (16 + 1)).length := by rw [hv]; exact (unhide HL).symm
  have hb9 : bhN true n ≤ 248 * 16 := by unfold bhN ahd; simp; omega
  have epc := placed_chain nu true n 16 vs hb9 hvl
  rw [hv] at epc
  rw [epc] at pr2
  have HE := hide (And.intro (ends_of true n 16 vs hb9 hvl) hvl)
  have ng2 := o2.other (k := g) (World.ownsRow.lt (unhide HP1) g rfl).2 (fun x => by have := (unhide HH).st.lt g x; have := (unhide HF1).2; omega)
  have HNG := hide ng2
  have tf := tk2.facts (unhide HS) (fun x hx => by obtain ⟨p, _, rfl⟩ := List.mem_map.1 hx; exact (by omega : 1 ≤ 32))
  have as0 := asks_of true n 17 vs hvl tf.is
  have vlt : ∀ v ∈ vs, ask nu (says P2 A) v ≠ 0 ∧ v < nu := fun v hv' => by
    obtain ⟨k, hk⟩ := List.getElem?_of_mem hv'
    have hkl := (List.getElem?_eq_some_iff.1 hk).1
    obtain ⟨x, hx⟩ : ∃ x, ((chn true n 17).map fun _ => 32)[k]? = some x := ⟨_, List.getElem?_eq_getElem (by rw [← tf.len]; exact hkl)⟩
    have e := tf.is k v x hk hx
    obtain ⟨p, _, rfl⟩ := List.mem_map.1 (List.mem_of_getElem? hx)
    have hne : ask nu (says P2 A) v ≠ 0 := by rw [e]; omega
    exact ⟨hne, (s2.inv.asks v hne).1⟩
  have HTF := hide (And.intro tf as0); have HVL := @hide _ vlt
  clear tf as0 vlt
  have HPK := hide PK; have HX2 := hide (And.intro o2' (And.intro el2 (And.intro s2 (And.intro tk2 (And.intro pr2 hv)))))
  clear PK o2 o2' el2 s2 tk2 pr2 hN hb8 na epc hvl hb9 hv HF1
  go_wp2_with fail
  refine (unhide HPK).mono ?_
  clear HPK
  rintro e w3 ⟨rfl, mm⟩
  have f23 : Still w2 w3 := Fr.ofBelow mm.bel
  have hnd : need n = (n + 7) / 8 + 1 := by unfold need; omega
  have sl : ∀ w, (Instr.slice 98 (.slice (some ⟨w2.heap.size, 0, none⟩) (need n) (need n)) (some (.int .i64 1)) none none).run Tryz.prog w = .ok (.slice (cutW (some ⟨w2.heap.size, 0, none⟩) (need n) 1) (need n - 1) (need n - 1)) w := fun w => slice_fromW _ _ _ 1 w (by omega)
  have nw := cut_natsW 1 (Nat.le_refl _) mm.nats
  have nwf : (fun t => packF bt n (1 + t)) = fun t => wordN bt n (0 + t) := by
    funext t
    unfold packF
    rw [if_neg (by omega)]
    congr 1
    omega
  rw [nwf] at nw
  have bk : ∀ x, cutW (some ⟨w2.heap.size, 0, none⟩) (need n) 1 = some x → x.block = w2.heap.size := fun x hx => by
    obtain ⟨y, hy, e⟩ := cutW_block hx
    injection hy with hy
    rw [e, ← hy]
  obtain ⟨r0, hr0⟩ : ∃ r0, (n + 7) / 8 = r0 := ⟨_, rfl⟩
  have hr1 : need n - 1 = r0 := by omega
  rw [hr1] at sl nw
  rw [hr0] at hnd
  rw [hnd] at sl nw bk ⊢
  generalize cutW (some ⟨w2.heap.size, 0, none⟩) (r0 + 1) 1 = ad0 at *
  have lt23 : w2.heap.size < w3.heap.size := by
    obtain ⟨xb, xo, e, c⟩ := mm.nats 0 (by omega)
    have := World.block_lt_of_cell? _ _ c
    injection e with e; injection e with e _ _
    rw [e]; exact this
  have nt2 : ¬ tfoot sb b T2 w2.heap.size := fun x => by have := (unhide HX2).1.st.lt _ x; omega
  have HM := hide (And.intro nw (And.intro bk (And.intro f23 hr0))); have HLT := hide (And.intro lt23 nt2)
  have hr5 : r0 ≤ 512 := by omega
  clear mm nw bk nwf hr1 hnd f23 hr0 lt23 nt2
  go_wp2_with fail
  go_loopw [8, 28] (fun v8 iv wr => ∃ (m : Nat) (ad : Option Addr) (T' : Tay) (P' : List (Int × Int)) (fr : Bool) (n' o r : Nat) (rest : List Nat), m ≤ L ∧ iv = .int .i64 m ∧ v8 = .slice ad r r ∧ r = (n' + 7) / 8 ∧ Onx w3 sb b T2 wr T' sz A P' false ∧ P'.length ≤ P2.length + 32 * m ∧ MkI nu (says P2 A) n (wordN bt n) vs (says P' A) m fr n' o rest ∧ Asks nu (says P2 A) fr n' rest ∧ Nats .u64 wr ad r (fun t => wordN bt n (o + t)) ∧ (∀ x, ad = some x → x.block = w2.heap.size)) (fun _ iv wr => L - (intOf iv).toNat)
  case atStart =>
    obtain ⟨nw, bk, f23, hr0⟩ := unhide HM
    obtain ⟨o2, el2, s2, tk2, pr2, hv⟩ := unhide HX2
    exact ⟨0, ad0, T2, P2, true, n, 0, r0, vs, by omega, rfl, rfl, hr0.symm, Onx.start (o2.st.still f23), by omega, MkI.start (unhide HE).1 n4, (unhide HTF).2, nw, bk⟩
  case round =>
    obtain ⟨m, ad, T', P', fr, n', o, r, rest, hmL, rfl, rfl, hr, on, el, mk, asq, nw, bk⟩ := hrel
    generalize wr = wq at *
    clear wr
    by_cases hlt : m < L
    · have hlt' : ((m : Int) < L) = True := by simp; omega
      obtain ⟨o2, el2, s2, tk2, pr2, hv⟩ := unhide HX2
      obtain ⟨nw0, bk0, f23, hr0⟩ := unhide HM
      have h3 := ((unhide HH).call o2).still f23
      obtain ⟨g1, g2, g3, g4, g5, g6⟩ := h3.hp.geo.b
      obtain ⟨x, rest, rfl⟩ : ∃ x rest', rest = x :: rest' := by
        cases rest with
        | nil =>
          have := congrArg List.length mk.sp
          simp at this; omega
        | cons x r => exact ⟨x, r, rfl⟩
      have hp : (chP nu true n vs)[m]? = some ⟨(fi nu + 8 * x : Nat), fr, n', (8 * nxq nu rest : Nat)⟩ := by
        have : ((chP nu true n vs).drop m)[0]? = some ⟨(fi nu + 8 * x : Nat), fr, n', (8 * nxq nu rest : Nat)⟩ := by rw [mk.pc]; rfl
        rwa [List.getElem?_drop, Nat.add_zero] at this
      have hin : ∀ v ∈ x :: rest, v ∈ vs := fun v hv' => by rw [← mk.sp] at hv'; exact List.mem_of_mem_drop hv'
      have hxv := (unhide HVL x (hin x (by simp))).2
      have hq6 : nxq nu rest < 65536 := by
        cases rest with
        | nil => simp [nxq]
        | cons y ys =>
          have := (unhide HVL y (hin y (by simp))).2
          have := (nxq_ne (nu := nu) (u := y) (us := ys)).2
          omega
      have prq := (pr2.still f23).kept on.fr (fun k hk => by cases hk; exact unhide HNG)
      obtain ⟨e0, e1, e2, e3⟩ := prq.cells hp
      obtain ⟨W, hW⟩ : ∃ W, wq.alloc (.cells #[.int .i64 (fi nu + 8 * x : Nat), .int .u64 (kdN fr), .int .i64 n', .int .i64 (8 * nxq nu rest : Nat)] 101) = W := ⟨_, rfl⟩
      have fW : Still wq W := hW ▸ (Fr.refl _ wq).alloc _
      have bW : W.heap[wq.heap.size]? = some (.cells #[.int .i64 (fi nu + 8 * x : Nat), .int .u64 (kdN fr), .int .i64 n', .int .i64 (8 * nxq nu rest : Nat)] 101 (0, 0)) := hW ▸ heap_alloc_new wq _
      obtain ⟨q, hq⟩ : ∃ q, wq.heap.size = q := ⟨_, rfl⟩
      rw [hq] at bW
      have nq : ¬ tfoot sb b T' q := fun y => by have := on.st.lt q y; omega
      have hwq := (h3.call on).still fW
      have PW := p_word (fi nu + 8 * x : Nat) fr n' (nxq nu rest) mk.n4 hq6
      have ss := sz_b fr n'
      have PS := p_sizeX (fi nu + 8 * x : Nat) fr n' (8 * nxq nu rest : Nat) (by have := mk.n4; omega)
      have AH := p_ahead (fi nu + 8 * x : Nat) fr n' (8 * nxq nu rest : Nat)
      have sah : ahd fr ≤ szN fr n' ∧ szN fr n' - ahd fr ≤ r ∧ ahd fr ≤ 2 := by rw [hr]; unfold szN ahd; cases fr <;> simp <;> omega
      have ltq : q < W.heap.size := World.block_lt_of_cell? _ _ (cell_of_obj bW 0)
      have PU : ∀ w1, Still W w1 → Calls Tryz.prog 56 #[ptr sb, .int .i64 (fi nu + 8 * x : Nat), .int .u64 (wrN fr n' (nxq nu rest) : Nat)] w1 fun e w' => e = .returned (.tuple #[]) ∧ Pte nu sz W hb sb b T' A w' q (upd (says P' A) (fi nu + 8 * x) (wrN fr n' (nxq nu rest) : Nat)) (P'.length + 1) ∧ (w'.cell? ⟨q, 0, none⟩ = some (.int .i64 (fi nu + 8 * x : Nat)) ∧ w'.cell? ⟨q, 1, none⟩ = some (.int .u64 (kdN fr)) ∧ w'.cell? ⟨q, 2, none⟩ = some (.int .i64 n') ∧ w'.cell? ⟨q, 3, none⟩ = some (.int .i64 (8 * nxq nu rest : Nat))) := fun w1 f1 =>
        ((hwq.still f1).put (by omega) (fi nu + 8 * x) (by omega) _).mono fun e w' y => by
          obtain ⟨y1, y2⟩ := y
          obtain ⟨T5, P5, o5, e5, l5⟩ := y2.after f1
          have b5 := o5.fr.obj bW nq
          exact ⟨y1, ⟨T5, P5, o5, e5, l5, o5.other ltq nq, hwq.call o5⟩, cell_of_obj b5 0, cell_of_obj b5 1, cell_of_obj b5 2, cell_of_obj b5 3⟩
      have d0 : W.cell? ⟨q, 0, none⟩ = some (.int .i64 (fi nu + 8 * x : Nat)) := cell_of_obj bW 0
      have d1 : W.cell? ⟨q, 1, none⟩ = some (.int .u64 (kdN fr)) := cell_of_obj bW 1
      have d2 : W.cell? ⟨q, 2, none⟩ = some (.int .i64 n') := cell_of_obj bW 2
      have d3 : W.cell? ⟨q, 3, none⟩ = some (.int .i64 (8 * nxq nu rest : Nat)) := cell_of_obj bW 3
      have HPU := @hide _ PU; have HW := hide (And.intro hW hq)
      have HR := hide (And.intro on (And.intro el (And.intro mk (And.intro asq (And.intro nw (And.intro bk (And.intro hr (And.intro fW (And.intro nq bW)))))))))
      have HC := hide (And.intro h3 (And.intro hin (And.intro hxv hwq)))
      unfold ptV ptO at *
      have hat4 : fi nu + 8 * x ≤ 40000 := by omega
      clear PU hW hq fW bW on el mk asq nw bk nw0 bk0 f23 h3 hin hwq prq hp o2 el2 s2 tk2 pr2 hv g1 g2 g3 g4 g5 g6 hr0 nq
      obtain ⟨px, hpx⟩ : ∃ y, fi nu + 8 * x = y := ⟨_, rfl⟩
      obtain ⟨kd, hkd⟩ : ∃ y, kdN fr = y := ⟨_, rfl⟩
      obtain ⟨nx, hnx⟩ : ∃ y : Int, ((8 * nxq nu rest : Nat) : Int) = y := ⟨_, rfl⟩
      obtain ⟨wv, hwv⟩ : ∃ y, wrN fr n' (nxq nu rest) = y := ⟨_, rfl⟩
      obtain ⟨rs, hrs⟩ : ∃ y, szN fr n' = y := ⟨_, rfl⟩
      obtain ⟨ah, hah⟩ : ∃ y, ahd fr = y := ⟨_, rfl⟩
      simp only [hrs, hah] at PS AH ss sah
      simp only [hpx, hkd, hnx, hwv] at HPU HW PW PS AH e0 e1 e2 e3 d0 d1 d2 d3 hat4
      have HPP := hide (And.intro hpx (And.intro hkd (And.intro hnx (And.intro hwv (And.intro hrs hah)))))
      clear hpx hkd hnx hwv hrs hah
      obtain ⟨k, hk⟩ : ∃ k, rs - ah = k := ⟨_, rfl⟩
      have wk : IntKind.i64.wrap ((rs : Int) - ah) = (k : Int) := by rw [(wrap_small _ (by omega) (by omega)).1]; omega
      have hkr : k ≤ r ∧ k ≤ 64 := by omega
      have sl1 : ∀ w, (Instr.slice 98 (.slice ad r r) none (some (.int .i64 k)) none).run Tryz.prog w = .ok (.slice ad k r) w := fun w => slice_toW ad r r k w (by omega)
      have sl2 : ∀ w, (Instr.slice 98 (.slice ad r r) (some (.int .i64 k)) none none).run Tryz.prog w = .ok (.slice (cutW ad r k) (r - k) (r - k)) w := fun w => slice_fromW ad r r k w (by omega)
      have HK := hide (And.intro hk (And.intro ss sah))
      clear ss sah sl
      go_upto_region 8 with fail
      rw [(unhide HW).1, (unhide HW).2]
      clear e0 e1 e2 e3
      go_region_held (fun w' => w'.cell? ⟨q, 0, none⟩ = some (.int .i64 px) ∧ w'.cell? ⟨q, 1, none⟩ = some (.int .u64 kd) ∧ w'.cell? ⟨q, 2, none⟩ = some (.int .i64 n') ∧ w'.cell? ⟨q, 3, none⟩ = some (.int .i64 nx)) (first | assumption | (with_reducible exact ⟨(kept0 W).cell' d0 (fun x => x), (kept0 W).cell' d1 (fun x => x), (kept0 W).cell' d2 (fun x => x), (kept0 W).cell' d3 (fun x => x)⟩) | go_keep) (first | (go_at_call 57; refine (PW _).mono ?_; rintro e w' ⟨rfl, rfl⟩) | (go_at_call 56; refine (unhide HPU _ (keptA _ _)).mono ?_; rintro e w5 ⟨rfl, hto, hS5⟩; replace hto := hide hto))
      obtain ⟨d0, d1, d2, d3⟩ := hS5
      clear PW HPU
      go_upto_region 9 with fail
      go_region_held (fun w' => w'.cell? ⟨q, 0, none⟩ = some (.int .i64 px) ∧ w'.cell? ⟨q, 1, none⟩ = some (.int .u64 kd) ∧ w'.cell? ⟨q, 2, none⟩ = some (.int .i64 n') ∧ w'.cell? ⟨q, 3, none⟩ = some (.int .i64 nx)) (first | assumption | (with_reducible exact ⟨(kept0 w5).cell' d0 (fun x => x), (kept0 w5).cell' d1 (fun x => x), (kept0 w5).cell' d2 (fun x => x), (kept0 w5).cell' d3 (fun x => x)⟩) | (with_reducible exact ⟨(keptA w5 (.cells #[.int .i64 px, .int .u64 kd, .int .i64 n', .int .i64 nx] 101)).cell' d0 (fun x => x), (keptA w5 (.cells #[.int .i64 px, .int .u64 kd, .int .i64 n', .int .i64 nx] 101)).cell' d1 (fun x => x), (keptA w5 (.cells #[.int .i64 px, .int .u64 kd, .int .i64 n', .int .i64 nx] 101)).cell' d2 (fun x => x), (keptA w5 (.cells #[.int .i64 px, .int .u64 kd, .int .i64 n', .int .i64 nx] 101)).cell' d3 (fun x => x)⟩) | (with_reducible exact ⟨(kept2 w5 (.cells #[.int .i64 px, .int .u64 kd, .int .i64 n', .int .i64 nx] 101) (.cells #[.int .i64 px, .int .u64 kd, .int .i64 n', .int .i64 nx] 101)).cell' d0 (fun x => x), (kept2 w5 (.cells #[.int .i64 px, .int .u64 kd, .int .i64 n', .int .i64 nx] 101) (.cells #[.int .i64 px, .int .u64 kd, .int .i64 n', .int .i64 nx] 101)).cell' d1 (fun x => x), (kept2 w5 (.cells #[.int .i64 px, .int .u64 kd, .int .i64 n', .int .i64 nx] 101) (.cells #[.int .i64 px, .int .u64 kd, .int .i64 n', .int .i64 nx] 101)).cell' d2 (fun x => x), (kept2 w5 (.cells #[.int .i64 px, .int .u64 kd, .int .i64 n', .int .i64 nx] 101) (.cells #[.int .i64 px, .int .u64 kd, .int .i64 n', .int .i64 nx] 101)).cell' d3 (fun x => x)⟩) | (with_reducible exact ⟨(kept3 w5 (.cells #[.int .i64 px, .int .u64 kd, .int .i64 n', .int .i64 nx] 101) (.cells #[.int .i64 px, .int .u64 kd, .int .i64 n', .int .i64 nx] 101) (.cells #[.int .i64 px, .int .u64 kd, .int .i64 n', .int .i64 nx] 101)).cell' d0 (fun x => x), (kept3 w5 (.cells #[.int .i64 px, .int .u64 kd, .int .i64 n', .int .i64 nx] 101) (.cells #[.int .i64 px, .int .u64 kd, .int .i64 n', .int .i64 nx] 101) (.cells #[.int .i64 px, .int .u64 kd, .int .i64 n', .int .i64 nx] 101)).cell' d1 (fun x => x), (kept3 w5 (.cells #[.int .i64 px, .int .u64 kd, .int .i64 n', .int .i64 nx] 101) (.cells #[.int .i64 px, .int .u64 kd, .int .i64 n', .int .i64 nx] 101) (.cells #[.int .i64 px, .int .u64 kd, .int .i64 n', .int .i64 nx] 101)).cell' d2 (fun x => x), (kept3 w5 (.cells #[.int .i64 px, .int .u64 kd, .int .i64 n', .int .i64 nx] 101) (.cells #[.int .i64 px, .int .u64 kd, .int .i64 n', .int .i64 nx] 101) (.cells #[.int .i64 px, .int .u64 kd, .int .i64 n', .int .i64 nx] 101)).cell' d3 (fun x => x)⟩) | go_keep) (first | (go_at_call 58; refine (PS _).mono ?_; rintro e w' ⟨rfl, rfl⟩) | (go_at_call 59; refine (AH _).mono ?_; rintro e w' ⟨rfl, rfl⟩))
      obtain ⟨W9, hW9⟩ : ∃ W9, (((w5.alloc (.cells #[.int .i64 px, .int .u64 kd, .int .i64 n', .int .i64 nx] 101)).alloc (.cells #[.int .i64 px, .int .u64 kd, .int .i64 n', .int .i64 nx] 101)).alloc (.cells #[.int .i64 px, .int .u64 kd, .int .i64 n', .int .i64 nx] 101)).drew.drew = W9 := ⟨_, rfl⟩
      have f9 : Still w5 W9 := hW9 ▸ kept3 _ _ _ _
      rw [hW9]
      clear hW9 PS
      replace d0 := f9.cell' d0 (fun x => x)
      replace d1 := f9.cell' d1 (fun x => x)
      replace d2 := f9.cell' d2 (fun x => x)
      replace d3 := f9.cell' d3 (fun x => x)
      obtain ⟨T5, P5, o5, e5, l5, nq5, hp5⟩ := unhide hto
      obtain ⟨on, el, mk, asq, nw, bk, hr, fW, nq, bW⟩ := unhide HR
      obtain ⟨lt23, nt2⟩ := unhide HLT
      have nad' : ¬ tfoot sb b T' w2.heap.size := on.other lt23 nt2
      have ltW : w2.heap.size < W.heap.size := Nat.lt_of_lt_of_le lt23 (Nat.le_trans on.fr.size fW.size)
      have nad5 : ∀ y, ad = some y → ¬ tfoot sb b T5 y.block := fun y hy => by rw [bk y hy]; exact o5.other ltW nad'
      have nw9 : Nats .u64 W9 ad r (fun t => wordN bt n (o + t)) := ((nw.fr fW (fun _ _ x => x)).fr o5.fr (fun y hy => by rw [bk y hy]; exact nad')).fr f9 (fun _ _ x => x)
      have oW9 : Onx w3 sb b T2 W9 T5 sz A P5 false := ((on.quiet fW).trans o5).quiet f9
      have hz9 := hp5.still f9
      have HQ := hide (And.intro oW9 (And.intro e5 (And.intro l5 (And.intro nq5 (And.intro hz9 (And.intro nad5 nw9))))))
      have hpz := (unhide HC).2.2.1
      obtain ⟨hpx, hkd, hnx, hwv, hrs, hah⟩ := unhide HPP
      obtain ⟨hk0, ss0, sah0⟩ := unhide HK
      obtain ⟨g1, g2, g3, g4, g5, g6⟩ := hz9.hp.geo.b
      have hk63 : k ≤ 63 ∧ 1 ≤ ah ∧ ah ≤ 2 ∧ ah + k = rs := by
        have : 1 ≤ ahd fr := by unfold ahd; split <;> omega
        omega
      have hpsz : px + rs ≤ sz := by
        have hu : ask nu (says P2 A) x ≠ 0 := (unhide HVL x ((unhide HC).2.1 x (by simp))).1
        have s2 := (unhide HX2).2.2.1
        obtain ⟨i1, i2, i3, i4⟩ := s2.inv.asks x hu
        have hl := lv_holds (ask nu (says P2 A) x) i2
        rw [asq.1] at hl i4
        omega
      have HPN := hide (And.intro hpsz hk63)
      have hah2 : ah ≤ 2 := by omega
      clear o5 e5 l5 nq5 hp5 on el mk asq nw bk fW nq bW lt23 nt2 nad' ltW nad5 nw9 oW9 hz9 f9 hpx hkd hnx hwv hrs hah hk0 ss0 sah0 g1 g2 g3 g4 g5 g6 hpz hk63 hto HW hpsz
      go_wp2_with fail
      go_loopw [47] (fun iv wr => ∃ (j : Nat) (T6 : Tay) (P6 : List (Int × Int)), j ≤ k ∧ iv = .int .i64 j ∧ Onx W9 sb b T5 wr T6 sz A P6 false ∧ P6.length ≤ P'.length + 1 + j ∧ says P6 A = gwN (upd (says P' A) px wv) (px + ah) (wordN bt n) o j) (fun iv wr => k - (intOf iv).toNat)
      case atStart =>
        obtain ⟨oW9, e5, l5, nq5, hz9, nad5, nw9⟩ := unhide HQ
        exact ⟨0, T5, P5, by omega, rfl, Onx.start hz9.st, by omega, by rw [gw_zero]; exact e5⟩
      case round =>
        obtain ⟨j, T6, P6, hj, rfl, o6, l6, e6⟩ := hrel
        generalize wr = wz at *
        clear wr
        obtain ⟨oW9, e5, l5, nq5, hz9, nad5, nw9⟩ := unhide HQ
        have hz := hz9.call o6
        have nwz := nw9.fr o6.fr nad5
        by_cases hlt2 : j < k
        · have hlt2' : ((j : Int) < k) = True := by simp; omega
          obtain ⟨xb, xo, ead, cz⟩ := nwz j (by omega)
          have el := (unhide HR).2.1
          have hml : P'.length + 1 + j < 6144 := by have := (unhide HX2).2.1; omega
          have ltq9 := World.block_lt_of_cell? _ _ d0
          have nq6 := o6.other ltq9 nq5
          replace d0 := o6.fr.cell' d0 nq5
          replace d1 := o6.fr.cell' d1 nq5
          replace d2 := o6.fr.cell' d2 nq5
          replace d3 := o6.fr.cell' d3 nq5
          have PU2 : ∀ w1, Still wz w1 → Calls Tryz.prog 56 #[ptr sb, .int .i64 ((px : Int) + ah + j), .int .u64 ((wordN bt n (o + j) : Nat) : Int)] w1 fun e w' => e = .returned (.tuple #[]) ∧ Pte nu sz wz hb sb b T6 A w' q (gwN (upd (says P' A) px wv) (px + ah) (wordN bt n) o (j + 1)) (P'.length + 1 + (j + 1)) ∧ (w'.cell? ⟨q, 0, none⟩ = some (.int .i64 px) ∧ w'.cell? ⟨q, 1, none⟩ = some (.int .u64 kd) ∧ w'.cell? ⟨q, 2, none⟩ = some (.int .i64 n') ∧ w'.cell? ⟨q, 3, none⟩ = some (.int .i64 nx)) := fun w1 f1 => by
            have := (hz.still f1).put (by omega) (px + ah + j) (by have := unhide HPN; omega) ((wordN bt n (o + j) : Nat) : Int)
            rw [show ((px + ah + j : Nat) : Int) = (px : Int) + ah + j by omega, e6, gw_step] at this
            refine this.mono fun e w' y => ?_
            obtain ⟨y1, y2⟩ := y
            obtain ⟨T7, P7, o7, e7, l7⟩ := y2.after f1
            exact ⟨y1, ⟨T7, P7, o7, e7, by omega, o7.other (Nat.lt_of_lt_of_le ltq9 o6.fr.size) nq6, hz.call o7⟩, o7.fr.cell' d0 nq6, o7.fr.cell' d1 nq6, o7.fr.cell' d2 nq6, o7.fr.cell' d3 nq6⟩
          have w1a : IntKind.i64.wrap ((px : Int) + ah) = (px : Int) + ah := (wrap_small _ (by omega) (by omega)).1
          have w1b : IntKind.i64.wrap ((px : Int) + ah + j) = (px : Int) + ah + j := (wrap_small _ (by omega) (by omega)).1
          obtain ⟨vj, hvj⟩ : ∃ y : Int, ((wordN bt n (o + j) : Nat) : Int) = y := ⟨_, rfl⟩
          simp only [hvj] at PU2 cz
          have HPU2 := @hide _ PU2
          have HO6 := hide o6
          clear PU2 hvj o6 l6 e6 oW9 e5 l5 nq5 hz9 nad5 nw9 hz nwz nq6 hml el
          subst ead
          go_upto_region 13 with fail
          go_region_held (fun w' => w'.cell? ⟨q, 0, none⟩ = some (.int .i64 px) ∧ w'.cell? ⟨q, 1, none⟩ = some (.int .u64 kd) ∧ w'.cell? ⟨q, 2, none⟩ = some (.int .i64 n') ∧ w'.cell? ⟨q, 3, none⟩ = some (.int .i64 nx)) (first | assumption | (with_reducible exact ⟨(kept0 wz).cell' d0 (fun x => x), (kept0 wz).cell' d1 (fun x => x), (kept0 wz).cell' d2 (fun x => x), (kept0 wz).cell' d3 (fun x => x)⟩) | (with_reducible exact ⟨(keptA wz (.cells #[.int .i64 px, .int .u64 kd, .int .i64 n', .int .i64 nx] 101)).cell' d0 (fun x => x), (keptA wz (.cells #[.int .i64 px, .int .u64 kd, .int .i64 n', .int .i64 nx] 101)).cell' d1 (fun x => x), (keptA wz (.cells #[.int .i64 px, .int .u64 kd, .int .i64 n', .int .i64 nx] 101)).cell' d2 (fun x => x), (keptA wz (.cells #[.int .i64 px, .int .u64 kd, .int .i64 n', .int .i64 nx] 101)).cell' d3 (fun x => x)⟩) | go_keep) (first | (go_at_call 59; refine (AH _).mono ?_; rintro e w' ⟨rfl, rfl⟩) | (go_at_call 56; refine (unhide HPU2 _ (keptA _ _)).mono ?_; rintro e w7 ⟨rfl, hto7, hS7⟩; replace hto7 := hide hto7))
          clear hS7 d0 d1 d2 d3 cz
          go_wp2
          obtain ⟨T7, P7, o7, e7, l7, nq7, hp7⟩ := unhide hto7
          exact ⟨⟨j + 1, T7, P7, by omega, by go_num, (unhide HO6).trans o7, l7, e7⟩, by simp [intOf]; omega⟩
        · have ej : k = j := by omega
          subst ej
          have hlt2' : ((k : Int) < k) = False := by simp
          have HZ := hide (And.intro o6 (And.intro l6 (And.intro e6 nwz)))
          clear o6 l6 e6 nwz hz oW9 e5 l5 nq5 hz9 nad5 nw9 d0 d1 d2 d3
          go_wp2
          obtain ⟨o6, l6, e6, nwz⟩ := unhide HZ
          obtain ⟨oW9, e5, l5, nq5, hz9, nad5, nw9⟩ := unhide HQ
          obtain ⟨on, el, mk, asq, nw, bk, hr, fW, nq, bW⟩ := unhide HR
          obtain ⟨hpx, hkd, hnx, hwv, hrs, hah⟩ := unhide HPP
          obtain ⟨hk0, ss0, sah0⟩ := unhide HK
          obtain ⟨hpsz, hk63, ha1, ha2, hak⟩ := unhide HPN
          obtain ⟨tf, as0⟩ := unhide HTF
          have s2 := (unhide HX2).2.2.1
          have hxm : x ∈ vs := (unhide HC).2.1 x (by simp)
          have hb' : r - k = (bhN fr n' + 7) / 8 := by
            rw [← hk0, ← hrs, ← hah, hr]
            unfold szN bhN ahd
            cases fr <;> simp <;> omega
          have ap : ∀ v ∈ vs, v ≠ x → 8 * v + ask nu (says P2 A) v ≤ 8 * x ∨ 8 * x + ask nu (says P2 A) x ≤ 8 * v := fun v hv hne => by
            have a1 := (unhide HVL v hv).1
            have a2 := (unhide HVL x hxm).1
            rcases Nat.lt_or_gt_of_ne hne with h | h
            · have h1 := s2.inv.apartB a1 a2 h
              have h2 := lv_holds (ask nu (says P2 A) v) (s2.inv.asks v a1).2.1
              left; omega
            · have h1 := s2.inv.apartB a2 a1 h
              have h2 := lv_holds (ask nu (says P2 A) x) (s2.inv.asks x a2).2.1
              right; omega
          have h1 : says P6 A (fi nu + 8 * x) = ((wrN fr n' (nxq nu rest) : Nat) : Int) := by
            rw [e6, hpx, hwv]
            unfold gwN
            rw [if_neg (by omega), upd_same]
          have h2 : ∀ i, i < szN fr n' - ahd fr → says P6 A (fi nu + 8 * x + ahd fr + i) = ((wordN bt n (o + i) : Nat) : Int) := fun i hi => by
            rw [hrs, hah] at hi
            rw [e6, hpx, hah]
            unfold gwN
            rw [if_pos (by omega), show px + ah + i - (px + ah) = i by omega]
          have h3 : ∀ i, (i < fi nu + 8 * x ∨ fi nu + 8 * x + szN fr n' ≤ i) → says P6 A i = says P' A i := fun i hi => by
            rw [hpx, hrs] at hi
            rw [e6]
            unfold gwN
            rw [if_neg (by omega), upd_other _ _ (by omega)]
          have st := MkI.step (g2 := says P6 A) mk tf.nd ap asq.1 h1 h2 h3
          rw [hrs, hah, hk0] at st
          have nc := cut_natsW k (Nat.le_refl r) nwz
          have ef : (fun t => wordN bt n (o + (k + t))) = fun t => wordN bt n (o + k + t) := by funext t; rw [Nat.add_assoc]
          rw [ef] at nc
          refine ⟨⟨m + 1, cutW ad r k, T6, P6, false, bhN fr n', o + k, r - k, rest, by omega, by go_num, by unfold cutW; rw [Nat.mul_one, hr], hb', oW9.trans o6, by omega, st, asq.2, nc, fun y hy => ?_⟩, by simp [intOf]; omega⟩
          obtain ⟨y', hy', ey⟩ := cutW_block hy
          rw [ey, bk y' hy']
    · have em : m = L := by omega
      subst em
      have hlt' : ((m : Int) < m) = False := by simp
      obtain ⟨o2, el2, s2, tk2, pr2, hv⟩ := unhide HX2
      obtain ⟨nw0, bk0, f23, hr0⟩ := unhide HM
      obtain ⟨en, hvl⟩ := unhide HE
      have h3 := (((unhide HH).call o2).still f23).call on
      obtain ⟨g1, g2, g3, g4, g5, g6⟩ := h3.hp.geo.b
      have hvm : vs.length = m := by rw [hvl]; exact unhide HL
      have hrest : rest = [] := by rw [← mk.sp]; exact List.drop_of_length_le (by omega)
      subst hrest
      have prq := (pr2.still f23).kept on.fr (fun k hk => by cases hk; exact unhide HNG)
      have ngq := on.other (k := g) (Nat.lt_of_lt_of_le (World.ownsRow.lt pr2 g rfl).2 f23.size) (unhide HNG)
      cases vs with
      | nil => simp at hvm; omega
      | cons u us =>
        have hg0 : (chP nu true n (u :: us))[0]? = some ⟨(fi nu + 8 * u : Nat), true, n, (8 * nxq nu us : Nat)⟩ := rfl
        obtain ⟨c0, c1, c2, c3⟩ := prq.cells hg0
        have c0' : wq.cell? ⟨g, 0, none⟩ = some (.int .i64 (fi nu + 8 * u : Nat)) := by simpa using c0
        have hua := unhide HVL u (by simp)
        obtain ⟨tf, as0⟩ := unhide HTF
        obtain ⟨i1, i2, i3, i4⟩ := s2.inv.asks u hua.1
        have hl := lv_holds (ask nu (says P2 A) u) i2
        have hs2 : 2 ≤ szN true n := by unfold szN ahd; simp; omega
        rw [as0.1] at hl i4
        have hhi : fi nu + 8 * u + 2 ≤ sz := by omega
        have PU : Calls Tryz.prog 56 #[ptr sb, .int .i64 (((fi nu + 8 * u : Nat) : Int) + 1), .int .u64 1] wq fun e w' => e = .returned (.tuple #[]) ∧ To sz wq sb b T' A w' (upd (says P' A) (fi nu + 8 * u + 1) 1) (P'.length + 1) ∧ w'.cell? ⟨g, 0, none⟩ = some (.int .i64 (fi nu + 8 * u : Nat)) := by
          have := h3.put (by omega) (fi nu + 8 * u + 1) (by omega) 1
          rw [show ((fi nu + 8 * u + 1 : Nat) : Int) = ((fi nu + 8 * u : Nat) : Int) + 1 by omega] at this
          refine this.mono fun e w' y => ?_
          obtain ⟨y1, y2⟩ := y
          obtain ⟨T7, P7, o7, e7, l7⟩ := id y2
          exact ⟨y1, y2, o7.fr.cell' c0' ngq⟩
        have hm0 : ((0 : Int) < m) = True := by simp; omega
        obtain ⟨p0, hp0⟩ : ∃ p0 : Nat, fi nu + 8 * u = p0 := ⟨_, rfl⟩
        have hp4 : p0 ≤ 40000 := by omega
        have HPU := hide PU
        have HF := hide (And.intro on (And.intro el (And.intro mk (And.intro asq h3)))); have HP0 := hide hp0; have HAA := hide (And.intro en (And.intro hvm (And.intro as0 hs2)))
        simp only [hp0] at HPU c0'
        clear PU on el mk asq h3 hp0 o2 el2 s2 tk2 pr2 hv nw0 bk0 f23 hr0 en hvl hvm prq ngq c0 c1 c2 c3 hg0 tf as0 i1 i2 i3 i4 hl hhi g1 g2 g3 g4 g5 g6 hua hs2 nw bk hr
        go_wp2_with fail
        refine (unhide HPU).mono ?_
        clear HPU c0'
        rintro e w7 ⟨rfl, to7, c7⟩
        have HT7 := hide to7
        clear to7
        go_wp2
        go_ret
        obtain ⟨T7, P7, o7, e7, l7⟩ := unhide HT7
        obtain ⟨on, el, mk, asq, h3⟩ := unhide HF
        obtain ⟨en, hvm, as0, hs2⟩ := unhide HAA
        obtain ⟨o2, el2, s2, tk2, pr2, hv⟩ := unhide HX2
        obtain ⟨nw0, bk0, f23, hr0⟩ := unhide HM
        obtain ⟨tf, as0'⟩ := unhide HTF
        have hp0 := unhide HP0
        rw [← hp0] at e7
        have hgi : ∀ i, (∀ v ∈ u :: us, i < fi nu + 8 * v ∨ fi nu + 8 * v + ask nu (says P2 A) v ≤ i) → upd (says P' A) (fi nu + 8 * u + 1) 1 i = says P2 A i := fun i hi => by
          have := hi u (by simp)
          rw [as0.1] at this
          rw [upd_other _ _ (by omega)]
          exact mk.ks i fun v hv' => hi v (List.mem_of_mem_take hv')
        have hown : ∀ i, i < fi nu → upd (says P' A) (fi nu + 8 * u + 1) 1 i = says P2 A i := fun i hi => hgi i fun v _ => .inl (by omega)
        have sg := s2.own hown
        have eg := ask_own hown
        have eP : ask nu (says P' A) = ask nu (says P2 A) := ask_own fun i hi => mk.ks i fun v _ => .inl (by omega)
        have wt : Wrtn nu (says P' A) (wordN bt n) true n 0 (u :: us) := mk.ct (says P' A) (fun _ _ _ _ => rfl) trivial
        have ap : ∀ x ∈ us, fi nu + 8 * u + 1 < fi nu + 8 * x ∨ fi nu + 8 * x + ask nu (says P' A) x ≤ fi nu + 8 * u + 1 := fun x hx => by
          rw [eP]
          have hxm : x ∈ u :: us := by simp [hx]
          have a1 := (unhide HVL x hxm).1
          have a2 := (unhide HVL u (by simp)).1
          have hne : x ≠ u := fun e => by have := (List.nodup_cons.1 tf.nd).1; exact this (e ▸ hx)
          rcases Nat.lt_or_gt_of_ne hne with h | h
          · have h1 := s2.inv.apartB a1 a2 h
            have h2 := lv_holds (ask nu (says P2 A) x) (s2.inv.asks x a1).2.1
            right; omega
          · left; omega
        have wf := wt.first (v := 1) (as0.own eP) ap
        have rc := rec_of h3.hp.geo sg n4 en (as0.own eg) wf (upd_same _ _ _) (by simp at hvm; omega) tf.nd
        refine .inl ⟨u, us, _, by rw [hp0]; rfl, ⟨T7, P7, ((o2.quiet f23).trans on).trans o7, e7, by omega⟩, rc, sg, _, _, tf, eg, fun y hy => ?_, hgi⟩
        obtain ⟨p, _, rfl⟩ := List.mem_map.1 hy
        exact (by omega : 1 ≤ 32)
end
end
end Go.Proofs.YtflnaiijdpihcaaGreatDoor
