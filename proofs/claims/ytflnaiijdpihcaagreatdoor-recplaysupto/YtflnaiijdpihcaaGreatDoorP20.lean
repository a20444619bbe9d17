/- Joined: PlaysR Sb. -/
import Derived.Deep.CutRange
import Derived.Deep.CutBlock
import Derived.Deep.LoopGhost
import Derived.Test.YtflnaiijdpihcaaGreatDoorP10
import Derived.Test.YtflnaiijdpihcaaGreatDoorP17
import Derived.Test.YtflnaiijdpihcaaGreatDoorP19
namespace Go.Proofs.YtflnaiijdpihcaaGreatDoor
open Go.RowKit

section
theorem own_nilR {k : Nat} : ¬ (Value.slice none 0 0).ownBlock = some k := by simp [Value.ownBlock]

set_option maxRecDepth 20000 in
set_option maxHeartbeats 8000000 in
theorem playsR_ok (a : Option Addr) (len cap : Nat) (w : World) (z : Nat → OpR) (ops : OpsR w a len z) (_hlen : len ≤ maxLen) (tab : TabL w) :
    Calls Tryz.prog 3 #[.slice a len cap] w fun e w' => e = .returned (.bool true) ∧ Below w.heap.size w w' := by
  have K : Calls Tryz.prog 9 #[.int .i64 24576] w _ := l8_open geo24 (N := 3072) (by omega) w tab
  have h1 := eq_nil_heap
  have h2 := mf
  have HN := @hide _ ops
  have HK := hide K; have HT := hide tab
  clear K ops tab
  go_enter Tryz.func3, Tryz.ntmps3
  go_wp2_with fail
  refine (unhide HK).mono ?_
  clear HK
  rintro e w1 ⟨b, sb, hb, T, A, base, rfl, hc, nw⟩
  obtain ⟨W1, hW1⟩ : ∃ W1, w1.alloc (.cells #[ptr sb] 24) = W1 := ⟨_, rfl⟩
  obtain ⟨W2, hW2⟩ : ∃ W2, W1.alloc (.cells #[ptr hb] 25) = W2 := ⟨_, rfl⟩
  obtain ⟨n1, hn1⟩ : ∃ n1, w1.heap.size = n1 := ⟨_, rfl⟩
  have z1 : W1.heap.size = n1 + 1 := by rw [← hW1]; simp [hn1]
  have z2 : W2.heap.size = n1 + 2 := by rw [← hW2]; simp; omega
  have hc1 := hc.more (.cells #[ptr sb] 24)
  rw [hW1, hn1] at hc1
  have hc2 := hc1.more (.cells #[ptr hb] 25)
  rw [hW2, z1] at hc2
  have f12 : Still W1 W2 := hW2 ▸ (Fr.refl _ W1).alloc _
  have bs2 : Box W2 n1 (ptr sb) := by
    have := Box.new w1 (ptr sb) 24
    rw [hW1, hn1] at this; exact this.kept f12 (fun x => x)
  have bh2 : Box W2 (n1 + 1) (ptr hb) := by
    have := Box.new W1 (ptr hb) 25
    rw [hW2, z1] at this; exact this
  have lhb : hb < n1 := by rw [← hn1]; exact (hc.hd.xl hb hc.xh).2
  have lw : w.heap.size ≤ n1 := by rw [← hn1]; exact hc.hd.fr.size
  have AW := l10_awake W2 (fun j hj => hc2.hd.fr.cell' (unhide HT j hj) (fun x => x))
  have HX := hide (And.intro hc2 (And.intro bs2 (And.intro bh2 nw))); have HAW := hide AW; have HWW := hide (And.intro hW1 hW2)
  have cbh := bh2.c
  rw [← hW2, ← hW1] at cbh
  clear hc hc1 hc2 f12 bs2 bh2 AW hW1 hW2 nw
  go_wp2_with fail
  rw [(unhide HWW).1, (unhide HWW).2]
  refine (unhide HAW).mono ?_
  clear HAW HWW cbh
  rintro e w3 ⟨rfl, f3⟩
  obtain ⟨hc2, bs2, bh2, nw⟩ := unhide HX
  have hc3 := hc2.still f3
  have bs3 := bs2.kept f3 (fun x => x); have bh3 := bh2.kept f3 (fun x => x)
  have z3 : n1 + 2 ≤ w3.heap.size := by have := f3.size; omega
  obtain ⟨n3, hn3⟩ : ∃ n3, w3.heap.size = n3 := ⟨_, rfl⟩
  rw [hn3] at z3
  obtain ⟨W4, hW4⟩ : ∃ W4, w3.alloc (.cells #[.slice none 0 0] 29) = W4 := ⟨_, rfl⟩
  have hc4 := hc3.more (.cells #[.slice none 0 0] 29)
  rw [hW4, hn3] at hc4
  have f34 : Still w3 W4 := hW4 ▸ (Fr.refl _ w3).alloc _
  have bl4 : Box W4 n3 (.slice none 0 0) := by
    have := Box.new w3 (.slice none 0 0) 29
    rw [hW4, hn3] at this; exact this
  have st0 : PyH w W4 b n1 n3 hb sb T A 43021 base [] (.slice none 0 0) := by
    refine ⟨hc4.sub (fun k hk => ?_) (.inl rfl), Recs.nil nw.st nw.ak, bs3.kept f34 (fun x => x), bh3.kept f34 (fun x => x), bl4, World.ownsRow_nil _ _ _ _, ⟨lw, by omega, lhb⟩, fun k hk => absurd hk own_nilR⟩
    rcases hk with hk | hk | hk | hk | hk
    · exact .inl (.inl (.inl hk))
    · exact .inl (.inl (.inr hk))
    · exact .inl (.inr hk)
    · exact .inr hk
    · exact absurd hk own_nilR
  have HST := hide st0; have HW4 := hide hW4
  clear hc2 hc3 hc4 bs2 bh2 bs3 bh3 nw f3 f34 bl4 st0 hW4 HX
  go_wp2_with fail
  rw [unhide HW4]
  clear HW4 z1 z2 hn1
  go_loopw [7] (fun iv wr => ∃ (m : Nat) (rs : List Rc) (vl : Value) (T : Tay) (A : Ab) (s : Int) (base : Nat → Int), iv = .int .i64 m ∧ m ≤ len ∧ m ≤ 25 ∧ s ≤ 50000 + 62000 * m ∧ rs.length ≤ m ∧ (∀ r ∈ rs, r.k ≤ m + 1) ∧ PyH w wr b n1 n3 hb sb T A s base rs vl) (fun iv wr => 25 - (intOf iv).toNat)
  case atStart => exact ⟨0, [], _, T, A, 43021, base, rfl, by omega, by omega, by omega, by simp, by simp, unhide HST⟩
  case round =>
    clear HST
    obtain ⟨m, rs, vl, T, A, s, base, rfl, hml, hm25, hs, hrl, hrk, S⟩ := hrel
    generalize wr = wq at *
    clear wr
    by_cases hlt : m < len ∧ m < 25
    · obtain ⟨hl1, hl2⟩ := hlt
      have hi1 : ((m : Int) < len) = True := by simp; omega
      have hi2 : ((m : Int) < 25) = True := by simp; omega
      obtain ⟨⟨xb, xo, ea, q0, q1, q2⟩, dN, db8, dnil⟩ := unhide HN m hl1
      have qf := S.hc.hd.fr
      have p0 := qf.cell' q0 (fun x => x); have p1 := qf.cell' q1 (fun x => x); have p2 := qf.cell' q2 (fun x => x)
      have dNq := dN.fr qf (fun _ _ x => x)
      obtain ⟨q, hq⟩ : ∃ q, wq.heap.size = q := ⟨_, rfl⟩
      obtain ⟨A1, hA1⟩ : ∃ A1, wq.alloc (.cells #[.int .i64 (z m).kd, .int .i64 (z m).i, .slice (z m).a (z m).n (z m).c] 32) = A1 := ⟨_, rfl⟩
      have y1 : A1.heap.size = q + 1 := by rw [← hA1]; simp [hq]
      have g1 : Still wq A1 := hA1 ▸ (Fr.refl _ wq).alloc _
      have oc1 : A1.heap[q]? = some (.cells #[.int .i64 (z m).kd, .int .i64 (z m).i, .slice (z m).a (z m).n (z m).c] 32 (0, 0)) := by
        rw [← hA1, ← hq]; exact heap_alloc_new wq _
      have o0 := cell_of_obj oc1 0; have o1 := cell_of_obj oc1 1; have o2 := cell_of_obj oc1 2
      by_cases hbig : 6000 < (z m).n
      · have hb6 : ((6000 : Int) < (z m).n) = True := by simp; omega
        have AW := l10_awake A1 (fun j hj => g1.cell' (qf.cell' (unhide HT j hj) (fun x => x)) (fun x => x))
        have HAW := hide AW; have HF := hide (qf.trans' g1 (fun _ x => x.elim)); have HA1 := hide hA1
        clear AW S qf q0 q1 q2 dN dNq g1 oc1 db8 hrk
        subst ea
        have o2' : (wq.alloc (.cells #[.int .i64 (z m).kd, .int .i64 (z m).i, .slice (z m).a (z m).n (z m).c] 32)).cell? ⟨q, 2, none⟩ = some (.slice (z m).a (z m).n (z m).c) := by rw [hA1]; exact o2
        clear hA1 o0 o1 o2
        go_wp2_with fail
        rw [unhide HA1]
        refine (unhide HAW).mono ?_
        rintro e w9 ⟨rfl, f9⟩
        have HF9 := hide ((unhide HF).trans' f9 (fun _ x => x.elim))
        clear f9
        go_wp2
        go_ret
        have f := unhide HF9
        exact ⟨rfl, f.os, f.tape, f.output, f.size, fun k hk => f.block k hk (fun x => x)⟩
      · have hb6 : ((6000 : Int) < (z m).n) = False := by simp; omega
        obtain ⟨ad, cp, ev, hnil, hcp, hadk⟩ : ∃ ad cp, vl = .slice ad rs.length cp ∧ (ad = none → rs = [] ∧ cp = 0) ∧ rs.length ≤ cp ∧ ∀ x, ad = some x → (Value.slice ad rs.length cp).ownBlock = some x.block := by
          rcases S.rl.2 with ⟨ev, e0⟩ | ⟨gg, cp, cur, ev, _, _, h3, _⟩
          · exact ⟨none, 0, by rw [ev, e0], fun _ => ⟨List.eq_nil_of_length_eq_zero e0, rfl⟩, by omega, (fun x hx => by cases hx)⟩
          · exact ⟨some ⟨gg, 0, none⟩, cp, ev, (fun e => by cases e), h3, (fun x hx => by injection hx with hx; rw [← hx]; rfl)⟩
        subst ev
        obtain ⟨A2, hA2⟩ : ∃ A2, A1.alloc (.cells #[] 38) = A2 := ⟨_, rfl⟩
        have y2 : A2.heap.size = q + 2 := by rw [← hA2]; simp; omega
        have g2 : Still A1 A2 := hA2 ▸ (Fr.refl _ A1).alloc _
        have g02 : Still wq A2 := g1.trans' g2 (fun _ x => x.elim)
        have lo := S.hc.hd.fr.size
        have own2 : A2.ownsRow w.heap.size 38 3 (.slice (some ⟨q + 1, 0, none⟩) 0 0) ([] : List Rc).length (rcells 1467 []) := by
          refine ⟨rfl, .inr ⟨q + 1, 0, #[], rfl, by omega, ?_, Nat.le_refl _, by unfold maxLen; omega, rfl, rfl⟩⟩
          rw [← hA2, ← y1]; exact heap_alloc_new A1 _
        obtain ⟨v9, w4, hap, M4⟩ := run_recs A2 w.heap.size 29 _ [] rs own2 ad cp hnil ((rcs_of_row S.rl).kept g02) (by simp; omega) (by omega)
        have fr4 : Still wq w4 := by
          have : Fr (fun k => (Value.slice (some ⟨q + 1, 0, none⟩) 0 0).ownBlock = some k) A2 w4 := (Fr.refl _ A2).grown M4.gr (fun r e => .inl e)
          exact g02.trans' this (fun k hk => .inr (by simp [Value.ownBlock] at hk; omega))
        obtain ⟨q4, hq4⟩ : ∃ q4, w4.heap.size = q4 := ⟨_, rfl⟩
        have y4 : q + 2 ≤ q4 := by have := M4.gr.size; omega
        have own4 : ∀ k, v9.ownBlock = some k → q < k ∧ k < q4 := fun k hk => by
          refine ⟨?_, by rw [← hq4]; exact (M4.own.lt k hk).2⟩
          rcases M4.loc with e | e
          · rw [hk] at e; simp [Value.ownBlock] at e; omega
          · rw [hk] at e; have := Option.some.inj e; omega
        have nr4 : w4.ownsRow w.heap.size 38 3 v9 rs.length (rcells 1467 rs) := by simpa using M4.own
        obtain ⟨A5, hA5⟩ : ∃ A5, w4.alloc (.cells #[.int .i64 0] 3) = A5 := ⟨_, rfl⟩
        have y5 : A5.heap.size = q4 + 1 := by rw [← hA5]; simp [hq4]
        have f45 : Still w4 A5 := hA5 ▸ (Fr.refl _ w4).alloc _
        have bk5 : Box A5 q4 (.int .i64 0) := by
          have := Box.new w4 (.int .i64 0) 3
          rw [hA5, hq4] at this; exact this
        obtain ⟨kx, hkx⟩ : ∃ kx, (if rs = [] then 0 else msk (z m).i 65535 % rs.length) = kx := ⟨_, rfl⟩
        have kxl : rs ≠ [] → kx < rs.length := fun h => by rw [← hkx, if_neg h]; exact Nat.mod_lt _ (List.length_pos_iff.2 h)
        obtain ⟨A6, hA6⟩ : ∃ A6, (if rs = [] then A5 else A5.setCell ⟨q4, 0, none⟩ (.int .i64 kx)) = A6 := ⟨_, rfl⟩
        have bk6 : Box A6 q4 (.int .i64 kx) := by
          rw [← hA6]
          by_cases h : rs = []
          · rw [if_pos h]; rw [if_pos h] at hkx; rw [← hkx]; exact bk5
          · rw [if_neg h]; exact bk5.set _
        have f56 : Fr (fun k => k = q4) A5 A6 := by
          rw [← hA6]
          by_cases h : rs = []
          · rw [if_pos h]; exact Fr.refl _ _
          · rw [if_neg h]; exact Fr.box A5 q4 _
        have y6 : A6.heap.size = q4 + 1 := by
          rw [← hA6]
          by_cases h : rs = []
          · rw [if_pos h]; exact y5
          · rw [if_neg h]; simp [y5]
        have f46 : Still w4 A6 := f45.trans' f56 (fun k hk => .inr (by have hk : k = q4 := hk; omega))
        obtain ⟨A7, hA7⟩ : ∃ A7, A6.alloc (.cells #[.int .i64 0] 3) = A7 := ⟨_, rfl⟩
        obtain ⟨A8, hA8⟩ : ∃ A8, A7.alloc (.cells #[.bool false] 4) = A8 := ⟨_, rfl⟩
        have y7 : A7.heap.size = q4 + 2 := by rw [← hA7]; simp; omega
        have y8 : A8.heap.size = q4 + 3 := by rw [← hA8]; simp; omega
        have f67 : Still A6 A7 := hA7 ▸ (Fr.refl _ A6).alloc _
        have f78 : Still A7 A8 := hA8 ▸ (Fr.refl _ A7).alloc _
        have f48 : Still w4 A8 := (f46.trans' f67 (fun _ x => x.elim)).trans' f78 (fun _ x => x.elim)
        have f08 : Still wq A8 := fr4.trans' f48 (fun _ x => x.elim)
        obtain ⟨vw, w10, hbp, ow10, f810, lt10, ownw⟩ := run_bytes A8 w.heap.size (z m).a (z m).n (z m).c (z m).bt dnil (dNq.fr f08 (fun _ _ x => x)) (by omega) (by omega)
        rw [y8] at hbp lt10 ownw
        obtain ⟨q10, hq10⟩ : ∃ q10, w10.heap.size = q10 := ⟨_, rfl⟩
        rw [hq10] at lt10
        obtain ⟨wa, wc, evw, _, nt10⟩ := ow10.nats
        have lrow : (rowL (z m).bt (z m).n).length = (z m).n := rowL_len _ _
        rw [lrow] at evw nt10
        have nt10' : Nats .u8 w10 wa (z m).n (z m).bt := fun i hi => by
          obtain ⟨xb', xo', e, c⟩ := nt10 i hi
          exact ⟨xb', xo', e, by rw [c]; show some (Value.int .u8 (((rowL (z m).bt (z m).n).getD i 0 : Nat) : Int)) = _; rw [rowL_get _ _ _ hi]⟩
        have hwk : ∀ x, wa = some x → vw.ownBlock = some x.block := fun x hx => by
          rcases ow10.form with ⟨e, _⟩ | ⟨g', cap', e, _⟩
          · rw [evw] at e; injection e with e _ _; rw [hx] at e; cases e
          · rw [evw] at e ⊢; injection e with e _ _; rw [hx] at e; injection e with e; rw [hx, e]; rfl
        have oww : ∀ k, vw.ownBlock = some k → q4 + 3 ≤ k ∧ k < q10 := fun k hk => ⟨ownw k hk, by rw [← hq10]; exact (World.ownsRow.lt ow10 k hk).2⟩
        obtain ⟨A11, hA11⟩ : ∃ A11, w10.alloc (.cells #[vw] 30) = A11 := ⟨_, rfl⟩
        have f1011 : Still w10 A11 := hA11 ▸ (Fr.refl _ w10).alloc _
        have y11 : A11.heap.size = q10 + 1 := by rw [← hA11]; simp [hq10]
        have f811 : Still A8 A11 := f810.trans' f1011 (fun _ x => x.elim)
        have f711 : Still A7 A11 := f78.trans' f811 (fun _ x => x.elim)
        have f611 : Still A6 A11 := f67.trans' f711 (fun _ x => x.elim)
        have f411 : Still w4 A11 := f48.trans' f811 (fun _ x => x.elim)
        have f011 : Still wq A11 := f08.trans' f811 (fun _ x => x.elim)
        have bw11 : Box A11 q10 vw := by
          have := Box.new w10 vw 30
          rw [hA11, hq10] at this; exact this
        have ba11 : Box A11 (q4 + 1) (.int .i64 0) := by
          have := Box.new A6 (.int .i64 0) 3
          rw [hA7, y6] at this; exact this.kept f711 (fun x => x)
        have bg11 : Box A11 (q4 + 2) (.bool false) := by
          have := Box.new A7 (.bool false) 4
          rw [hA8, y7] at this; exact this.kept f811 (fun x => x)
        have oc11 : A11.heap[q]? = some (.cells #[.int .i64 (z m).kd, .int .i64 (z m).i, .slice (z m).a (z m).n (z m).c] 32 (0, 0)) := by
          have h2 := g2.obj oc1 (fun x => x)
          have h4 : w4.heap[q]? = _ := (M4.gr.block q (by omega) (by simp [Value.ownBlock])).trans h2
          exact f411.obj h4 (fun x => x)
        obtain ⟨e1, e2, e3⟩ := S.d1
        have lbl := S.cl.lt
        rw [hq] at lbl
        have vlt : ∀ k, (Value.slice ad rs.length cp).ownBlock = some k → k < q := fun k hk => by rw [← hq]; exact (S.rl.lt k hk).2
        have hcE : HpC 1467 12176 w (fun k => PyY hb n1 n3 (.slice ad rs.length cp) q q4 (q4 + 1) (q4 + 2) v9 k ∨ vw.ownBlock = some k) A11 hb sb b T A 3072 True s base := by
          refine S.hc.grow (F := fun _ => False) f011 (fun k hk => hk.elim) (fun x => x) (fun k hk => ?_) (.inl (.inl (.inl rfl)))
          rcases hk with (hk | hk | hk | hk | hk | hk) | hk
          · exact .inl hk
          · exact .inr (by omega)
          · exact .inr (by omega)
          · exact .inr (by omega)
          · exact .inr (by omega)
          · have := own4 k hk; exact .inr (by omega)
          · have := oww k hk; exact .inr (by omega)
        have SI : PyI w A11 b n1 n3 hb sb T A s base rs (.slice ad rs.length cp) q q4 (q4 + 1) (q4 + 2) v9 rs (z m) kx 0 false :=
          ⟨hcE.sub (fun _ hk => .inl hk) (.inl (.inl rfl)), S.cs.kept f011 (fun x => x), S.ch.kept f011 (fun x => x), S.cl.kept f011 (fun x => x), row_still S.rl f011, oc11, row_still nr4 f411, bk6.kept f611 (fun x => x), ba11, bg11, ⟨e1, e2, e3, lbl, by omega, by omega, by omega⟩, fun k hk => ⟨S.d3 k hk, vlt k hk⟩, fun k hk => by have := own4 k hk; omega⟩
        have sy := S.hc.says []
        rw [homed_nil] at sy
        have nlt : ∀ k, q ≤ k → ¬ tfoot sb b T k := fun k hk ht => by have := S.hc.hd.st.lt k ht; omega
        have PW : ∀ w3, Still A11 w3 → PyW 1467 12176 w3 hb sb b T A [] q n1 (n1 + 1) q10 (q4 + 1) n3 q4 (q4 + 2) (z m).kd rs ad cp kx wa (z m).n wc (z m).bt := fun w3 f3 => by
          refine ⟨SI.hc.toHp.still f3, by rw [sy]; exact S.R, rfl, f3.cell' (cell_of_obj SI.oc 0) (fun x => x), f3.cell' SI.cs.c (fun x => x), f3.cell' SI.ch.c (fun x => x), by rw [← evw]; exact f3.cell' bw11.c (fun x => x), (nt10'.fr f1011 (fun _ _ x => x)).fr f3 (fun _ _ x => x), db8, fun x hx => hcE.hd.ap _ (.inr (hwk x hx)), f3.cell' SI.cl.c (fun x => x), (rcs_of_row SI.rl).kept f3, fun x hx => SI.hc.hd.ap _ (.inl (.inr (.inr (.inr (.inr (hadk x hx)))))), f3.cell' SI.ck.c (fun x => x), kxl, by omega, SI.ca.kept f3 (fun x => x), SI.cg.kept f3 (fun x => x), fun k hk => ?_, fun r hr => by have := hrk r hr; omega⟩
          rcases hk with rfl | rfl | rfl | rfl | rfl | rfl | rfl | rfl
          · exact nlt _ (Nat.le_refl _)
          · exact SI.hc.hd.ap _ (.inl (.inr (.inl rfl)))
          · exact SI.hc.hd.ap _ (.inl (.inr (.inr (.inl rfl))))
          · exact nlt _ (by omega)
          · exact nlt _ (by omega)
          · exact SI.hc.hd.ap _ (.inl (.inr (.inr (.inr (.inl rfl)))))
          · exact nlt _ (by omega)
          · exact nlt _ (by omega)
        have DO := py_do hcE ⟨.inl (.inr (.inr (.inr (.inl rfl)))), .inl (.inr (.inr (.inr (.inr (.inl rfl)))))⟩ (by omega) (by omega) PW (by omega)
        have cl2 := (S.cl.kept g02 (fun x => x)).c
        have cl5 := (S.cl.kept (fr4.trans' f45 (fun _ x => x.elim)) (fun x => x)).c
        have ob5 : A5.heap[q]? = _ := f45.obj ((M4.gr.block q (by omega) (by simp [Value.ownBlock])).trans (g2.obj oc1 (fun x => x)) : w4.heap[q]? = some (.cells #[.int .i64 (z m).kd, .int .i64 (z m).i, .slice (z m).a (z m).n (z m).c] 32 (0, 0))) (fun x => x)
        have o51 := cell_of_obj ob5 1
        have o92 : (A8.alloc (.cells #[] 5)).cell? ⟨q, 2, none⟩ = some (.slice (z m).a (z m).n (z m).c) := by
          have h8 := ((f56.obj ob5 (show ¬ q = q4 by omega))  : A6.heap[q]? = _)
          exact cell_of_obj (((f67.trans' f78 (fun _ x => x.elim)).alloc (.cells #[] 5)).obj h8 (fun x => x)) 2
        have cs11 := SI.cs.c
        have cl5r := cl5
        rw [← hA5] at cl5r
        have hv9 := own4
        have HSI := hide (And.intro SI (And.intro hcE (And.intro ow10 (And.intro f1011 (And.intro bw11 (And.intro S.R (And.intro oww nlt)))))))
        have HDO := hide DO; have HAP := hide hap; have HBP := hide hbp; have HKX := hide (And.intro hkx (And.intro kxl (And.intro hrk hadk)))
        have HDD := hide (And.intro dN db8)
        have hq1 : q < q4 := by omega
        have bk5c := bk5.c; have bk5z := bk5.z
        clear S qf q0 q1 q2 dN dNq db8 M4 own2 g1 g2 g02 fr4 own4 nr4 f45 f56 f46 f67 f78 f48 f08 f810 nt10 nt10' hwk f1011 f811 f711 f611 f411 f011 bw11 ba11 bg11 oc11 oc1 vlt hcE SI PW DO bk6 bk5 ob5 ow10 hap hbp ownw oww nlt hrk hadk kxl lrow sy
        subst ea
        have HA6 := hide hA6; have HA8 := hide (And.intro hA7 (And.intro hA8 hA11)); have HA5 := hide hA5
        clear hA6 hkx hA5 hA7 hA8 hA11
        subst evw
        go_upto_if 52 with (first | (at_builtin; refine wpList_append_run rfl (.tmp 47) (.tmp 48) 29 rfl _ _ rfl rfl v9 w4 (unhide HAP) ?_) | fail)
        rw [unhide HA5]
        go_cut [] from 50 to 58 (fun wc => wc = A6)
        case first =>
          by_cases hne : rs = []
          · have e6 : A5 = A6 := by have := unhide HA6; rwa [if_pos hne] at this
            subst hne
            rw [List.length_nil] at cl5
            go_wp2
            go_meet
            case rel => rfl
          · have e6 : A5.setCell ⟨q4, 0, none⟩ (.int .i64 kx) = A6 := by have := unhide HA6; rwa [if_neg hne] at this
            have hk := (unhide HKX).1
            rw [if_neg hne] at hk
            have em : bits .and .i64 (z m).i 65535 = (msk (z m).i 65535 : Int) := mask_i64 (z m).i 65535 (by omega)
            have lm := msk_le (z m).i 65535
            have hl0 : 0 < rs.length := List.length_pos_iff.2 hne
            have hkk : ((msk (z m).i 65535 : Nat) : Int) % (rs.length : Nat) = (kx : Int) := by rw [← hk]; omega
            have hlp : ((0 : Int) < (rs.length : Nat)) = True := by simp; omega
            have hl0' : ¬ ((rs.length : Nat) : Int) = 0 := by omega
            clear hk hcp
            generalize rs.length = nl at *
            generalize msk (z m).i 65535 = mq at *
            go_wp2
            go_meet
            case rel => rfl
        case rest =>
          obtain rfl : A6 = wc := hcut.symm
          clear HA5 HAP hA1 hA2 cl2 cl5 cl5r o51 bk5c bk5z o0 o1 o2 p0 p1 p2 y1 y2 y5
          go_upto_region 18 with fail
          rw [(unhide HA8).1, (unhide HA8).2.1]
          have cs11r := cs11
          rw [← (unhide HA8).2.2] at cs11r
          go_wp2_with (first | (at_builtin; refine wpList_append_run rfl (.tmp 59) (.tmp 61) 30 rfl _ _ rfl rfl (.slice wa (z m).n wc) w10 (unhide HBP) ?_) | fail)
          rw [(unhide HA8).2.2, show q4 + 1 + 1 = q4 + 2 from rfl]
          refine (unhide HDO).mono ?_
          clear HDO HBP cs11r cs11 o92 HA6
          rintro e w12 ⟨fr12, c, at_, g, T', A', base', rfl, ba12, bg12, hc12, out⟩
          obtain ⟨SI, hcE, ow10, f1011, bw11, R, oww, nlt⟩ := unhide HSI
          have nfa : ∀ k, q ≤ k → k ≠ q4 + 1 → k ≠ q4 + 2 → ¬ (tfoot sb b T k ∨ k = q4 + 1 ∨ k = q4 + 2) := fun k hk h1 h2 e => e.elim (nlt k hk) (fun e => e.elim h1 h2)
          have bw12 := bw11.kept fr12 (nfa _ (by omega) (by omega) (by omega))
          have own12 : OwnL .u8 5 w12 w.heap.size (.slice wa (z m).n wc) (rowL (z m).bt (z m).n) := owns_same (owns_same ow10 (fun k hk => f1011.block k (World.ownsRow.lt ow10 k hk).2 (fun x => x))) fun k hk => fr12.block k (by have := oww k hk; have := bw11.lt; omega) (nfa k (by have := oww k hk; omega) (by have := oww k hk; omega) (by have := oww k hk; omega))
          obtain ⟨dn, hdn⟩ : ∃ dn, (z m).n = dn := ⟨_, rfl⟩
          have hdn6 : dn ≤ 6000 := by omega
          have cw12 := bw12.c
          have HS12 := hide (And.intro SI (And.intro R (And.intro oww (And.intro nlt (And.intro fr12 (And.intro ba12 (And.intro bg12 (And.intro hc12 (And.intro out (And.intro own12 bw12))))))))))
          clear SI hcE ow10 f1011 bw11 R oww nlt nfa bw12 own12 fr12 ba12 bg12 hc12 out HSI
          rw [hdn] at cw12
          go_wp2_with fail
          go_loopw [16] (fun jv wr => ∃ (j : Nat) (l : List Nat), jv = .int .i64 j ∧ j ≤ dn ∧ l.length = dn ∧ OwnL .u8 5 wr w.heap.size (.slice wa dn wc) l ∧ Fr (fun k => (Value.slice wa dn wc).ownBlock = some k) w12 wr) (fun jv wr => dn - (intOf jv).toNat)
          case atStart =>
            obtain ⟨SI, R, oww, nlt, fr12, ba12, bg12, hc12, out, own12, bw12⟩ := unhide HS12
            exact ⟨0, rowL (z m).bt (z m).n, rfl, by omega, by rw [rowL_len]; exact hdn, by rw [← hdn]; exact own12, Fr.refl _ _⟩
          case round =>
            obtain ⟨j, l, rfl, hj, hll, owl, frl⟩ := hrel
            generalize wr = wj at *
            clear wr
            have oww := (unhide HS12).2.2.1
            rw [hdn] at oww
            have cwj := frl.cell' cw12 (fun e => by have := oww _ e; exact absurd this.2 (Nat.lt_irrefl _))
            by_cases hjl : j < dn
            · have hjl' : ((j : Int) < dn) = True := by simp; omega
              obtain ⟨ko, hwa, cj, zj⟩ : ∃ ko, wa = some ⟨ko, 0, none⟩ ∧ wj.cell? ⟨ko, j, none⟩ = some (.int .u8 (l.getD j 0 : Nat)) ∧ wj.frozen? ⟨ko, j, none⟩ = false := by
                rcases owl.form with ⟨e, e2⟩ | ⟨g', cap', e, _, _, _, hcell, hfz⟩
                · subst e2; simp at hll; omega
                · injection e with e _ _; exact ⟨g', e, hcell j (by omega), hfz j⟩
              obtain ⟨y, hy⟩ : ∃ y, l.getD j 0 = y := ⟨_, rfl⟩
              rw [hy] at cj
              have HOW := hide (And.intro owl frl)
              clear owl frl oww hy
              subst hwa
              go_wp2
              obtain ⟨owl, frl⟩ := unhide HOW
              refine ⟨⟨j + 1, l.set j ((y + 1) % 256), by go_num, by omega, by simpa using hll, ?_, ?_⟩, by simp [intOf]; omega⟩
              · have := owl.set j ((y + 1) % 256)
                rw [show (((y + 1) % 256 : Nat) : Int) = ((y : Int) + 1) % 256 by omega] at this
                exact this
              · refine frl.setCell (.inl ?_) _
                rfl
            · have ej : j = dn := by omega
              subst ej
              have hjl' : ((j : Int) < j) = False := by simp
              obtain ⟨SI, R, oww', nlt, fr12, ba12, bg12, hc12, out, own12, bw12⟩ := unhide HS12
              rw [hdn] at hc12
              obtain ⟨e1, e2, e3, e4, e5, e6, e7⟩ := SI.d1
              have hc13 := hc12.var frl (fun k hk => .inr hk) (fun e => by have := oww _ e; omega)
              have S13 : PyI w wj b n1 n3 hb sb T' A' (s + 30729) base' rs (.slice ad rs.length cp) q q4 (q4 + 1) (q4 + 2) v9 rs (z m) kx at_ g := by
                refine SI.did (F := fun k => (tfoot sb b T k ∨ k = q4 + 1 ∨ k = q4 + 2) ∨ (Value.slice wa j wc).ownBlock = some k) ((fr12.mono (fun k hk => .inl (.inl hk))).trans (frl.mono (fun k hk => .inl (.inr hk)))) (fun k hk h1 h2 e => ?_) (hc13.sub (fun k hk => .inl hk) (.inl (.inl rfl))) (ba12.kept frl (fun e => by have := oww _ e; omega)) (bg12.kept frl (fun e => by have := oww _ e; omega))
                rcases e with (e | e | e) | e
                · exact SI.hc.hd.ap k hk e
                · exact h1 e
                · exact h2 e
                · have h5 := oww k e
                  rcases hk with (hk | hk | hk | hk | hk) | hk | hk | hk | hk | hk
                  · omega
                  · omega
                  · omega
                  · omega
                  · have := SI.d3 k hk; omega
                  · omega
                  · omega
                  · omega
                  · omega
                  · have := (SI.nr.lt k hk).2
                    have h6 := hv9 k hk
                    omega
              have o0 := cell_of_obj S13.oc 0; have o2 := cell_of_obj S13.oc 2
              rw [hdn] at o2
              have c12 := S13.ca.c; have c13 := S13.cg.c; have c11 := S13.ck.c; have c6 := S13.cl.c
              have HS13 := hide (And.intro S13 (And.intro R out)); have HKR := hide R
              clear SI R oww oww' nlt fr12 ba12 bg12 hc12 out own12 bw12 S13 hc13 owl frl cw12 hjl
              go_upto_block 4 with fail
              go_cut [9, 10] from 78 to 155 (fun s9 s10 wc => s10 = .int .i64 c ∧ ((c = 0 ∧ ∃ rs', Recs 1467 12176 (rb base') rs' ∧ rs'.length ≤ m + 1 ∧ (∀ r ∈ rs', r.k ≤ m + 2) ∧ PyI w wc b n1 n3 hb sb T' A' (s + 30729) base' rs (.slice ad rs.length cp) q q4 (q4 + 1) (q4 + 2) s9 rs' (z m) kx at_ g) ∨ (c ≠ 0 ∧ base' = base ∧ ∃ nw', PyI w wc b n1 n3 hb sb T' A' (s + 30729) base' rs (.slice ad rs.length cp) q q4 (q4 + 1) (q4 + 2) s9 nw' (z m) kx at_ g)))
              case first =>
                obtain ⟨S13, R, out⟩ := unhide HS13
                rcases out with ⟨hc0, rs', R', kw⟩ | ⟨hbb, ke⟩
                · subst hc0
                  rcases kw with ⟨hkd, hn4, u, us, hat, hrs'⟩ | ⟨hkd, r, hr, hrs'⟩ | ⟨k0, k1, k3, r, hr, hdr⟩ | ⟨k0, k3, hre, hrs'⟩
                  · as_aux_lemma =>
                      rw [hkd] at o0
                      clear hkd
                      have h4 : ((4096 : Int) < j) = False := by simp; omega
                      have dN := (unhide HDD).1
                      have dj := dN.fr S13.hc.hd.fr (fun _ _ x => x)
                      have cv := conv_str wj (z m).a (z m).n (z m).c (z m).bt dj
                      rw [hdn] at cv hrs' hn4
                      obtain ⟨W1, hW1⟩ : ∃ W1, wj.alloc (.cells #[.int .i64 at_, .int .i64 1, .string (strB (z m).bt j)] 38) = W1 := ⟨_, rfl⟩
                      have f1 : Still wj W1 := hW1 ▸ (Fr.refl _ wj).alloc _
                      have ob : W1.heap[wj.heap.size]? = some (.cells #[.int .i64 at_, .int .i64 1, .string (strB (z m).bt j)] 38 (0, 0)) := hW1 ▸ heap_alloc_new wj _
                      have rc1 : RcsAt 1467 W1 (some ⟨wj.heap.size, 0, none⟩) [(⟨u, us, j, 1, (z m).bt⟩ : Rc)] := fun k r hr => by
                        have hk : k = 0 := by have := (List.getElem?_eq_some_iff.1 hr).1; simp at this; exact this
                        subst hk
                        simp at hr
                        subst hr
                        exact ⟨wj.heap.size, 0, rfl, by rw [← hat]; exact cell_of_obj ob 0, cell_of_obj ob 1, cell_of_obj ob 2⟩
                      have lo13 := S13.hc.hd.fr.size
                      have hrm : rs.length ≤ 25 := by omega
                      obtain ⟨v', w', hr, M⟩ := run_recs W1 w.heap.size 29 v9 rs [(⟨u, us, j, 1, (z m).bt⟩ : Rc)] (row_still S13.nr f1) (some ⟨wj.heap.size, 0, none⟩) 1 (fun e => by cases e) rc1 (by simp; omega) (by have := f1.size; omega)
                      have fM : Fr (fun k => v9.ownBlock = some k) wj w' := (f1.mono (G := fun k => v9.ownBlock = some k) (fun _ hk => hk.elim)).trans ((Fr.refl (fun k => v9.ownBlock = some k) W1).grown M.gr (fun r e => .inl e))
                      have S14 := S13.now (nw' := rs ++ [(⟨u, us, j, 1, (z m).bt⟩ : Rc)]) (vn' := v') fM (fun k hk => hk) M.own (fun k hk => by
                        rcases M.loc with e | e
                        · left; rw [← e]; exact hk
                        · rw [hk] at e; have := Option.some.inj e; have := f1.size; right; omega)
                      have HR := hide (And.intro S14 (And.intro R' hrs')); have HAP := hide hr; have HW1 := hide hW1
                      clear S13 S14 R R' hrs' fM M rc1 ob f1 hW1 hr dj dN lo13 hat
                      go_wp2_with (first | (at_builtin; rw [unhide HW1]; refine wpList_append_run rfl (.tmp 96) (.tmp 102) 29 rfl _ _ rfl rfl v' w' (unhide HAP) ?_) | fail)
                      go_meet
                      case rel =>
                        obtain ⟨S14, R', hrs'⟩ := unhide HR
                        subst hrs'
                        refine ⟨rfl, .inl ⟨by first | rfl | trivial, _, R', by simp; omega, fun r' hr' => ?_, S14⟩⟩
                        rcases List.mem_append.1 hr' with h | h
                        · have := (unhide HKX).2.2.1 r' h; omega
                        · simp at h; subst h; show 1 ≤ m + 2; omega
                  · as_aux_lemma =>
                      have hm := List.mem_of_getElem? hr
                      have hlt := (List.getElem?_eq_some_iff.1 hr).1
                      rw [hkd] at o0
                      clear hkd
                      obtain ⟨g9, cp9, e9⟩ : ∃ g9 cp9, v9 = .slice (some ⟨g9, 0, none⟩) rs.length cp9 := by
                        rcases S13.nr.2 with ⟨_, e0⟩ | ⟨gg, cp', cur, ev, _⟩
                        · omega
                        · exact ⟨gg, cp', ev⟩
                      subst e9
                      obtain ⟨xb', xo', ex, y0, y1, y2⟩ := (rcs_of_row S13.nr) kx r hr
                      injection ex with ex
                      injection ex with ex1 ex2
                      subst ex1; subst ex2
                      rw [Nat.zero_add] at y1
                      have fz : wj.frozen? ⟨g9, kx * 3 + 1, none⟩ = false := by
                        rcases S13.nr.2 with ⟨e, _⟩ | ⟨gg, cp', cur, ev, _, hg, _⟩
                        · cases e
                        · injection ev with ev _ _; injection ev with ev; injection ev with ev _ _; subst ev; simp [World.frozen?, hg]
                      have hk100 := (unhide HKX).2.2.1 r hm
                      have f14 : Fr (fun k => k = g9) wj (wj.setCell ⟨g9, kx * 3 + 1, none⟩ (.int .i64 ((r.k + 1 : Nat) : Int))) := (Fr.refl (fun k => k = g9) wj).setCell (p := ⟨g9, kx * 3 + 1, none⟩) (.inl rfl) _
                      have S14 := S13.now (nw' := rs.set kx { r with k := r.k + 1 }) (vn' := .slice (some ⟨g9, 0, none⟩) rs.length cp9) f14 (fun k hk => by have hk : k = g9 := hk; subst hk; rfl) (rrow_set S13.nr hr (r.k + 1)) (fun k hk => .inl hk)
                      have l0 : ((0 : Int) < rs.length) = True := by simp; omega
                      have lk : ((kx : Int) < rs.length) = True := by simp; omega
                      have ek : ((r.k + 1 : Nat) : Int) = (r.k : Int) + 1 := by omega
                      rw [ek] at S14
                      have HR := hide (And.intro S14 (And.intro R' hrs')); have HRM := hide hr
                      clear S13 S14 R R' hrs' y0 y2 hcp hr f14
                      go_wp2
                      go_meet
                      case rel =>
                        obtain ⟨S14, R', hrs'⟩ := unhide HR
                        subst hrs'
                        refine ⟨rfl, .inl ⟨by first | rfl | trivial, _, R', by simp; omega, fun r' hr' => ?_, S14⟩⟩
                        rcases List.mem_or_eq_of_mem_set hr' with h | h
                        · have := (unhide HKX).2.2.1 r' h; omega
                        · subst h; show r.k + 1 ≤ m + 2; omega
                  · as_aux_lemma =>
                      have hm := List.mem_of_getElem? hr
                      have hlt := (List.getElem?_eq_some_iff.1 hr).1
                      have hrm : rs.length ≤ 25 := by omega
                      have k0' : ((z m).kd == 0) = false := by simpa using k0
                      have k1' : ((z m).kd == 1) = false := by simpa using k1
                      have k3' : ((z m).kd == 3) = false := by simpa using k3
                      obtain ⟨g9, cp9, e9, hcp9⟩ : ∃ g9 cp9, v9 = .slice (some ⟨g9, 0, none⟩) rs.length cp9 ∧ rs.length ≤ cp9 := by
                        rcases S13.nr.2 with ⟨_, e0⟩ | ⟨gg, cp', cur, ev, _, _, h3, _⟩
                        · omega
                        · exact ⟨gg, cp', ev, h3⟩
                      subst e9
                      obtain ⟨xb', xo', ex, y0, y1, y2⟩ := (rcs_of_row S13.nr) kx r hr
                      injection ex with ex
                      injection ex with ex1 ex2
                      subst ex1; subst ex2
                      rw [Nat.zero_add] at y1
                      have fz : wj.frozen? ⟨g9, kx * 3 + 1, none⟩ = false := by
                        rcases S13.nr.2 with ⟨e, _⟩ | ⟨gg, cp', cur, ev, _, hg, _⟩
                        · cases e
                        · injection ev with ev _ _; injection ev with ev; injection ev with ev _ _; subst ev; simp [World.frozen?, hg]
                      have hk100 := (unhide HKX).2.2.1 r hm
                      have hk1 : 1 ≤ r.k := by rcases hdr with ⟨_, h, _⟩ | ⟨_, h, _⟩ <;> omega
                      obtain ⟨W1, hW1⟩ : ∃ W1, wj.setCell ⟨g9, kx * 3 + 1, none⟩ (.int .i64 ((r.k - 1 : Nat) : Int)) = W1 := ⟨_, rfl⟩
                      have f14 : Fr (fun k => k = g9) wj W1 := hW1 ▸ (Fr.refl (fun k => k = g9) wj).setCell (p := ⟨g9, kx * 3 + 1, none⟩) (.inl rfl) _
                      have S14 : PyI w W1 b n1 n3 hb sb T' A' (s + 30729) base' rs (.slice ad rs.length cp) q q4 (q4 + 1) (q4 + 2) (.slice (some ⟨g9, 0, none⟩) rs.length cp9) (rs.set kx { r with k := r.k - 1 }) (z m) kx at_ g := S13.now (nw' := rs.set kx { r with k := r.k - 1 }) (vn' := .slice (some ⟨g9, 0, none⟩) rs.length cp9) f14 (fun k hk => by have hk : k = g9 := hk; subst hk; rfl) (by rw [← hW1]; exact rrow_set S13.nr hr (r.k - 1)) (fun k hk => .inl hk)
                      have hr4 : (rs.set kx { r with k := r.k - 1 })[kx]? = some { r with k := r.k - 1 } := by rw [List.getElem?_set_self hlt]
                      obtain ⟨xb', xo', ex, u0, u1, u2'⟩ := (rcs_of_row (by simpa using S14.nr)) kx _ hr4
                      injection ex with ex
                      injection ex with ex1 ex2
                      subst ex1; subst ex2
                      rw [Nat.zero_add] at u1
                      have l0 : ((0 : Int) < rs.length) = True := by simp; omega
                      have lk : ((kx : Int) < rs.length) = True := by simp; omega
                      have ek : (r.k : Int) - 1 = ((r.k - 1 : Nat) : Int) := by omega
                      have wk : IntKind.i64.wrap ((r.k : Int) - 1) = ((r.k - 1 : Nat) : Int) := by rw [ek]; exact (wrap_small _ (by omega) (by omega)).1
                      have d11 := S14.ck.c; have d13 := S14.cg.c
                      have HW1 := hide hW1
                      rcases hdr with ⟨hg, hk1', hrs'⟩ | ⟨hg, hk2, hrs'⟩
                      · subst hg
                        have e0 : r.k - 1 = 0 := by omega
                        have hW0 : wj.setCell ⟨g9, kx * 3 + 1, none⟩ (.int .i64 0) = W1 := by rw [← hW1, e0]; rfl
                        have u1' : W1.cell? ⟨g9, kx * 3 + 1, none⟩ = some (.int .i64 0) := by rw [u1, e0]; rfl
                        have wk' : IntKind.i64.wrap ((r.k : Int) - 1) = 0 := by rw [wk, e0]; rfl
                        rw [e0] at S14
                        have hseq : (rs.set kx { r with k := 0 }).eraseIdx kx = rs.eraseIdx kx := by
                          rw [List.eraseIdx_eq_take_drop_succ, List.eraseIdx_eq_take_drop_succ, List.take_set, List.drop_set, if_pos (by omega), List.set_eq_of_length_le (by rw [List.length_take]; omega)]
                        have hk0 : ((r.k : Int) - 1) = 0 := by omega
                        have HS14 := hide (And.intro S14 (And.intro R' hrs')); have HSE := hide hseq; have HW0 := hide hW0
                        have hcl : (rs.set kx { r with k := 0 }).length = rs.length := by simp
                        have HCL := hide hcl
                        obtain ⟨zz, hzz⟩ : ∃ zz, W1.heap.size = zz := ⟨_, rfl⟩
                        clear S13 S14 R R' hrs' y0 y2 hcp f14 hW1 u0 u2' hr4 hseq hr ek u1 wk hW0 hcl HW1 e0
                        go_upto_region 36 with fail
                        rw [unhide HW0]
                        go_quiet (fail)
                        obtain ⟨S14, R', hrs'⟩ := unhide HS14
                        have fq : Still W1 (W1.drewN (nq + 1)) := (Fr.refl _ W1).drewN (nq + 1)
                        obtain ⟨v6, w6, v7, w7, h150, h155, f6, f7, own7, l7⟩ := run_butR (nu := 1467) (W1.drewN (nq + 1)) w.heap.size zz (rs.set kx { r with k := 0 }) (some ⟨g9, 0, none⟩) cp9 kx (fun e => by cases e) ((rcs_of_row (by simpa using S14.nr)).kept fq) (by simpa using hlt) (by simpa using hcp9) (by simpa using (show rs.length ≤ 500 by omega)) (by have := S14.hc.hd.fr.size; exact this) hzz
                        rw [unhide HCL] at h155
                        have f17 : Still W1 w7 := fq.trans' f7 (fun _ x => x.elim)
                        have S15 := S14.now (F := fun _ => False) f17 (fun k hk => hk.elim) own7 (fun k hk => .inr (l7 k hk))
                        rw [unhide HSE, ← hrs'] at S15
                        have ckq := (S14.ck.kept fq (fun x => x)).c
                        have cka : ((W1.drewN (nq + 1)).alloc (.cells #[] 38)).cell? ⟨q4, 0, none⟩ = some (.int .i64 kx) := (S14.ck.kept (fq.alloc _) (fun x => x)).c
                        have ck6 : w6.cell? ⟨q4, 0, none⟩ = some (.int .i64 kx) := (S14.ck.kept (fq.trans' f6 (fun _ x => x.elim)) (fun x => x)).c
                        have s1 := fun w => slice_toR (some ⟨g9, 0, none⟩) rs.length cp9 kx w (by omega)
                        have s2 : ∀ w, (Instr.slice 29 (.slice (some ⟨g9, 0, none⟩) rs.length cp9) (some (.int .i64 ((kx : Int) + 1))) none none).run Tryz.prog w = .ok (.slice (cutR (some ⟨g9, 0, none⟩) cp9 (kx + 1)) (rs.length - (kx + 1)) (cp9 - (kx + 1))) w := fun w => slice_fromR (some ⟨g9, 0, none⟩) rs.length cp9 (kx + 1) w (by omega)
                        have wk1 : IntKind.i64.wrap ((kx : Int) + 1) = (kx : Int) + 1 := (wrap_small _ (by omega) (by omega)).1
                        have H150 := hide h150; have H155 := hide h155
                        have HS15 := hide (And.intro S15 (And.intro R' hrs'))
                        clear S14 S15 R' hrs' h150 h155 f6 f7 own7 l7 f17 fq
                        generalize cutR (some ⟨g9, 0, none⟩) cp9 (kx + 1) = aq at *
                        generalize rs.length - (kx + 1) = rq at *
                        generalize cp9 - (kx + 1) = cq at *
                        go_upto_region 39 with fail
                        go_region_law (first | (refine step_append_run rfl (.tmp 146) (.tmp 149) 29 rfl _ _ rfl rfl v6 w6 (unhide H150) ?_) | (refine step_append_run rfl (.tmp 150) (.tmp 154) 29 rfl _ _ rfl rfl v7 w7 (unhide H155) ?_))
                        all_goals
                          go_wp2
                          go_meet
                          case rel =>
                            obtain ⟨S15, R', hrs'⟩ := unhide HS15
                            refine ⟨rfl, .inl ⟨by first | rfl | trivial, rs', R', ?_, fun r' hr' => ?_, S15⟩⟩
                            · rw [hrs']; have := List.length_eraseIdx_le rs kx; omega
                            · rw [hrs'] at hr'
                              have := (unhide HKX).2.2.1 r' (List.mem_of_mem_eraseIdx hr')
                              omega
                      · subst hg
                        have hk0 : (((r.k - 1 : Nat) : Int) == 0) = false := by simp; omega
                        have HS14 := hide (And.intro S14 (And.intro R' hrs'))
                        clear S13 S14 R R' hrs' y0 y2 hcp f14 hW1 u0 u2' hr4 hr
                        go_upto_region 36 with fail
                        rw [unhide HW1]
                        go_quiet (fail)
                        go_wp2
                        go_meet
                        case rel =>
                          obtain ⟨S14, R', hrs'⟩ := unhide HS14
                          subst hrs'
                          have fq : Still W1 (W1.drewN nq) := (Fr.refl _ W1).drewN nq
                          refine ⟨rfl, .inl ⟨by first | rfl | trivial, _, R', by simp; omega, fun r' hr' => ?_, S14.now (F := fun _ => False) fq (fun k hk => hk.elim) (row_still S14.nr fq) (fun k hk => .inl hk)⟩⟩
                          rcases List.mem_or_eq_of_mem_set hr' with h | h
                          · have := (unhide HKX).2.2.1 r' h; omega
                          · subst h; show r.k - 1 ≤ m + 2; omega
                  · as_aux_lemma =>
                      subst hre
                      have k0' : ((z m).kd == 0) = false := by simpa using k0
                      have k3' : ((z m).kd == 3) = false := by simpa using k3
                      rw [List.length_nil] at c6
                      have HR := hide (And.intro S13 R')
                      clear S13 R R'
                      go_wp2
                      go_meet
                      case rel =>
                        obtain ⟨S13, R'⟩ := unhide HR
                        subst hrs'
                        exact ⟨rfl, .inl ⟨by first | rfl | trivial, [], R', by simp, by simp, S13⟩⟩
                · rcases ke with ⟨hkd, hn4, hc⟩ | ⟨hkd, hc⟩ | ⟨hkd, hc⟩
                  · as_aux_lemma =>
                      subst hc
                      rw [hkd] at o0
                      clear hkd
                      have h4 : ((4096 : Int) < j) = True := by simp; omega
                      have HR := hide S13
                      clear S13 R
                      go_wp2
                      go_meet
                      case rel => exact ⟨rfl, .inr ⟨by omega, hbb, rs, unhide HR⟩⟩
                  · as_aux_lemma =>
                      subst hc
                      have AW := l10_awake wj (fun i hi => S13.hc.hd.fr.cell' (unhide HT i hi) (fun x => x))
                      have HAW := hide AW; have HF := hide S13.hc.hd.fr
                      clear AW S13 R hkd
                      go_wp2_with fail
                      refine (unhide HAW).mono ?_
                      clear HAW
                      rintro e w9 ⟨rfl, f9⟩
                      have HF9 := hide ((unhide HF).trans' f9 (fun _ x => x.elim))
                      clear f9
                      go_wp2
                      go_ret
                      have f := unhide HF9
                      exact ⟨rfl, f.os, f.tape, f.output, f.size, fun k hk => f.block k hk (fun x => x)⟩
                  · as_aux_lemma =>
                      subst hc
                      rw [hkd] at o0
                      clear hkd
                      have HR := hide S13
                      clear S13 R
                      go_wp2
                      go_meet
                      case rel => exact ⟨rfl, .inr ⟨by omega, hbb, rs, unhide HR⟩⟩
              case rest =>
                obtain ⟨rfl, hcc⟩ := hcut
                clear HS13 c12 c13 c11 c6 o0 o2
                rcases hcc with ⟨hc0, rs', R', hl', hk', S14⟩ | ⟨hcn, hbb, nw', S14⟩
                · subst hc0
                  have H15 := S14.take R'
                  obtain ⟨W15, hW15⟩ : ∃ W15, wc.setCell ⟨n3, 0, none⟩ u9 = W15 := ⟨_, rfl⟩
                  rw [hW15] at H15
                  obtain ⟨ad', cp', ev, hadk'⟩ : ∃ ad' cp', u9 = .slice ad' rs'.length cp' ∧ ∀ x, ad' = some x → u9.ownBlock = some x.block := by
                    rcases S14.nr.2 with ⟨ev, e0⟩ | ⟨gg, cp', cur, ev, _⟩
                    · exact ⟨none, 0, by rw [ev, e0], fun x hx => by cases hx⟩
                    · exact ⟨some ⟨gg, 0, none⟩, cp', ev, fun x hx => by injection hx with hx; rw [ev, ← hx]; rfl⟩
                  have SD := l10_sound (ad := ad') (cp := cp') H15.hc H15.R (rcs_of_row (by have := H15.rl; rw [ev] at this; exact this)) (fun x hx => (H15.rl.lt _ (hadk' x hx)).2) (by omega) (by omega)
                  have c6 := S14.cl.c; have z6 := S14.cl.z
                  have d1 := H15.cs.c; have d2 := H15.ch.c; have d3 := H15.cl.c
                  subst ev
                  have HSD := hide SD; have HH := hide H15; have HW15 := hide hW15
                  rw [← hW15] at d1 d2 d3
                  clear SD H15 S14 hW15 R'
                  go_wp2_with fail
                  rw [unhide HW15]
                  refine (unhide HSD).mono ?_
                  clear HSD c6 z6 d1 d2 d3
                  rintro e w16 ⟨rfl, fr16, T2, A2, hc16⟩
                  have HE := hide ((unhide HH).after fr16 hc16)
                  clear fr16 hc16 HH
                  go_wp2
                  exact ⟨⟨m + 1, rs', _, T2, A2, s + 30729 + 30729, base', by go_num, by omega, by omega, by omega, hl', hk', unhide HE⟩, by simp [intOf]; omega⟩
                · subst hbb
                  have R := (unhide HKR)
                  have H15 := S14.drop R
                  have SD := l10_sound (ad := ad) (cp := cp) H15.hc H15.R (rcs_of_row H15.rl) (fun x hx => (H15.rl.lt _ ((unhide HKX).2.2.2 x hx)).2) (by omega) (by omega)
                  have d1 := H15.cs.c; have d2 := H15.ch.c; have d3 := H15.cl.c
                  have HSD := hide SD; have HH := hide H15
                  have c0' : (c == 0) = false := by simpa using hcn
                  clear SD H15 S14 R
                  go_wp2_with fail
                  refine (unhide HSD).mono ?_
                  clear HSD d1 d2 d3
                  rintro e w16 ⟨rfl, fr16, T2, A2, hc16⟩
                  have HE := hide ((unhide HH).after fr16 hc16)
                  clear fr16 hc16 HH
                  go_wp2
                  exact ⟨⟨m + 1, rs, _, T2, A2, s + 30729 + 30729, base', by go_num, by omega, by omega, by omega, by omega, fun r hr => by have := (unhide HKX).2.2.1 r hr; omega, unhide HE⟩, by simp [intOf]; omega⟩
    · have HF := hide S.hc.hd.fr
      clear S hrk
      rcases (show ¬ m < len ∨ (m < len ∧ m = 25) by omega) with h | ⟨h, h25⟩
      · have hi1 : ((m : Int) < len) = False := by simp; omega
        clear hlt
        go_wp2
        go_ret
        have f := unhide HF
        exact ⟨rfl, f.os, f.tape, f.output, f.size, fun k hk => f.block k hk (fun x => x)⟩
      · have hi1 : ((m : Int) < len) = True := by simp; omega
        have hi2 : ((m : Int) < 25) = False := by simp; omega
        clear hlt h25
        go_wp2
        go_ret
        have f := unhide HF
        exact ⟨rfl, f.os, f.tape, f.output, f.size, fun k hk => f.block k hk (fun x => x)⟩
end

section
section
variable {nu sz : Nat} {w w' w0 : World} {hb sb b bs bh bb ba bo bn bk bg : Nat} {T : Tay} {A : Ab} {P : List (Int × Int)} {v : Value}

set_option maxRecDepth 20000 in
set_option maxHeartbeats 4000000 in
theorem szC2 (h : Hp nu sz w hb sb b T A P) (s : HpS nu (says P A)) {a : Option Addr} {n cp : Nat} {bt : Nat → Nat} (hN : Nats .u8 w a n bt) (hb8 : ∀ i, i < n → bt i < 256) (hm : P.length + 200 ≤ 6144) {u : Nat} {us : List Nat} (r : RecS nu sz (says P A) u us n 1 (wordN bt n))
    (cs : w.cell? ⟨bs, 0, none⟩ = some (ptr sb)) (ch : w.cell? ⟨bh, 0, none⟩ = some (ptr hb)) (cb : w.cell? ⟨bb, 0, none⟩ = some (.slice a n cp)) (ca : w.cell? ⟨ba, 0, none⟩ = some (.int .i64 (fi nu + 8 * u : Nat))) (co : Box w bo (.bool false)) (nbo : ¬ tfoot sb b T bo) (ne : bs ≠ bo ∧ bh ≠ bo ∧ ba ≠ bo ∧ hb ≠ bo ∧ 0 ≠ bo) (ne2 : bb ≠ bo ∧ ∀ x, a = some x → x.block ≠ bo) :
    Calls Tryz.prog 19 #[ptr bs, ptr bh, ptr ba, ptr bb, ptr bo] w fun e w' => e = .returned (.tuple #[]) ∧ ∃ T' P', OnxX (fun k => k = bo) w sb b T w' T' sz A P' false ∧ Box w' bo (.bool true) ∧ Dropped nu (says P A) u us (says P' A) := by
  have RD : ∀ w1, Still w w1 → Calls Tryz.prog 20 #[ptr sb, ptr hb, .int .i64 (fi nu + 8 * u : Nat)] w1 _ := fun w1 f1 => r_read (h.still f1) s bt hb8 r
  have PC : ∀ w1, Still w w1 → Calls Tryz.prog 21 #[ptr sb, ptr hb, .int .i64 (fi nu + 8 * u : Nat)] w1 _ := fun w1 f1 => r_pieces (h.still f1) s r
  have DR : ∀ w1, Fr (fun k => k = bo) w w1 → Calls Tryz.prog 14 #[ptr sb, ptr hb, .int .i64 (fi nu + 8 * u : Nat)] w1 _ := fun w1 f1 => r_drop1 (h.turn f1 (fun k hk => by have hk : k = bo := hk; subst hk; exact nbo) ne.2.2.2.1 ne.2.2.2.2) s hm r
  have cm := chain_many r.ch
  have n4 := r.ch.1.n4
  have hl := r.len
  obtain ⟨d, hd⟩ : ∃ d, (n + 511) / 512 = d := ⟨_, rfl⟩
  have q1 : IntKind.i64.wrap (((n : Int) + 511).tdiv 512) = (d : Int) := by
    have e : ((n : Int) + 511).tdiv 512 = (d : Int) := by rw [Int.tdiv_eq_ediv_of_nonneg (by omega)]; omega
    rw [e]; exact (wrap_small _ (by omega) (by omega)).1
  have q2 : ((d : Int) ≤ (us.length : Int) + 1) = True := by simp at cm ⊢; omega
  have w511 : IntKind.i64.wrap ((n : Int) + 511) = (n : Int) + 511 := (wrap_small _ (by omega) (by omega)).1
  have lt := co.lt
  have HRD := @hide _ RD; have HPC := @hide _ PC; have HDR := @hide _ DR; have HB := hide (And.intro h co)
  have co0 := co.c; have z0 := co.z
  clear RD PC DR h s r hb8 co hd cm
  obtain ⟨p0, hp0⟩ : ∃ p0 : Int, ((fi nu + 8 * u : Nat) : Int) = p0 := ⟨_, rfl⟩
  simp only [hp0] at HRD HPC HDR ca
  clear hp0
  go_enter Tryz.func19, Tryz.ntmps19
  go_upto_region 0 with fail
  obtain ⟨W, hW⟩ : ∃ W, w.drew = W := ⟨_, rfl⟩
  have fW : Still w W := hW ▸ (Fr.refl _ w).drewN 1
  refine wp_region_held_drew (S := fun w' => w'.cell? ⟨bs, 0, none⟩ = some (ptr sb) ∧ w'.cell? ⟨bh, 0, none⟩ = some (ptr hb) ∧ w'.cell? ⟨ba, 0, none⟩ = some (.int .i64 p0) ∧ w'.cell? ⟨bb, 0, none⟩ = some (.slice a n cp) ∧ Nats .u8 w' a n bt) (by kernel_rfl) ?_ (fun hHeld => ?_)
  · rw [hW]; exact ⟨fW.cell' cs (fun x => x), fW.cell' ch (fun x => x), fW.cell' ca (fun x => x), fW.cell' cb (fun x => x), hN.fr fW (fun _ _ x => x)⟩
  rw [hW] at hHeld ⊢
  clear hW
  refine take_l 0 (v := ?_) rfl (by kernel_rfl) (by kernel_rfl) (by kernel_rfl) (fun _ _ _ h => h) (Or.inl ⟨by rfl, ?_⟩) hHeld ?_
  rotate_left
  · (intro w hSw; (try dsimp only at hSw); go_simp; (try with_reducible rfl))
  simp only [Act.put, List.setIfInBounds_toArray, List.set_cons_zero, List.set_cons_succ]
  refine take_l 1 (v := ?_) rfl (by kernel_rfl) (by kernel_rfl) (by kernel_rfl) (fun _ _ _ h => h) (Or.inl ⟨by rfl, ?_⟩) hHeld ?_
  rotate_left
  · (intro w hSw; (try dsimp only at hSw); go_simp; (try with_reducible rfl))
  simp only [Act.put, List.setIfInBounds_toArray, List.set_cons_zero, List.set_cons_succ]
  refine take_l 2 (v := ?_) rfl (by kernel_rfl) (by kernel_rfl) (by kernel_rfl) (fun _ _ _ h => h) (Or.inl ⟨by rfl, ?_⟩) hHeld ?_
  rotate_left
  · (intro w hSw; (try dsimp only at hSw); go_simp; (try with_reducible rfl))
  simp only [Act.put, List.setIfInBounds_toArray, List.set_cons_zero, List.set_cons_succ]
  refine take_l 5 (v := ?_) rfl (by kernel_rfl) (by kernel_rfl) (by kernel_rfl) (fun _ _ _ h => h) (Or.inl ⟨by rfl, ?_⟩) hHeld ?_
  rotate_left
  · (intro w hSw; (try dsimp only at hSw); go_simp; (try with_reducible rfl))
  simp only [Act.put, List.setIfInBounds_toArray, List.set_cons_zero, List.set_cons_succ]
  refine take_l 6 (v := .string (strB bt n)) rfl (by kernel_rfl) (by kernel_rfl) (by kernel_rfl) (fun _ _ _ h => h) (Or.inl ⟨by rfl, ?_⟩) hHeld ?_
  · (intro w hSw; (try dsimp only at hSw); go_simp; first | done | (rw [conv_str w a n cp bt hSw.2.2.2.2]; rfl) | (simp [conv_str w a n cp bt hSw.2.2.2.2]))
  simp only [Act.put, List.setIfInBounds_toArray, List.set_cons_zero, List.set_cons_succ]
  refine wpAnyH_ready (rs := [3]) (by kernel_rfl) (by simp) ?_
  refine AllReadyH.cons rfl (fun K hK => ?_) AllReadyH.nil
  go_simp
  go_wp2_with fail
  refine (unhide HRD W fW).mono ?_
  clear HRD
  rintro e w3 ⟨g, rfl, mm⟩
  have f3 : Still W w3 := Fr.ofBelow mm.bel
  have hS3 := And.intro (f3.cell' hHeld.1 (fun x => x)) (And.intro (f3.cell' hHeld.2.1 (fun x => x)) (And.intro (f3.cell' hHeld.2.2.1 (fun x => x)) (And.intro (f3.cell' hHeld.2.2.2.1 (fun x => x)) (hHeld.2.2.2.2.fr f3 (fun _ _ x => x)))))
  have cv := conv_str w3 (some ⟨g, 0, none⟩) n n bt mm.nats
  have f03 : Still w w3 := fW.trans' f3 (fun _ x => x.elim)
  have HF03 := hide f03
  refine hK.out _ _ hS3 (fun _ => ?_)
  clear hK K mm f3 f03 fW
  refine wpAnyH_ready (rs := [4]) (by kernel_rfl) (by simp) ?_
  refine AllReadyH.cons rfl (fun K hK => ?_) AllReadyH.nil
  go_simp
  refine hK.out _ _ hS3 (fun _ => ?_)
  clear hK K cv hHeld
  refine take_l 7 (v := ?_) rfl (by kernel_rfl) (by kernel_rfl) (by kernel_rfl) (fun _ _ _ h => h) (Or.inl ⟨by rfl, ?_⟩) hS3 ?_
  rotate_left
  · (intro w hSw; (try dsimp only at hSw); go_simp; (try with_reducible rfl))
  simp only [Act.put, List.setIfInBounds_toArray, List.set_cons_zero, List.set_cons_succ]
  refine take_l 8 (v := ?_) rfl (by kernel_rfl) (by kernel_rfl) (by kernel_rfl) (fun _ _ _ h => h) (Or.inl ⟨by rfl, ?_⟩) hS3 ?_
  rotate_left
  · (intro w hSw; (try dsimp only at hSw); go_simp; (try with_reducible rfl))
  simp only [Act.put, List.setIfInBounds_toArray, List.set_cons_zero, List.set_cons_succ]
  refine take_l 9 (v := ?_) rfl (by kernel_rfl) (by kernel_rfl) (by kernel_rfl) (fun _ _ _ h => h) (Or.inl ⟨by rfl, ?_⟩) hS3 ?_
  rotate_left
  · (intro w hSw; (try dsimp only at hSw); go_simp; (try with_reducible rfl))
  simp only [Act.put, List.setIfInBounds_toArray, List.set_cons_zero, List.set_cons_succ]
  refine take_l 10 (v := ?_) rfl (by kernel_rfl) (by kernel_rfl) (by kernel_rfl) (fun _ _ _ h => h) (Or.inl ⟨by rfl, ?_⟩) hS3 ?_
  rotate_left
  · (intro w hSw; (try dsimp only at hSw); go_simp; (try with_reducible rfl))
  simp only [Act.put, List.setIfInBounds_toArray, List.set_cons_zero, List.set_cons_succ]
  refine take_l 11 (v := ?_) rfl (by kernel_rfl) (by kernel_rfl) (by kernel_rfl) (fun _ _ _ h => h) (Or.inl ⟨by rfl, ?_⟩) hS3 ?_
  rotate_left
  · (intro w hSw; (try dsimp only at hSw); go_simp; (try with_reducible rfl))
  simp only [Act.put, List.setIfInBounds_toArray, List.set_cons_zero, List.set_cons_succ]
  refine take_l 14 (v := ?_) rfl (by kernel_rfl) (by kernel_rfl) (by kernel_rfl) (fun _ _ _ h => h) (Or.inl ⟨by rfl, ?_⟩) hS3 ?_
  rotate_left
  · (intro w hSw; (try dsimp only at hSw); go_simp; (try with_reducible rfl))
  simp only [Act.put, List.setIfInBounds_toArray, List.set_cons_zero, List.set_cons_succ]
  refine take_l 15 (v := ?_) rfl (by kernel_rfl) (by kernel_rfl) (by kernel_rfl) (fun _ _ _ h => h) (Or.inl ⟨by rfl, ?_⟩) hS3 ?_
  rotate_left
  · (intro w hSw; (try dsimp only at hSw); go_simp; (try with_reducible rfl))
  simp only [Act.put, List.setIfInBounds_toArray, List.set_cons_zero, List.set_cons_succ]
  refine take_l 16 (v := ?_) rfl (by kernel_rfl) (by kernel_rfl) (by kernel_rfl) (fun _ _ _ h => h) (Or.inl ⟨by rfl, ?_⟩) hS3 ?_
  rotate_left
  · (intro w hSw; (try dsimp only at hSw); go_simp; (try with_reducible rfl))
  simp only [Act.put, List.setIfInBounds_toArray, List.set_cons_zero, List.set_cons_succ]
  refine take_l 17 (v := ?_) rfl (by kernel_rfl) (by kernel_rfl) (by kernel_rfl) (fun _ _ _ h => h) (Or.inl ⟨by rfl, ?_⟩) hS3 ?_
  rotate_left
  · (intro w hSw; (try dsimp only at hSw); go_simp; (try with_reducible rfl))
  simp only [Act.put, List.setIfInBounds_toArray, List.set_cons_zero, List.set_cons_succ]
  refine wpAnyH_ready (rs := [12]) (by kernel_rfl) (by simp) ?_
  refine AllReadyH.cons rfl (fun K hK => ?_) AllReadyH.nil
  go_simp
  go_wp2_with fail
  refine (unhide HPC w3 (unhide HF03)).mono ?_
  clear HPC
  rintro e w4 ⟨vp, rfl, ow, f4⟩
  obtain ⟨gp, capp, rfl⟩ : ∃ gp capp, vp = .slice (some ⟨gp, 0, none⟩) (us.length + 1) capp := by
    rcases row_form ow with ⟨_, e0⟩ | ⟨gp, capp, e0⟩
    · omega
    · exact ⟨gp, capp, e0⟩
  have hS4 := And.intro (f4.cell' hS3.1 (fun x => x)) (And.intro (f4.cell' hS3.2.1 (fun x => x)) (And.intro (f4.cell' hS3.2.2.1 (fun x => x)) (And.intro (f4.cell' hS3.2.2.2.1 (fun x => x)) (hS3.2.2.2.2.fr f4 (fun _ _ x => x)))))
  have f04 : Still w w4 := (unhide HF03).trans' f4 (fun _ x => x.elim)
  have HF04 := hide f04
  have B4 : Box w4 bo (.bool false) := (unhide HB).2.kept f04 (fun x => x)
  have c4 := B4.c; have z4 := B4.z
  have HB4 := hide B4
  refine hK.out _ _ hS4 (fun _ => ?_)
  clear hK K ow f4 f04 B4 hS3
  refine take_l 13 (v := ?_) rfl (by kernel_rfl) (by kernel_rfl) (by kernel_rfl) (fun _ _ _ h => h) (Or.inl ⟨by rfl, ?_⟩) hS4 ?_
  rotate_left
  · (intro w hSw; (try dsimp only at hSw); go_simp; (try with_reducible rfl))
  simp only [Act.put, List.setIfInBounds_toArray, List.set_cons_zero, List.set_cons_succ]
  refine take_l 18 (v := ?_) rfl (by kernel_rfl) (by kernel_rfl) (by kernel_rfl) (fun _ _ _ h => h) (Or.inl ⟨by rfl, ?_⟩) hS4 ?_
  rotate_left
  · (intro w hSw; (try dsimp only at hSw); go_simp; (try with_reducible rfl))
  simp only [Act.put, List.setIfInBounds_toArray, List.set_cons_zero, List.set_cons_succ]
  refine take_l 19 (v := ?_) rfl (by kernel_rfl) (by kernel_rfl) (by kernel_rfl) (fun _ _ _ h => h) (Or.inl ⟨by rfl, ?_⟩) hS4 ?_
  rotate_left
  · (intro w hSw; (try dsimp only at hSw); go_simp; (try with_reducible rfl))
  simp only [Act.put, List.setIfInBounds_toArray, List.set_cons_zero, List.set_cons_succ]
  refine wpAnyH_ready (rs := [20]) (by kernel_rfl) (by simp) ?_
  refine AllReadyH.cons rfl (fun K hK => ?_) AllReadyH.nil
  go_simp
  obtain ⟨W5, hW5⟩ : ∃ W5, w4.setCell ⟨bo, 0, none⟩ (.bool true) = W5 := ⟨_, rfl⟩
  have f5 : Fr (fun k => k = bo) w4 W5 := hW5 ▸ Fr.box w4 bo _
  have B5 : Box W5 bo (.bool true) := hW5 ▸ (unhide HB4).set _
  rw [hW5]
  have hS5 := And.intro (f5.cell' hS4.1 ne.1) (And.intro (f5.cell' hS4.2.1 ne.2.1) (And.intro (f5.cell' hS4.2.2.1 ne.2.2.1) (And.intro (f5.cell' hS4.2.2.2.1 ne2.1) (hS4.2.2.2.2.fr f5 ne2.2))))
  refine hK.out _ _ hS5 (fun _ => ?_)
  have f05 : Fr (fun k => k = bo) w W5 := ((unhide HF04).mono (G := fun k => k = bo) (fun _ hk => hk.elim)).trans f5
  have DR5 := hide (unhide HDR W5 f05)
  have HF5 := hide (And.intro f05 B5)
  have c5 := B5.c; have z5 := B5.z
  obtain ⟨k1, k2, k3, k4, k5⟩ := hS5
  clear hK K hS4 c4 z4 HB4 hW5 f5 B5 HDR f05
  refine wpAnyH_done (by kernel_rfl) ?_ _
  go_wp2_with fail
  refine (unhide DR5).mono ?_
  clear DR5
  rintro e w6 ⟨rfl, g', t6, dr⟩
  obtain ⟨f05, B5⟩ := unhide HF5
  obtain ⟨h, B0⟩ := unhide HB
  obtain ⟨T6, P6, o6, e6, _⟩ := id t6
  have B6 : Box w6 bo (.bool true) := B5.kept o6.fr nbo
  have c6 := B6.c; have z6 := B6.z
  have HX := hide (And.intro o6 (And.intro e6 (And.intro dr (And.intro B6 (And.intro f05 h)))))
  clear t6 dr o6 e6 B6 f05 B5 h B0 c5 z5
  go_wp2
  go_end0
  obtain ⟨o6, e6, dr, B6, f05, h⟩ := unhide HX
  subst e6
  refine ⟨rfl, T6, P6, ?_, B6.set _, dr⟩
  have o5 : OnxX (fun k => k = bo) w sb b T W5 T sz A P false := (OnxX.of (Onx.start h.st)).var f05 (fun k hk => hk) (fun k hk => by have hk : k = bo := hk; subst hk; exact nbo)
  exact (o5.trans o6).var (Fr.box w6 bo _) (fun k hk => hk) (fun k hk => by have hk : k = bo := hk; subst hk; exact o6.other (Nat.lt_of_lt_of_le lt f05.size) nbo)
end
end
end Go.Proofs.YtflnaiijdpihcaaGreatDoor
