/- HeapPlays. -/
import Derived.Test.YtgehfmonfofbiaaGreatDoorPmC
import Derived.Deep.CutRange
import Derived.Deep.CutBlock
import Derived.Deep.LoopGhost
namespace Go.Proofs.YtgehfmonfofbiaaGreatDoor
open Go.RowKit

set_option maxRecDepth 20000 in
set_option maxHeartbeats 8000000 in
theorem plays_ok (a : Option Addr) (len cap : Nat) (w : World) (z : Nat → Op7) (ops : Ops8 w a len z) (_hlen : len ≤ maxLen) (tab : TabL w) :
    Calls Tryz.prog 6 #[.slice a len cap] w fun e w' => e = .returned (.bool true) ∧ Below w.heap.size w w' := by
  have K := l8_open w tab
  have h1 := eq_nil_heap
  have h2 := mf
  have al := alloc_arr
  have HN := hide ops
  have HK := hide K; have HT := hide tab
  clear K ops tab
  go_enter Tryz.func6, Tryz.ntmps6
  go_wp2_with fail
  refine (unhide HK).mono ?_
  clear HK
  rintro e w1 ⟨b, sb, hb, T, A, base, rfl, hc, nw⟩
  obtain ⟨W1, hW1⟩ : ∃ W1, w1.alloc (.cells #[ptr sb] 24) = W1 := ⟨_, rfl⟩
  have z1 : W1.heap.size = w1.heap.size + 1 := by rw [← hW1]; simp
  obtain ⟨W2, hW2⟩ : ∃ W2, W1.alloc (.cells #[ptr hb] 25) = W2 := ⟨_, rfl⟩
  have z2 : W2.heap.size = w1.heap.size + 2 := by rw [← hW2]; simp; omega
  have hc1 := hc.more (.cells #[ptr sb] 24)
  rw [hW1] at hc1
  have hc2 := hc1.more (.cells #[ptr hb] 25)
  rw [hW2, z1] at hc2
  have f12 : Still W1 W2 := hW2 ▸ (Fr.refl _ W1).alloc _
  have bs1 : Box W1 w1.heap.size (ptr sb) := hW1 ▸ Box.new w1 (ptr sb) 24
  have bh2 : Box W2 (w1.heap.size + 1) (ptr hb) := by
    have := Box.new W1 (ptr hb) 25
    rw [hW2, z1] at this; exact this
  have bs2 := bs1.kept f12 (fun x => x)
  have lhb : hb < w1.heap.size := (hc.hd.xl hb hc.xh).2
  have AW := l8_awake W2 (fun j hj => hc2.hd.fr.cell' (unhide HT j hj) (fun x => x))
  have HX := hide (And.intro hc2 (And.intro bs2 (And.intro bh2 nw))); have HAW := hide AW; have HWW := hide (And.intro hW1 hW2)
  have cbs := bs2.c; have cbh := bh2.c
  clear hc hc1 hc2 f12 bs1 bs2 bh2 AW hW1 hW2 nw
  go_wp2_with fail
  rw [(unhide HWW).1, (unhide HWW).2]
  refine (unhide HAW).mono ?_
  clear HAW HWW
  rintro e w3 ⟨rfl, f3⟩
  obtain ⟨hc2, bs2, bh2, nw⟩ := unhide HX
  have hc3 := hc2.still f3
  have bs3 := bs2.kept f3 (fun x => x)
  have bh3 := bh2.kept f3 (fun x => x)
  have z3 : w1.heap.size + 2 ≤ w3.heap.size := by have := f3.size; omega
  have AL : Calls Tryz.prog 18 #[ptr hb] w3 fun e w' => e = .returned (.int .i64 3824) ∧ w' = w3 := h_all hb 478 (by omega) w3 hc3.hp.c1
  obtain ⟨W4, hW4⟩ : ∃ W4, w3.alloc (.cells #[.slice none 0 0] 49) = W4 := ⟨_, rfl⟩
  have z4 : W4.heap.size = w3.heap.size + 1 := by rw [← hW4]; simp
  obtain ⟨W5, hW5⟩ : ∃ W5, W4.alloc (.cells (arr 16 fun _ => 0) 39) = W5 := ⟨_, rfl⟩
  have z5 : W5.heap.size = w3.heap.size + 2 := by rw [← hW5]; simp; omega
  obtain ⟨W6, hW6⟩ : ∃ W6, W5.alloc (.cells #[.int .i64 0] 3) = W6 := ⟨_, rfl⟩
  have hc4 := hc3.more (.cells #[.slice none 0 0] 49)
  rw [hW4] at hc4
  have hc5 := hc4.more (.cells (arr 16 fun _ => 0) 39)
  rw [hW5, z4] at hc5
  have hc6 := hc5.more (.cells #[.int .i64 0] 3)
  rw [hW6, z5] at hc6
  have f34 : Still w3 W4 := hW4 ▸ (Fr.refl _ w3).alloc _
  have f45 : Still W4 W5 := hW5 ▸ (Fr.refl _ W4).alloc _
  have f56 : Still W5 W6 := hW6 ▸ (Fr.refl _ W5).alloc _
  have f46 : Still W4 W6 := f45.trans' f56 (fun _ x => x.elim)
  have f36 : Still w3 W6 := f34.trans' f46 (fun _ x => x.elim)
  have bl6 : Box W6 w3.heap.size (.slice none 0 0) := (hW4 ▸ Box.new w3 (.slice none 0 0) 49 : Box W4 w3.heap.size (.slice none 0 0)).kept f46 (fun x => x)
  have rr6 : ArrAt W6 (w3.heap.size + 1) (fun _ => 0) := by
    have := ArrAt.new W4 (fun _ => 0)
    rw [hW5, z4] at this
    exact this.kept f56 (fun x => x)
  have bi6 : Box W6 (w3.heap.size + 2) (.int .i64 0) := by
    have := Box.new W5 (.int .i64 0) 3
    rw [hW6, z5] at this; exact this
  have st0 : PlH w W6 b w1.heap.size (w1.heap.size + 1) w3.heap.size (w3.heap.size + 1) (w3.heap.size + 2) hb sb T A 43021 base [] (fun _ => 0) (.slice none 0 0) := by
    refine ⟨hc6.sub (fun k hk => ?_) (.inl rfl), nw.st, by rw [nw.ak]; exact lists_nil, fun j hj => nw.root (2 + j) (by omega) (by omega), bs3.kept f36 (fun x => x), bh3.kept f36 (fun x => x), bl6, rr6, World.ownsRow_nil _ _ _ _, ⟨by omega, by omega, by omega, by omega⟩, ⟨by omega, by omega, by omega, by omega, by omega, by simp [Value.ownBlock]⟩, fun k hk => absurd hk own_nilS⟩
    rcases hk with hk | hk | hk | hk | hk | hk | hk
    · exact .inl (.inl (.inl (.inl (.inl hk))))
    · exact .inl (.inl (.inl (.inl (.inr hk))))
    · exact .inl (.inl (.inl (.inr hk)))
    · exact .inl (.inl (.inr hk))
    · exact .inl (.inr hk)
    · exact .inr hk
    · exact absurd hk own_nilS
  rw [arr_zero] at hW5
  have HST := hide (And.intro st0 bi6); have HAL := hide AL; have HWW := hide (And.intro hW4 (And.intro hW5 hW6))
  have cbh3 := bh3.c
  clear hc2 hc3 hc4 hc5 hc6 bs2 bh2 bs3 bh3 nw AL hW4 hW5 hW6 f34 f45 f56 f46 f36 bl6 rr6 bi6 st0 f3 HX cbs cbh
  go_wp2_with fail
  refine (unhide HAL).mono ?_
  clear HAL
  rintro e w' ⟨rfl, hh⟩
  replace hh := hh.symm
  subst hh
  go_wp2_with fail
  rw [(unhide HWW).1, (unhide HWW).2.1, (unhide HWW).2.2]
  clear HWW z1 z2 z3 z4 z5 cbh3
  generalize w3.heap.size = n3 at *
  generalize w1.heap.size = n1 at *
  go_loopg [9] 40 (fun k v9 wr => ∃ (m bi : Nat) (ls : List (Nat × Nat)) (rts : Nat → Int) (vl : Value) (hb sb : Nat) (T : Tay) (A : Ab) (s : Int) (base : Nat → Int), k + m = 40 ∧ m ≤ len ∧ v9 = ptr bi ∧ s ≤ 50000 + 120000 * m ∧ Box wr bi (.int .i64 m) ∧ ls.length ≤ m ∧ PlH w wr b n1 (n1 + 1) n3 (n3 + 1) bi hb sb T A s base ls rts vl)
  case atStart =>
    obtain ⟨st0, bi6⟩ := unhide HST
    exact ⟨0, n3 + 2, [], _, _, hb, sb, T, A, 43021, base, rfl, Nat.zero_le _, rfl, by omega, bi6, Nat.zero_le _, st0⟩
  case round =>
    clear HST lhb
    obtain ⟨m, bi, ls, rts, vl, hb, sb, T, A, s, base, hk, hm, rfl, hs, bib, hlm, S⟩ := hrel
    by_cases hlt : m < len ∧ m < 40
    · obtain ⟨hl1, hl2⟩ := hlt
      obtain ⟨xb, xo, ea, q0, q1, q2⟩ := (unhide HN).1 m hl1
      have hvr := (unhide HN).2 m hl1
      have qf := S.hc.hd.fr
      have p0 := qf.cell' q0 (fun x => x)
      have p1 := qf.cell' q1 (fun x => x)
      have p2 := qf.cell' q2 (fun x => x)
      have hi1 : ((m : Int) < 40) = True := by simp; omega
      obtain ⟨ad, cp, ev, hnil⟩ : ∃ ad cp, vl = .slice ad ls.length cp ∧ (ad = none → ls = [] ∧ cp = 0) := by
        rcases S.rl.2 with ⟨ev, e0⟩ | ⟨gg, cp, cur, ev, _⟩
        · exact ⟨none, 0, by rw [ev, e0], fun _ => ⟨List.eq_nil_of_length_eq_zero e0, rfl⟩⟩
        · exact ⟨_, cp, ev, fun e => by cases e⟩
      subst ev
      obtain ⟨A1, hA1⟩ : ∃ A1, wr.alloc (.cells #[.int .i64 (z m).kd, .int .i64 (z m).i, (.int .u64 (z m).v)] 51) = A1 := ⟨_, rfl⟩
      have y1 : A1.heap.size = wr.heap.size + 1 := by rw [← hA1]; simp
      obtain ⟨A2, hA2⟩ : ∃ A2, A1.alloc (.cells #[] 53) = A2 := ⟨_, rfl⟩
      have y2 : A2.heap.size = wr.heap.size + 2 := by rw [← hA2]; simp; omega
      have g1 : Still wr A1 := hA1 ▸ (Fr.refl _ wr).alloc _
      have g2 : Still A1 A2 := hA2 ▸ (Fr.refl _ A1).alloc _
      have g02 : Still wr A2 := g1.trans' g2 (fun _ x => x.elim)
      have pcA : PcsAt A2 ad ls := (pcs_of_row S.rl).kept g02
      have own2 : A2.ownsRow w.heap.size 53 2 (.slice (some ⟨wr.heap.size + 1, 0, none⟩) 0 0) ([] : List (Nat × Nat)).length (pcells []) := by
        refine ⟨rfl, .inr ⟨wr.heap.size + 1, 0, #[], rfl, by have := S.hc.hd.fr.size; omega, ?_, Nat.le_refl _, by unfold maxLen; omega, rfl, rfl⟩⟩
        rw [← hA2, ← y1]; exact heap_alloc_new A1 _
      obtain ⟨v11, w4, hap, M4⟩ := run_pcs A2 w.heap.size 49 _ [] ls own2 ad cp hnil pcA (by simp; omega) (by have := S.hc.hd.fr.size; omega)
      have cbl := (S.cl.kept g02 (fun x => x)).c
      have cbi := bib.c
      rw [List.length_nil] at *
      have fr4 : Still wr w4 := by
        have : Fr (fun k => (Value.slice (some ⟨wr.heap.size + 1, 0, none⟩) 0 0).ownBlock = some k) A2 w4 := (Fr.refl _ A2).grown M4.gr (fun r e => .inl e)
        exact g02.trans' this (fun k hk => .inr (by simp [Value.ownBlock] at hk; omega))
      have y4 : wr.heap.size + 2 ≤ w4.heap.size := by have := M4.gr.size; omega
      have own4 : ∀ k, v11.ownBlock = some k → wr.heap.size < k ∧ k < w4.heap.size := fun k hk => by
        refine ⟨?_, (M4.own.lt k hk).2⟩
        rcases M4.loc with e | e
        · rw [hk] at e; simp [Value.ownBlock] at e; omega
        · rw [hk] at e; have := Option.some.inj e; omega
      obtain ⟨A4, hA4⟩ : ∃ A4, w4.alloc (.cells (arr 16 fun _ => 0) 39) = A4 := ⟨_, rfl⟩
      have r4 : A4.heap[w4.heap.size]? = some (.cells (arr 16 fun _ => 0) 39 (0, 0)) := by rw [← hA4]; exact heap_alloc_new w4 _
      obtain ⟨A5, hA5⟩ : ∃ A5, A4.setRow w4.heap.size (arr 16 rts) = A5 := ⟨_, rfl⟩
      obtain ⟨A6, hA6⟩ : ∃ A6, A5.alloc (.cells #[.int .i64 0] 3) = A6 := ⟨_, rfl⟩
      have f44 : Still w4 A4 := hA4 ▸ (Fr.refl _ w4).alloc _
      have f45 : Fr (fun r => r = w4.heap.size) A4 A5 := hA5 ▸ Fr.setRow _ _ _
      have y5 : A5.heap.size = w4.heap.size + 1 := by rw [← hA5]; simp [World.setRow, ← hA4]
      have f56 : Still A5 A6 := hA6 ▸ (Fr.refl _ A5).alloc _
      have f46 : Still w4 A6 := (f44.trans' f45 (fun r hr => .inr (by omega))).trans' f56 (fun _ x => x.elim)
      have f06 : Still wr A6 := fr4.trans' f46 (fun _ x => x.elim)
      have y6 : w4.heap.size + 2 ≤ A6.heap.size := by rw [← hA6]; simp; omega
      have wa6 : ArrAt A6 w4.heap.size rts := by
        have := setRow_heap A4 w4.heap.size (arr 16 fun _ => 0) (arr 16 rts) 39 (0, 0) r4
        rw [hA5] at this
        exact ArrAt.kept (show ArrAt A5 w4.heap.size rts from this) f56 (fun x => x)
      have ca6 : Box A6 (w4.heap.size + 1) (.int .i64 0) := by
        have := Box.new A5 (.int .i64 0) 3
        rw [hA6, y5] at this; exact this
      have oc6 : A6.heap[wr.heap.size]? = some (.cells #[.int .i64 (z m).kd, .int .i64 (z m).i, .int .u64 (z m).v] 51) := by
        have h1 : A1.heap[wr.heap.size]? = some (.cells #[.int .i64 (z m).kd, .int .i64 (z m).i, .int .u64 (z m).v] 51) := by rw [← hA1]; exact heap_alloc_new wr _
        have h2 := g2.obj h1 (fun x => x)
        have h4 : w4.heap[wr.heap.size]? = _ := (M4.gr.block wr.heap.size (by omega) (by simp [Value.ownBlock])).trans h2
        exact f46.obj h4 (fun x => x)
      have hlo := S.hc.hd.fr.size
      have SI : PlI w A6 b n1 (n1 + 1) n3 (n3 + 1) bi hb sb T A s base ls rts (.slice ad ls.length cp) wr.heap.size w4.heap.size (w4.heap.size + 1) v11 rts ls (z m).kd (z m).i (z m).v m 0 := by
        have lbi := bib.lt
        have lhb := (S.hc.hd.xl hb S.hc.xh).2
        have xlb := (S.hc.hd.xl n1 (.inr (.inl rfl))).1
        refine ⟨S.hc.grow (F := fun _ => False) f06 (fun k hk => hk.elim) (fun x => x) (fun k hk => ?_) (.inl (.inl rfl)), S.st, S.cs.kept f06 (fun x => x), S.ch.kept f06 (fun x => x), S.cl.kept f06 (fun x => x), S.rr.kept f06 (fun x => x), row_still S.rl f06, bib.kept f06 (fun x => x), oc6, wa6, ca6, row_still (by simpa using M4.own) f46, ⟨S.d1.1, S.d1.2.1, S.d1.2.2.1, S.d1.2.2.2, lbi, by omega, by omega, xlb⟩, ⟨S.d2.1, S.d2.2.1, S.d2.2.2.1, S.d2.2.2.2.1, S.d2.2.2.2.2.1, S.d2.2.2.2.2.2, by omega, by omega, by omega⟩, fun k hk => ⟨(S.d3 k hk).1, (S.d3 k hk).2, (S.rl.lt k hk).2⟩, fun k hk => by have := own4 k hk; omega⟩
        rcases hk with hk | hk | hk | hk | hk
        · exact .inl hk
        · exact .inr (by omega)
        · exact .inr (by omega)
        · exact .inr (by omega)
        · have := own4 k hk; exact .inr (by omega)
      have DO := pl_do SI.hc SI.st ls S.li (pcs_of_row SI.rl) (.inr (.inr (.inr (.inl rfl)))) SI.w0 (by omega) hvr (by omega)
      have r1 : w4.heap[n3 + 1]? = some (.cells (arr 16 rts) 39 (0, 0)) := S.rr.kept fr4 (fun x => x)
      have HSI := hide (And.intro SI (And.intro S.li S.rt)); have HDO := hide DO; have HAA := hide (And.intro hA4 (And.intro hA5 hA6))
      have cbs4 : (A5.alloc (.cells #[.int .i64 0] 3)).cell? ⟨n1, 0, none⟩ = some (ptr sb) := by rw [hA6]; exact (S.cs.kept f06 (fun x => x)).c
      have hsm := S.hc.hd.fr
      rw [arr_zero] at hA4 r4
      clear S bib qf q0 q1 q2 M4 own2 pcA g02 g2 g1 fr4 own4 f44 f45 f56 f46 f06 wa6 ca6 oc6 SI DO y2 y6 hA6
      have HAP := hide hap
      clear hap
      subst ea
      go_wp2_with (first | (at_builtin; refine wpList_append_run rfl (.tmp 49) (.tmp 50) 49 rfl _ _ rfl rfl v11 w4 (unhide HAP) ?_) | (refine wpList_load_row rfl 39 _ rfl (n3 + 1) rfl 39 (arr 16 rts) (0, 0) _ r1 Tryz.underlying39 rfl (info_arr _) ?_) | (refine wpList_store_row rfl 39 _ _ rfl w4.heap.size (arr 16 rts) rfl rfl 39 _ r4 (info_arr _) (by rw [arr_size]; rfl) (arr_one _ _) ?_; rw [hA5]) | fail)
      rw [(unhide HAA).2.2]
      refine (unhide HDO).mono ?_
      clear HDO HAP hA1 hA2 hA4 hA5 r4 r1 cbs4 cbl cbi p0 p1 p2 HAA
      rintro e w5 ⟨fr5, c, at_, T5, A5', base5, rfl, ca5, hc5, st5, out⟩
      obtain ⟨SI, li, rt⟩ := unhide HSI
      have S5 := SI.did fr5 hc5 st5 ca5
      have oc := S5.oc
      have co0 := cell_of_obj oc 0
      have co1 := cell_of_obj oc 1
      have co2 := cell_of_obj oc 2
      have HS5 := hide (And.intro S5 (And.intro li (And.intro rt out)))
      clear SI li rt S5 oc fr5 ca5 hc5 st5 out HSI
      go_upto_block 2 with fail
      go_cut [11, 14, 16, 17, 18, 19, 20] from 35 to 201 (fun s11 s14 s16 s17 s18 s19 s20 wc => s14 = .int .i64 c ∧ ∃ (hb' sb' : Nat) (T' : Tay) (A' : Ab) (s' : Int) (base' : Nat → Int) (ts' : Nat → Int) (nw' : List (Nat × Nat)) (at' : Int), s' ≤ s + 110000 ∧ nw'.length ≤ m + 1 ∧ PlI w wc b n1 (n1 + 1) n3 (n3 + 1) bi hb' sb' T' A' s' base' ls rts (.slice ad ls.length cp) wr.heap.size w4.heap.size (w4.heap.size + 1) s11 ts' nw' (z m).kd (z m).i (z m).v m at' ∧ Lists (ask (rb base')) (if c = 0 then nw' else ls) ∧ ∀ j, j < 16 → rb base' (2 + j) = if c = 0 then ts' j else rts j)
      case first =>
        generalize (z m).kd = kd at *
        generalize (z m).i = x at *
        generalize (z m).v = v at *
        obtain ⟨S5, li, rt, out⟩ := unhide HS5
        have hs5 : s + 30729 ≤ s + 110000 := by omega
        have err : ¬ c = 0 → base5 = base → PlI w w5 b n1 (n1 + 1) n3 (n3 + 1) bi hb sb T5 A5' (s + 30729) base5 ls rts (.slice ad ls.length cp) wr.heap.size w4.heap.size (w4.heap.size + 1) v11 rts ls kd x v m at_ → ∃ (hb' sb' : Nat) (T' : Tay) (A' : Ab) (s' : Int) (base' : Nat → Int) (ts' : Nat → Int) (nw' : List (Nat × Nat)) (at' : Int), s' ≤ s + 110000 ∧ nw'.length ≤ m + 1 ∧ PlI w w5 b n1 (n1 + 1) n3 (n3 + 1) bi hb' sb' T' A' s' base' ls rts (.slice ad ls.length cp) wr.heap.size w4.heap.size (w4.heap.size + 1) v11 ts' nw' kd x v m at' ∧ Lists (ask (rb base')) (if c = 0 then nw' else ls) ∧ ∀ j, j < 16 → rb base' (2 + j) = if c = 0 then ts' j else rts j := by
          intro h0 e S5
          subst e
          exact ⟨hb, sb, T5, A5', s + 30729, base5, rts, ls, at_, hs5, by omega, S5, by rw [if_neg h0]; exact li, fun j hj => by rw [if_neg h0]; exact rt j hj⟩
        by_cases h4 : kd = 4
        · subst h4
          as_aux_lemma =>
            rcases out with ⟨hc0, ⟨e, _⟩ | ⟨e, _⟩ | ⟨e, _⟩ | ⟨e, _⟩ | ⟨e, _⟩ | ⟨_, _, _, _, e, _⟩⟩ | ⟨eb, hc0, ⟨e, _⟩ | ⟨e, _⟩ | ⟨e, _⟩ | ⟨e, _⟩ | ⟨_, hc⟩⟩
            all_goals first | (exfalso; omega) | skip
            have HR := hide (err hc0 eb S5)
            clear err S5 li rt
            rcases hc with rfl | rfl
            · go_wp2
              go_meet
              case rel => exact ⟨rfl, unhide HR⟩
            · go_wp2
              go_meet
              case rel => exact ⟨rfl, unhide HR⟩
        · by_cases h0 : kd = 0
          · subst h0
            as_aux_lemma =>
              rcases out with ⟨hc0, ⟨_, u, zz, rfl, hz1, hz2, hat, hu, lst, rts5⟩ | ⟨e, _⟩ | ⟨e, _⟩ | ⟨e, _⟩ | ⟨e, _⟩ | ⟨e, _⟩⟩ | ⟨eb, hc0, ⟨_, rfl, hx⟩ | ⟨_, rfl, hx1, hx2, hne⟩ | ⟨e, _⟩ | ⟨e, _⟩ | ⟨e, _⟩⟩
              all_goals first | (exfalso; omega) | skip
              · subst hc0
                subst hat
                have pcN : PcsAt (w5.alloc (.cells #[.int .i64 (160 + (u : Int) * 8), .int .i64 (zz : Nat)] 53)) (some ⟨w5.heap.size, 0, none⟩) [(u, zz)] := by
                  intro k y hy
                  have hk : k = 0 := by have := (List.getElem?_eq_some_iff.1 hy).1; simp at this; exact this
                  subst hk
                  simp at hy
                  subst hy
                  exact ⟨_, _, rfl, cell_of_obj (heap_alloc_new w5 _) 0, cell_of_obj (heap_alloc_new w5 _) 1⟩
                obtain ⟨v6, w6, hap, M6⟩ := run_pcs (w5.alloc (.cells #[.int .i64 (160 + (u : Int) * 8), .int .i64 (zz : Nat)] 53)) w.heap.size 49 v11 ls [(u, zz)] (S5.nr.alloc _) _ 1 (fun e => by cases e) pcN (by simp; omega) (by have := S5.hc.hd.fr.size; simp; omega)
                have f6 : Fr (fun k => v11.ownBlock = some k) w5 w6 := ((Fr.refl (fun k => v11.ownBlock = some k) w5).alloc _).grown M6.gr (fun r e => .inl e)
                have S6 := S5.now f6 (fun k hk => hk) M6.own (fun k hk => by
                  rcases M6.loc with e | e
                  · left; rw [← e]; exact hk
                  · right; rw [hk] at e; have := Option.some.inj e; simp at this; omega)
                have HR := hide (show ∃ (hb' sb' : Nat) (T' : Tay) (A' : Ab) (s' : Int) (base' : Nat → Int) (ts' : Nat → Int) (nw' : List (Nat × Nat)) (at' : Int), s' ≤ s + 110000 ∧ nw'.length ≤ m + 1 ∧ PlI w w6 b n1 (n1 + 1) n3 (n3 + 1) bi hb' sb' T' A' s' base' ls rts (.slice ad ls.length cp) wr.heap.size w4.heap.size (w4.heap.size + 1) v6 ts' nw' 0 zz v m at' ∧ Lists (ask (rb base')) (if (0 : Int) = 0 then nw' else ls) ∧ ∀ j, j < 16 → rb base' (2 + j) = if (0 : Int) = 0 then ts' j else rts j from
                  ⟨hb, sb, T5, A5', s + 30729, base5, rts, ls ++ [(u, zz)], _, hs5, by simp; omega, S6, by rw [if_pos rfl]; exact lst, fun j hj => by rw [if_pos rfl, rts5 (2 + j) (by omega) (by omega)]; exact rt j hj⟩)
                have ca5 := S5.ca.c
                have hz1' : ¬ (zz : Int) < 1 := by omega
                have hz2' : ¬ (512 : Int) < zz := by omega
                have HAP := hide hap
                clear err S5 li rt lst rts5 S6 f6 M6 pcN hap
                go_wp2_with (first | (at_builtin; refine wpList_append_run rfl (.tmp 76) (.tmp 81) 49 rfl _ _ rfl rfl v6 w6 (unhide HAP) ?_) | fail)
                go_meet
                case rel => exact ⟨rfl, unhide HR⟩
              · have HR := hide (err hc0 eb S5)
                clear err S5 li rt
                rcases (show x < 1 ∨ (¬ x < 1 ∧ 512 < x) by omega) with hx | ⟨hx, hx'⟩
                · go_wp2
                  go_meet
                  case rel => exact ⟨rfl, unhide HR⟩
                · go_wp2
                  go_meet
                  case rel => exact ⟨rfl, unhide HR⟩
              · have cl5 := S5.cl.c
                have hlen0 : (0 : Int) < (ls.length : Nat) := by have := List.length_pos_iff.2 hne; omega
                have HR := hide (err hc0 eb S5)
                have hx1' : ¬ x < 1 := by omega
                have hx2' : ¬ 512 < x := by omega
                clear err S5 li rt hne
                generalize ls.length = nl at *
                go_wp2
                go_meet
                case rel => exact ⟨rfl, unhide HR⟩
          · by_cases h1' : kd = 1
            · subst h1'
              as_aux_lemma =>
                rcases out with ⟨hc0, ⟨e, _⟩ | ⟨_, hne, lst, rts5⟩ | ⟨_, hne, lst, rts5⟩ | ⟨e, _⟩ | ⟨e, _⟩ | ⟨_, e, _⟩⟩ | ⟨eb, hc0, ⟨e, _⟩ | ⟨e, _⟩ | ⟨e, _⟩ | ⟨e, _⟩ | ⟨e, _⟩⟩
                all_goals first | (exfalso; omega) | skip
                · subst hc0
                  subst hne
                  have cl5 := S5.cl.c
                  have HR := hide (show ∃ (hb' sb' : Nat) (T' : Tay) (A' : Ab) (s' : Int) (base' : Nat → Int) (ts' : Nat → Int) (nw' : List (Nat × Nat)) (at' : Int), s' ≤ s + 110000 ∧ nw'.length ≤ m + 1 ∧ PlI w w5 b n1 (n1 + 1) n3 (n3 + 1) bi hb' sb' T' A' s' base' [] rts (.slice ad ([] : List (Nat × Nat)).length cp) wr.heap.size w4.heap.size (w4.heap.size + 1) v11 ts' nw' 1 x v m at' ∧ Lists (ask (rb base')) (if (0 : Int) = 0 then nw' else []) ∧ ∀ j, j < 16 → rb base' (2 + j) = if (0 : Int) = 0 then ts' j else rts j from
                    ⟨hb, sb, T5, A5', s + 30729, base5, rts, [], at_, hs5, by simp, S5, by rw [if_pos rfl]; exact lst, fun j hj => by rw [if_pos rfl, rts5 (2 + j) (by omega) (by omega)]; exact rt j hj⟩)
                  rw [List.length_nil] at cl5
                  clear err S5 li rt lst rts5
                  go_wp2
                  go_meet
                  case rel => exact ⟨rfl, unhide HR⟩
                · subst hc0
                  have hlen : 0 < ls.length := List.length_pos_iff.2 hne
                  have hkl : msk x 65535 % ls.length < ls.length := Nat.mod_lt _ hlen
                  have hcp : ls.length ≤ cp := by
                    rcases S5.rl.2 with ⟨_, e0⟩ | ⟨gg, cp', cur, ev, _, _, h3, _⟩
                    · omega
                    · injection ev with _ _ ev; omega
                  have hnil5 : ad = none → ls = [] ∧ cp = 0 := hnil
                  obtain ⟨v6, w6, v7, w7, h98, h103, f6, f7, own7, l7⟩ := run_but w5.drew w.heap.size w5.heap.size ls ad cp (msk x 65535 % ls.length) hnil5 ((pcs_of_row S5.rl).kept ((Fr.refl (fun _ => False) w5).drewN 1)) hkl hcp (by omega) (by have := S5.hc.hd.fr.size; show w.heap.size ≤ w5.heap.size; exact this) rfl
                  have f57 : Still w5 w7 := ((Fr.refl (fun _ => False) w5).drewN 1).trans' f7 (fun _ x => x.elim)
                  have S7 := S5.now (F := fun _ => False) f57 (fun k hk => hk.elim) own7 (fun k hk => .inr (l7 k hk))
                  have HR := hide (show ∃ (hb' sb' : Nat) (T' : Tay) (A' : Ab) (s' : Int) (base' : Nat → Int) (ts' : Nat → Int) (nw' : List (Nat × Nat)) (at' : Int), s' ≤ s + 110000 ∧ nw'.length ≤ m + 1 ∧ PlI w w7 b n1 (n1 + 1) n3 (n3 + 1) bi hb' sb' T' A' s' base' ls rts (.slice ad ls.length cp) wr.heap.size w4.heap.size (w4.heap.size + 1) v7 ts' nw' 1 x v m at' ∧ Lists (ask (rb base')) (if (0 : Int) = 0 then nw' else ls) ∧ ∀ j, j < 16 → rb base' (2 + j) = if (0 : Int) = 0 then ts' j else rts j from
                    ⟨hb, sb, T5, A5', s + 30729, base5, rts, _, at_, hs5, by have := List.length_eraseIdx_le ls (msk x 65535 % ls.length); omega, S7, by rw [if_pos rfl]; exact lst, fun j hj => by rw [if_pos rfl, rts5 (2 + j) (by omega) (by omega)]; exact rt j hj⟩)
                  have cl5 := S5.cl.c
                  have cl5a : (w5.alloc (.cells #[] 53)).cell? ⟨n3, 0, none⟩ = some (.slice ad ls.length cp) := (S5.cl.kept ((Fr.refl (fun _ => False) w5).alloc _) (fun x => x)).c
                  have cl6 : w6.cell? ⟨n3, 0, none⟩ = some (.slice ad ls.length cp) := (S5.cl.kept (((Fr.refl (fun _ => False) w5).drewN 1).trans' f6 (fun _ x => x.elim)) (fun x => x)).c
                  have em : bits .and .i64 x 65535 = (msk x 65535 : Int) := mask_i64 x 65535 (by omega)
                  have lm := msk_le x 65535
                  have hkk : ((msk x 65535 : Nat) : Int) % (ls.length : Nat) = ((msk x 65535 % ls.length : Nat) : Int) := by omega
                  have hl0 : (0 : Int) < (ls.length : Nat) := by omega
                  have hl0' : ¬ ((ls.length : Nat) : Int) = 0 := by omega
                  have s1 := fun w => slice_toP ad ls.length cp (msk x 65535 % ls.length) w (by omega)
                  have s2 : ∀ w, (Instr.slice 49 (.slice ad ls.length cp) (some (.int .i64 (((msk x 65535 % ls.length : Nat) : Int) + 1))) none none).run Tryz.prog w = .ok (.slice (cutP ad cp (msk x 65535 % ls.length + 1)) (ls.length - (msk x 65535 % ls.length + 1)) (cp - (msk x 65535 % ls.length + 1))) w := fun w => slice_fromP ad ls.length cp (msk x 65535 % ls.length + 1) w (by omega)
                  have hk4 : msk x 65535 % ls.length ≤ 1000 := by omega
                  have hw1 : IntKind.i64.wrap (((msk x 65535 % ls.length : Nat) : Int) + 1) = ((msk x 65535 % ls.length : Nat) : Int) + 1 := (wrap_small _ (by omega) (by omega)).1
                  have H98 := hide h98; have H103 := hide h103
                  clear err S5 li rt lst rts5 S7 h98 h103 f6 f7 own7 l7 f57 hne
                  generalize hkq : msk x 65535 % ls.length = kq at *
                  clear hkq
                  generalize msk x 65535 = mq at *
                  generalize ls.length - (kq + 1) = rq at *
                  generalize hnl : ls.length = nl at *
                  have HNL := hide hnl
                  clear hnl
                  generalize cutP ad cp (kq + 1) = aq at *
                  generalize cp - (kq + 1) = cq at *
                  go_upto_region 26 with fail
                  go_region_law (first | (refine step_append_run rfl (.tmp 94) (.tmp 97) 49 rfl _ _ rfl rfl v6 w6 (unhide H98) ?_) | (refine step_append_run rfl (.tmp 98) (.tmp 102) 49 rfl _ _ rfl rfl v7 w7 (unhide H103) ?_))
                  all_goals
                    as_aux_lemma =>
                      go_wp2
                      go_meet
                      case rel => exact ⟨rfl, unhide HR⟩
            · by_cases h2' : kd = 2
              · subst h2'
                as_aux_lemma =>
                  have KK : ∃ K : Nat, K ≤ ls.length ∧ (∀ (j : Nat) (y : Nat × Nat), ls[j]? = some y → (160 + (y.1 : Int) * 8 = x ↔ j = K)) ∧ c = (if K < ls.length then 0 else 1) ∧ (K < ls.length → Lists (ask (rb base5)) (ls.eraseIdx K) ∧ ∀ j, 2 ≤ j → j < 18 → rb base5 j = rb base j) ∧ (¬ K < ls.length → base5 = base) := by
                    rcases out with ⟨hc0, ⟨e, _⟩ | ⟨e, _⟩ | ⟨e, _⟩ | ⟨_, k, y, hy, hx, lst, rts5⟩ | ⟨e, _⟩ | ⟨_, _, e, _⟩⟩ | ⟨eb, hc0, ⟨e, _⟩ | ⟨e, _⟩ | ⟨_, hc1, hx⟩ | ⟨e, _⟩ | ⟨e, _⟩⟩
                    all_goals first | (exfalso; omega) | skip
                    · have hkl := (List.getElem?_eq_some_iff.1 hy).1
                      refine ⟨k, by omega, fun j y' hy' => ⟨fun e => ?_, fun e => ?_⟩, by rw [if_pos hkl]; exact hc0, fun _ => ⟨lst, rts5⟩, fun h => absurd hkl h⟩
                      · have e1 : y'.1 = y.1 := by omega
                        have hjl := (List.getElem?_eq_some_iff.1 hy').1
                        exact (List.getElem?_inj (by rw [List.length_map]; exact hjl) li.nodup).1 (by rw [List.getElem?_map, List.getElem?_map, hy, hy']; simp [e1])
                      · subst e
                        rw [hy] at hy'
                        cases hy'
                        omega
                    · refine ⟨ls.length, Nat.le_refl _, fun j y' hy' => ⟨fun e => absurd e.symm (hx y' (List.mem_of_getElem? hy')), fun e => ?_⟩, by rw [if_neg (by omega)]; exact hc1, fun h => by omega, fun _ => eb⟩
                      have := (List.getElem?_eq_some_iff.1 hy').1
                      omega
                  obtain ⟨K, hK, hKx, hcK, hKy, hKn⟩ := KK
                  have FIN : ∀ wc v', PlI w wc b n1 (n1 + 1) n3 (n3 + 1) bi hb sb T5 A5' (s + 30729) base5 ls rts (.slice ad ls.length cp) wr.heap.size w4.heap.size (w4.heap.size + 1) v' rts (if K < ls.length then ls.eraseIdx K else ls) 2 x v m at_ → ∃ (hb' sb' : Nat) (T' : Tay) (A' : Ab) (s' : Int) (base' : Nat → Int) (ts' : Nat → Int) (nw' : List (Nat × Nat)) (at' : Int), s' ≤ s + 110000 ∧ nw'.length ≤ m + 1 ∧ PlI w wc b n1 (n1 + 1) n3 (n3 + 1) bi hb' sb' T' A' s' base' ls rts (.slice ad ls.length cp) wr.heap.size w4.heap.size (w4.heap.size + 1) v' ts' nw' 2 x v m at' ∧ Lists (ask (rb base')) (if c = 0 then nw' else ls) ∧ ∀ j, j < 16 → rb base' (2 + j) = if c = 0 then ts' j else rts j := by
                    intro wc v' S
                    by_cases hkl : K < ls.length
                    · rw [if_pos hkl] at S
                      rw [if_pos hkl] at hcK
                      obtain ⟨l1, l2⟩ := hKy hkl
                      exact ⟨hb, sb, T5, A5', s + 30729, base5, rts, _, at_, hs5, by have := List.length_eraseIdx_le ls K; omega, S, by rw [if_pos hcK]; exact l1, fun j hj => by rw [if_pos hcK, l2 (2 + j) (by omega) (by omega)]; exact rt j hj⟩
                    · rw [if_neg hkl] at S
                      rw [if_neg hkl] at hcK
                      have eb := hKn hkl
                      subst eb
                      exact ⟨hb, sb, T5, A5', s + 30729, base5, rts, ls, at_, hs5, by omega, S, by rw [if_neg (by omega)]; exact li, fun j hj => by rw [if_neg (by omega)]; exact rt j hj⟩
                  have hcp : ls.length ≤ cp := by
                    rcases S5.rl.2 with ⟨ev, e0⟩ | ⟨gg, cp', cur, ev, _, _, h3, _⟩
                    · injection ev with _ _ ev; omega
                    · injection ev with _ _ ev; omega
                  have SX : ∀ q : Nat, q < ls.length → ∃ (yb yo : Nat) (y : Nat × Nat), ls[q]? = some y ∧ ad = some ⟨yb, yo, none⟩ := fun q hq => by
                    have hy : ls[q]? = some ls[q] := List.getElem?_eq_getElem hq
                    obtain ⟨yb, yo, e, _⟩ := pcs_of_row S5.rl q _ hy
                    exact ⟨yb, yo, _, hy, e⟩
                  have hnil5 : ad = none → ls = [] ∧ cp = 0 := hnil
                  have hlm1 : ls.length ≤ 1000 := by omega
                  have PC : ∀ (wx : World) (nv : Value) (nwq : List (Nat × Nat)), PlI w wx b n1 (n1 + 1) n3 (n3 + 1) bi hb sb T5 A5' (s + 30729) base5 ls rts (.slice ad ls.length cp) wr.heap.size w4.heap.size (w4.heap.size + 1) nv rts nwq 2 x v m at_ → PcsAt wx ad ls := fun wx nv nwq S => pcs_of_row S.rl
                  have RB : ∀ (wx : World) (nv : Value) (nwq : List (Nat × Nat)) (k : Nat), PlI w wx b n1 (n1 + 1) n3 (n3 + 1) bi hb sb T5 A5' (s + 30729) base5 ls rts (.slice ad ls.length cp) wr.heap.size w4.heap.size (w4.heap.size + 1) nv rts nwq 2 x v m at_ → k < ls.length → ∃ v6 w6 v7 w7, (Builtin.append_ #[49, 49] 49 #[.slice (some ⟨wx.heap.size, 0, none⟩) 0 0, .slice ad k cp]).run Tryz.prog (wx.drew.alloc (.cells #[] 53)) = .ok v6 w6 ∧
                      (Builtin.append_ #[49, 49] 49 #[v6, .slice (cutP ad cp (k + 1)) (ls.length - (k + 1)) (cp - (k + 1))]).run Tryz.prog w6 = .ok v7 w7 ∧ Still wx w6 ∧ PlI w w7 b n1 (n1 + 1) n3 (n3 + 1) bi hb sb T5 A5' (s + 30729) base5 ls rts (.slice ad ls.length cp) wr.heap.size w4.heap.size (w4.heap.size + 1) v7 rts (ls.eraseIdx k) 2 x v m at_ := by
                    intro wx nv nwq k S hk
                    obtain ⟨v6, w6, v7, w7, h98, h103, f6, f7, own7, l7⟩ := run_but wx.drew w.heap.size wx.heap.size ls ad cp k hnil5 ((pcs_of_row S.rl).kept ((Fr.refl (fun _ => False) wx).drewN 1)) hk hcp hlm1 (by have := S.hc.hd.fr.size; show w.heap.size ≤ wx.heap.size; exact this) rfl
                    refine ⟨v6, w6, v7, w7, h98, h103, ((Fr.refl (fun _ => False) wx).drewN 1).trans' f6 (fun _ x => x.elim), ?_⟩
                    exact S.now (F := fun _ => False) (((Fr.refl (fun _ => False) wx).drewN 1).trans' f7 (fun _ x => x.elim)) (fun k hk => hk.elim) own7 (fun k hk => .inr (l7 k hk))
                  have hcl := S5.cl.c
                  have HS := hide S5; have HFIN := @hide _ FIN; have HSX := @hide _ SX; have HKX := @hide _ hKx
                  have HPC := @hide _ PC; have HRB := @hide _ RB; have HCK := hide hcK
                  generalize wr.heap.size = bo at *
                  generalize w4.heap.size = bw at *
                  generalize hnl : ls.length = nl at *
                  have HNL := hide hnl
                  clear err S5 li rt out hnl FIN SX PC RB hKx hKy hKn hnil5 hcK hnil hlm
                  go_wp2_with fail
                  clear hcl
                  go_loopw [11, 14, 17] (fun nv wv iv wx => ∃ q : Nat, q ≤ nl ∧ iv = .int .i64 q ∧ wv = .int .i64 (if K < q then 0 else 1) ∧ Hid (PlI w wx b n1 (n1 + 1) n3 (n3 + 1) bi hb sb T5 A5' (s + 30729) base5 ls rts (.slice ad nl cp) bo bw (bw + 1) nv rts (if K < q then ls.eraseIdx K else ls) 2 x v m at_)) (fun nv wv iv wx => nl - (intOf iv).toNat)
                  case atStart => exact ⟨0, by omega, rfl, by simp, by simpa using HS⟩
                  case round =>
                    obtain ⟨q, hqn, rfl, rfl, HD⟩ := hrel
                    by_cases hlt2 : q < nl
                    · obtain ⟨yb, yo, y, hy, ead⟩ := unhide HSX q hlt2
                      subst ead
                      have hxe := unhide HKX q y hy
                      obtain ⟨yb', yo', e, cq1, _⟩ := unhide HPC _ _ _ (unhide HD) q y hy
                      cases e
                      have cqo := cell_of_obj (unhide HD).oc 1
                      have cql := (unhide HD).cl.c
                      have hlt2' : (q : Int) < nl := by omega
                      have HY := hide hy
                      clear hy
                      by_cases hqK : q = K
                      · have e1 := hxe.2 hqK
                        clear hxe
                        subst hqK
                        rw [e1] at cq1
                        have hd1 : (if q < q then (0 : Int) else 1) = 1 := if_neg (by omega)
                        rw [hd1]
                        go_wp2_with fail
                        refine region_tailP 7 (by kernel_rfl) (by kernel_rfl) ?_
                        simp only [List.take_succ_cons, List.take_zero, List.drop_succ_cons, List.drop_zero]
                        repeat (go_big_quiet_step (fail))
                        refine wpQuiet_nil ?_
                        rintro _ ⟨nq, rfl⟩
                        have SY := (unhide HD).now (F := fun _ => False) ((Fr.refl (fun _ => False) _).drewN nq) (fun k hk => hk.elim) (row_still (unhide HD).nr ((Fr.refl (fun _ => False) _).drewN nq)) (fun k hk => .inl hk)
                        clear cq1 cqo cql HD
                        generalize World.drewN wr nq = wy at *
                        obtain ⟨v6, w6, v7, w7, h98, h103, f6, S7⟩ := unhide HRB wy _ _ q SY hlt2
                        have cl5 := SY.cl.c
                        have cl5a : (wy.alloc (.cells #[] 53)).cell? ⟨n3, 0, none⟩ = some (.slice (some ⟨yb, yo, none⟩) nl cp) := (SY.cl.kept ((Fr.refl (fun _ => False) wy).alloc _) (fun x => x)).c
                        have cl6 : w6.cell? ⟨n3, 0, none⟩ = some (.slice (some ⟨yb, yo, none⟩) nl cp) := (SY.cl.kept f6 (fun x => x)).c
                        have s1 := fun w => slice_toP (some ⟨yb, yo, none⟩) nl cp q w (by omega)
                        have s2 : ∀ w, (Instr.slice 49 (.slice (some ⟨yb, yo, none⟩) nl cp) (some (.int .i64 ((q : Int) + 1))) none none).run Tryz.prog w = .ok (.slice (cutP (some ⟨yb, yo, none⟩) cp (q + 1)) (nl - (q + 1)) (cp - (q + 1))) w := fun w => slice_fromP (some ⟨yb, yo, none⟩) nl cp (q + 1) w (by omega)
                        have hw1 : IntKind.i64.wrap ((q : Int) + 1) = (q : Int) + 1 := (wrap_small _ (by omega) (by omega)).1
                        have H98 := hide h98; have H103 := hide h103; have HS7 := hide S7
                        clear h98 h103 S7 SY f6
                        generalize nl - (q + 1) = rq at s2 H103
                        generalize cutP (some ⟨yb, yo, none⟩) cp (q + 1) = aq at s2 H103
                        generalize cp - (q + 1) = cq at s2 H103
                        go_upto_region 34 with fail
                        go_region_law (first | (refine step_append_run rfl (.tmp 120) (.tmp 123) 49 rfl _ _ rfl rfl v6 w6 (unhide H98) ?_) | (refine step_append_run rfl (.tmp 124) (.tmp 128) 49 rfl _ _ rfl rfl v7 w7 (unhide H103) ?_))
                        all_goals
                          as_aux_lemma =>
                            go_wp2
                            go_roundw
                            case rel => exact ⟨q + 1, by omega, by go_num, by rw [if_pos (by omega)], by rw [if_pos (by omega)]; exact HS7⟩
                            case measure => simp [intOf]; omega
                      · have e2 : ¬ 160 + (y.1 : Int) * 8 = x := fun e => hqK (hxe.1 e)
                        have g3 : ((160 + (y.1 : Int) * 8) == x) = false := by simp; exact e2
                        have hd1 : (if K < q + 1 then (0 : Int) else 1) = (if K < q then 0 else 1) := by
                          by_cases h : K < q
                          · rw [if_pos h, if_pos (by omega)]
                          · rw [if_neg h, if_neg (by omega)]
                        have hd2 : (if K < q + 1 then ls.eraseIdx K else ls) = (if K < q then ls.eraseIdx K else ls) := by
                          by_cases h : K < q
                          · rw [if_pos h, if_pos (by omega)]
                          · rw [if_neg h, if_neg (by omega)]
                        clear hxe
                        rw [← hd1]
                        generalize hdd : (if K < q + 1 then (0 : Int) else 1) = dd
                        have HDD := hide hdd; have HD2 := hide hd2
                        clear hdd hd1 hd2
                        go_wp2_with fail
                        refine region_tailP 7 (by kernel_rfl) (by kernel_rfl) ?_
                        simp only [List.take_succ_cons, List.take_zero, List.drop_succ_cons, List.drop_zero]
                        repeat (go_big_quiet_step (fail))
                        refine wpQuiet_nil ?_
                        rintro _ ⟨nq, rfl⟩
                        go_wp2
                        go_roundw
                        case rel =>
                          refine ⟨q + 1, by omega, by go_num, by rw [unhide HDD], ?_⟩
                          rw [unhide HD2]
                          exact hide ((unhide HD).now (F := fun _ => False) ((Fr.refl (fun _ => False) _).drewN nq) (fun k hk => hk.elim) (row_still (unhide HD).nr ((Fr.refl (fun _ => False) _).drewN nq)) (fun k hk => .inl hk))
                        case measure => simp [intOf]; omega
                    · have hq : q = nl := by omega
                      subst hq
                      have hck := unhide HCK
                      have HR := hide (unhide HFIN _ _ (unhide HD))
                      rw [← hck]
                      have cql := (unhide HD).cl.c
                      clear HD hlt2 hck
                      go_wp2
                      go_meet
                      case rel => exact ⟨rfl, unhide HR⟩
              · by_cases h3 : kd = 3
                · subst h3
                  as_aux_lemma =>
                    rcases out with ⟨hc0, ⟨e, _⟩ | ⟨e, _⟩ | ⟨e, _⟩ | ⟨e, _⟩ | ⟨_, k, hk, rfl, lst, rts5⟩ | ⟨_, _, _, e, _⟩⟩ | ⟨eb, hc0, ⟨e, _⟩ | ⟨e, _⟩ | ⟨e, _⟩ | ⟨_, rfl, hx⟩ | ⟨e, _⟩⟩
                    all_goals first | (exfalso; omega) | skip
                    · subst hc0
                      have S6 := S5.setw k v
                      have ca := S5.wa.cell k hk
                      have za := S5.wa.frozen k
                      have HR := hide (show ∃ (hb' sb' : Nat) (T' : Tay) (A' : Ab) (s' : Int) (base' : Nat → Int) (ts' : Nat → Int) (nw' : List (Nat × Nat)) (at' : Int), s' ≤ s + 110000 ∧ nw'.length ≤ m + 1 ∧ PlI w (w5.setCell ⟨w4.heap.size, k, none⟩ (.int .u64 v)) b n1 (n1 + 1) n3 (n3 + 1) bi hb' sb' T' A' s' base' ls rts (.slice ad ls.length cp) wr.heap.size w4.heap.size (w4.heap.size + 1) v11 ts' nw' 3 k v m at' ∧ Lists (ask (rb base')) (if (0 : Int) = 0 then nw' else ls) ∧ ∀ j, j < 16 → rb base' (2 + j) = if (0 : Int) = 0 then ts' j else rts j from
                        ⟨hb, sb, T5, A5', s + 30729, base5, upd rts k v, ls, at_, hs5, by omega, S6, by rw [if_pos rfl]; exact lst, fun j hj => by
                          rw [if_pos rfl, rts5 j hj]
                          by_cases e : j = k
                          · subst e; rw [if_pos rfl, upd_same]
                          · rw [if_neg e, upd_other _ _ e]; exact rt j hj⟩)
                      have hk0 : ¬ (k : Int) < 0 := by omega
                      have hk15 : ¬ (15 : Int) < k := by omega
                      have hst := fun (w : World) (a : Addr) (x : Int) (m : Mode) => run_store Tryz.prog w a (.int .u64 x) m rfl
                      clear err S5 li rt lst rts5 S6
                      go_wp2
                      go_meet
                      case rel => exact ⟨rfl, unhide HR⟩
                    · have HR := hide (err hc0 eb S5)
                      clear err S5 li rt
                      rcases (show x < 0 ∨ (¬ x < 0 ∧ 15 < x) by omega) with hx | ⟨hx, hx'⟩
                      · go_wp2
                        go_meet
                        case rel => exact ⟨rfl, unhide HR⟩
                      · go_wp2
                        go_meet
                        case rel => exact ⟨rfl, unhide HR⟩
                · by_cases h5 : kd = 5
                  · subst h5
                    as_aux_lemma =>
                      rcases out with ⟨hc0, ⟨e, _⟩ | ⟨e, _⟩ | ⟨e, _⟩ | ⟨e, _⟩ | ⟨e, _⟩ | ⟨_, _, _, _, _, lst, rts5⟩⟩ | ⟨eb, hc0, ⟨e, _⟩ | ⟨e, _⟩ | ⟨e, _⟩ | ⟨e, _⟩ | ⟨e, _⟩⟩
                      all_goals first | (exfalso; omega) | skip
                      subst hc0
                      obtain ⟨fq, cq, kq⟩ := S5.hc.cl
                      have PW := x_power S5.hc.dv (stand_calm (xs := []) cq (.inl kq)) (by omega) false none 0 0 (fun _ => 0) (Nat.zero_le _) (fun k hk => by omega)
                      have HPW := hide PW; have HSS := hide (And.intro S5 (And.intro lst (And.intro rts5 rt)))
                      have hes := eq_nil_stor
                      clear PW err S5 li rt lst rts5 cq kq
                      go_wp2_with fail
                      refine (unhide HPW).mono ?_
                      clear HPW
                      rintro e w6 ⟨rfl, ⟨L6, A6, h6, D6, c6, st6⟩, fr6⟩
                      have OP := x_open D6 (c6 True) st6 (by simp) (by omega) (by omega)
                      have HOP := hide OP; have HF6 := hide (And.intro fr6 D6.ap)
                      clear OP D6 c6 st6 fr6
                      go_wp2_with fail
                      refine (unhide HOP).mono ?_
                      clear HOP
                      rintro e w7 ⟨⟨sb7, T7, A7, h7', rfl, hd7, c7, ei7⟩ | ⟨_, hn, _⟩, fr7⟩
                      · obtain ⟨S5, lst, rts5, rt⟩ := unhide HSS
                        have k7 : Clean 0 12304 base5 h7' := by
                          rcases ei7 with e | e
                          · exact e
                          · rw [List.reverse_nil, homed_nil] at e; exact e
                        have HO := x_heapN hd7 c7 k7 (unhide HT) S5.st (by omega)
                        have HHO := hide HO; have HF7 := hide (And.intro fr7 hd7.ap)
                        clear HO hd7 c7 k7 ei7 fr7 S5 lst rts5 rt
                        go_wp2_with fail
                        refine (unhide HHO).mono ?_
                        clear HHO
                        rintro e w8 ⟨⟨hb8, T8, A8, rfl, hc8, nh8⟩, fr8⟩
                        obtain ⟨S5, lst, rts5, rt⟩ := unhide HSS
                        obtain ⟨fr6, ap6⟩ := unhide HF6
                        obtain ⟨fr7, ap7⟩ := unhide HF7
                        have same : ∀ k, PlY hb n1 (n1 + 1) n3 (n3 + 1) bi (.slice ad ls.length cp) wr.heap.size w4.heap.size (w4.heap.size + 1) v11 k → w8.heap[k]? = w5.heap[k]? := fun k hY => by
                          have l5 := (S5.hc.hd.xl k hY).2
                          have e6 := fr6.block k l5 (fun x => S5.hc.hd.ap k hY (.inl x))
                          have l6 : k < w6.heap.size := Nat.lt_of_lt_of_le l5 fr6.size
                          have e7 := fr7.block k l6 (ap6 k hY)
                          have e8 := fr8.block k (Nat.lt_of_lt_of_le l6 fr7.size) (ap7 k hY)
                          exact e8.trans (e7.trans e6)
                        have S8 := S5.opened same hc8 (by have := fr6.size; have := fr7.size; omega)
                        have e1 := same n1 (.inl (.inr (.inl rfl)))
                        have e2 := same (n1 + 1) (.inl (.inr (.inr (.inl rfl))))
                        have cb1 : w8.cell? ⟨n1, 0, none⟩ = some (ptr sb) := (World.cell?_of_block (a := ⟨n1, 0, none⟩) e1).trans S5.cs.c
                        have zb1 : w8.frozen? ⟨n1, 0, none⟩ = false := (World.frozen?_of_block (a := ⟨n1, 0, none⟩) e1).trans S5.cs.z
                        have cb2 : w8.cell? ⟨n1 + 1, 0, none⟩ = some (ptr hb) := (World.cell?_of_block (a := ⟨n1 + 1, 0, none⟩) e2).trans S5.ch.c
                        have zb2 : w8.frozen? ⟨n1 + 1, 0, none⟩ = false := (World.frozen?_of_block (a := ⟨n1 + 1, 0, none⟩) e2).trans S5.ch.z
                        have HR := hide (show ∃ (hb' sb' : Nat) (T' : Tay) (A' : Ab) (s' : Int) (base' : Nat → Int) (ts' : Nat → Int) (nw' : List (Nat × Nat)) (at' : Int), s' ≤ s + 110000 ∧ nw'.length ≤ m + 1 ∧ PlI w ((w8.setCell ⟨n1, 0, none⟩ (ptr sb7)).setCell ⟨n1 + 1, 0, none⟩ (ptr hb8)) b n1 (n1 + 1) n3 (n3 + 1) bi hb' sb' T' A' s' base' ls rts (.slice ad ls.length cp) wr.heap.size w4.heap.size (w4.heap.size + 1) v11 ts' nw' 5 x v m at' ∧ Lists (ask (rb base')) (if (0 : Int) = 0 then nw' else ls) ∧ ∀ j, j < 16 → rb base' (2 + j) = if (0 : Int) = 0 then ts' j else rts j from
                          ⟨hb8, sb7, T8, A8, _, base5, rts, ls, at_, by omega, by omega, S8, by rw [if_pos rfl]; exact lst, fun j hj => by rw [if_pos rfl, rts5 (2 + j) (by omega) (by omega)]; exact rt j hj⟩)
                        clear S5 lst rts5 rt fr6 ap6 fr7 ap7 same S8 e1 e2 hc8 fr8 HSS HF6 HF7
                        go_wp2
                        go_meet
                        case rel => exact ⟨rfl, unhide HR⟩
                      · exact absurd trivial hn
                  · as_aux_lemma =>
                      rcases out with ⟨hc0, ⟨e, _⟩ | ⟨e, _⟩ | ⟨e, _⟩ | ⟨e, _⟩ | ⟨e, _⟩ | ⟨_, _, _, _, _, lst, rts5⟩⟩ | ⟨eb, hc0, ⟨e, _⟩ | ⟨e, _⟩ | ⟨e, _⟩ | ⟨e, _⟩ | ⟨e, _⟩⟩
                      all_goals first | (exfalso; omega) | skip
                      subst hc0
                      have HR := hide (show ∃ (hb' sb' : Nat) (T' : Tay) (A' : Ab) (s' : Int) (base' : Nat → Int) (ts' : Nat → Int) (nw' : List (Nat × Nat)) (at' : Int), s' ≤ s + 110000 ∧ nw'.length ≤ m + 1 ∧ PlI w w5 b n1 (n1 + 1) n3 (n3 + 1) bi hb' sb' T' A' s' base' ls rts (.slice ad ls.length cp) wr.heap.size w4.heap.size (w4.heap.size + 1) v11 ts' nw' kd x v m at' ∧ Lists (ask (rb base')) (if (0 : Int) = 0 then nw' else ls) ∧ ∀ j, j < 16 → rb base' (2 + j) = if (0 : Int) = 0 then ts' j else rts j from
                        ⟨hb, sb, T5, A5', s + 30729, base5, rts, ls, at_, hs5, by omega, S5, by rw [if_pos rfl]; exact lst, fun j hj => by rw [if_pos rfl, rts5 (2 + j) (by omega) (by omega)]; exact rt j hj⟩)
                      clear err S5 li rt lst rts5
                      go_wp2
                      go_meet
                      case rel => exact ⟨rfl, unhide HR⟩
      case rest =>
        as_aux_lemma =>
          clear HS5 co0 co1 co2
          obtain ⟨rfl, hb7, sb7, T7, A7, s7, base7, ts7, nw7, at7, hs7, hl7, S7, li7, rt7⟩ := hcut
          have HS7 := hide (And.intro S7 (And.intro li7 rt7))
          clear S7 li7 rt7
          go_upto_if 182 with fail
          go_cut [] from 35 to 201 (fun wd => ∃ (lsf : List (Nat × Nat)) (rtf : Nat → Int) (vlf : Value), lsf.length ≤ m + 1 ∧ Box wd bi (.int .i64 m) ∧ PlH w wd b n1 (n1 + 1) n3 (n3 + 1) bi hb7 sb7 T7 A7 s7 base7 lsf rtf vlf)
          case first =>
            obtain ⟨S7, li7, rt7⟩ := unhide HS7
            by_cases hc : c = 0
            · subst hc
              simp only [if_true] at li7 rt7
              obtain ⟨adn, cpn, evn⟩ : ∃ ad cp, u11 = .slice ad nw7.length cp := by
                rcases row_formP S7.nr with ⟨ev, e0⟩ | ⟨gg, cp, ev⟩
                · exact ⟨none, 0, by rw [ev, e0]⟩
                · exact ⟨_, cp, ev⟩
              subst evn
              have HTK := hide (S7.take li7 rt7 1)
              have fs : Fr (fun r => r = n3) wc (wc.drew.setCell ⟨n3, 0, none⟩ (.slice adn nw7.length cpn)) := ((Fr.refl (fun r => r = n3) wc).drewN 1).setCell (.inl rfl) _
              have hA : wc.drew.heap[w4.heap.size]? = some (.cells (arr 16 ts7) 39 (0, 0)) := S7.wa
              have hB : (wc.drew.setCell ⟨n3, 0, none⟩ (.slice adn nw7.length cpn)).heap[w4.heap.size]? = some (.cells (arr 16 ts7) 39 (0, 0)) := S7.wa.kept fs (by have := S7.d1; show ¬ w4.heap.size = n3; omega)
              have hC : (wc.drew.setCell ⟨n3, 0, none⟩ (.slice adn nw7.length cpn)).heap[n3 + 1]? = some (.cells (arr 16 rts) 39 (0, 0)) := S7.rr.kept fs (by show ¬ n3 + 1 = n3; omega)
              have cbl := S7.cl.c; have zbl := S7.cl.z
              have hl7' := hl7
              generalize hW : wc.drew.setCell ⟨n3, 0, none⟩ (.slice adn nw7.length cpn) = WX at hB hC
              have HWX := hide hW
              have HH := hide (And.intro hA (And.intro hB hC))
              clear S7 li7 rt7 fs hA hB hC
              go_wp2_with fail
              refine wp_region_any (by kernel_rfl) ?_
              change wpAny _ _ _ _ _ _ _ (World.drew _)
              refine wpAny_take (i := 0) (v := .slice adn nw7.length cpn) rfl (by kernel_rfl) (by kernel_rfl) (by kernel_rfl) (fun _ _ _ h => h) (Or.inl ⟨by rfl, ?_⟩) ?_
              · intro w; go_simp
              refine wpAny_ready (rs := [1, 2]) (by kernel_rfl) (by simp) ?_
              refine AllReady.cons rfl (fun K hK => ?_) (AllReady.cons rfl (fun K hK => ?_) AllReady.nil)
              · refine step_load_row rfl 39 (.tmp 12) rfl w4.heap.size rfl 39 (arr 16 ts7) (0, 0) _ (unhide HH).1 Tryz.underlying39 rfl (info_arr _) ?_
                refine hK _ _ ?_
                clear hK K
                refine wpAny_ready (rs := [2]) (by kernel_rfl) (by simp) ?_
                refine AllReady.cons rfl (fun K hK => ?_) AllReady.nil
                go_simp
                refine hK _ _ ?_
                clear hK K
                refine wpAny_ready (rs := [3]) (by kernel_rfl) (by simp) ?_
                refine AllReady.cons rfl (fun K hK => ?_) AllReady.nil
                refine step_store_row rfl 39 (.tmp 8) (.tmp 184) rfl (n3 + 1) (arr 16 ts7) rfl rfl 39 (arr 16 rts) (unhide HH).2.2 (info_arr _) (by rw [arr_size, arr_size]) (arr_one _ _) ?_
                refine hK _ _ ?_
                clear hK K
                refine wpAny_done (by kernel_rfl) ?_ _
                go_wp2
                go_meet
                case rel =>
                  rw [← unhide HWX]
                  exact ⟨nw7, ts7, _, hl7', (unhide HTK).2, (unhide HTK).1⟩
              · go_simp
                refine hK _ _ ?_
                clear hK K
                refine wpAny_ready (rs := [1]) (by kernel_rfl) (by simp) ?_
                refine AllReady.cons rfl (fun K hK => ?_) AllReady.nil
                refine step_load_row rfl 39 (.tmp 12) rfl w4.heap.size rfl 39 (arr 16 ts7) (0, 0) _ (unhide HH).2.1 Tryz.underlying39 rfl (info_arr _) ?_
                refine hK _ _ ?_
                clear hK K
                refine wpAny_ready (rs := [3]) (by kernel_rfl) (by simp) ?_
                refine AllReady.cons rfl (fun K hK => ?_) AllReady.nil
                refine step_store_row rfl 39 (.tmp 8) (.tmp 184) rfl (n3 + 1) (arr 16 ts7) rfl rfl 39 (arr 16 rts) (unhide HH).2.2 (info_arr _) (by rw [arr_size, arr_size]) (arr_one _ _) ?_
                refine hK _ _ ?_
                clear hK K
                refine wpAny_done (by kernel_rfl) ?_ _
                go_wp2
                go_meet
                case rel =>
                  rw [← unhide HWX]
                  exact ⟨nw7, ts7, _, hl7', (unhide HTK).2, (unhide HTK).1⟩
            · have HR := hide (show ∃ (lsf : List (Nat × Nat)) (rtf : Nat → Int) (vlf : Value), lsf.length ≤ m + 1 ∧ Box wc bi (.int .i64 m) ∧ PlH w wc b n1 (n1 + 1) n3 (n3 + 1) bi hb7 sb7 T7 A7 s7 base7 lsf rtf vlf from ⟨ls, rts, _, by omega, S7.ib, S7.drop (by rw [if_neg hc] at li7; exact li7) (fun j hj => by have := rt7 j hj; rw [if_neg hc] at this; exact this)⟩)
              clear S7 li7 rt7
              go_wp2
              go_meet
              case rel => exact unhide HR
          case rest =>
            clear HS7
            obtain ⟨lsf, rtf, vlf, hlf, bfi, SF⟩ := hcut
            obtain ⟨adf, cpf, evf⟩ : ∃ ad cp, vlf = .slice ad lsf.length cp := by
              rcases row_formP SF.rl with ⟨ev, e0⟩ | ⟨gg, cp, ev⟩
              · exact ⟨none, 0, by rw [ev, e0]⟩
              · exact ⟨_, cp, ev⟩
            subst evf
            have sy := SF.hc.says []
            rw [homed_nil] at sy
            have SD := l8_sound SF.hc.toHp (by rw [sy]; exact SF.st) adf cpf lsf (by rw [sy]; exact SF.li) (pcs_of_row SF.rl)
            have RT : ∀ wx, Still wc wx → ∀ j : Nat, j < 16 → ∀ p, Calls Tryz.prog 26 #[ptr hb7, .int .i64 j] (wx.drewN p) fun e w' => e = .returned (.int .u64 (rtf j)) ∧ w' = wx.drewN p := fun wx f j hj p => by
              have hq := (SF.hc.toHp.still f).still ((Fr.refl _ wx).drewN p)
              have := h_root hq.hp hq.reads j hj
              rw [sy, SF.rt j hj] at this
              exact this
            have cbh := SF.ch.c; have cbl := SF.cl.c
            have HSD := hide SD; have HSF := hide SF; have HRT := @hide _ RT; have HBI := hide bfi
            clear SD SF RT bfi sy
            generalize hnl : lsf.length = nl at *
            have HNL := hide hnl
            clear hnl
            go_wp2_with fail
            refine (unhide HSD).mono ?_
            clear HSD cbh cbl
            rintro e w8 ⟨rfl, f8⟩
            have HF8 := hide f8
            clear f8
            go_wp2_with fail
            go_loopw [21] (fun iv wx => ∃ q : Nat, q ≤ 16 ∧ iv = .int .i64 q ∧ Hid (Still wc wx)) (fun iv wx => 16 - (intOf iv).toNat)
            case atStart => exact ⟨0, by omega, rfl, HF8⟩
            case round =>
              obtain ⟨q, hq16, rfl, HD⟩ := hrel
              by_cases hlt2 : q < 16
              · have RTq := unhide HRT _ (unhide HD) q hlt2
                have caq := ((unhide HSF).rr.kept (unhide HD) (fun x => x)).cell q hlt2
                have chq := ((unhide HSF).ch.kept (unhide HD) (fun x => x)).c
                have HRQ := @hide _ RTq
                have hlt2' : (q : Int) < 16 := by omega
                clear RTq
                go_wp2_with fail
                refine region_tailP 6 (by kernel_rfl) (by kernel_rfl) ?_
                simp only [List.take_succ_cons, List.take_zero, List.drop_succ_cons, List.drop_zero]
                repeat (go_big_quiet_step (first | (go_at_call 26; exact Calls.quiet_of_same (unhide HRQ _))))
                refine wpQuiet_nil ?_
                rintro _ ⟨nq, rfl⟩
                clear HRQ caq chq
                go_wp2
                go_roundw
                case rel => exact ⟨q + 1, by omega, by go_num, hide ((unhide HD).trans' ((Fr.refl (fun _ => False) _).drewN nq) (fun _ x => x.elim))⟩
                case measure => simp [intOf]; omega
              · have hq : q = 16 := by omega
                subst hq
                have bii := (unhide HBI).kept (unhide HD) (fun x => x)
                have cbi := bii.c
                have HNX := hide (And.intro hk (And.intro hl1 (And.intro hs (And.intro hs7 hlf))))
                clear hlt2 hq16 hs7 hl7 hlf hi1 h1 h2 al hlm hs hnil y1 y4 bii hk hl1
                go_upto_region 63 with fail
                go_wp2_with fail
                obtain ⟨q1, q2, q3, q4, q5⟩ := unhide HNX
                go_roundg (gk - 1)
                case measure => omega
                case rel =>
                  have f := ((Fr.refl (fun _ => False) wr).alloc (.cells #[.int .i64 ((m : Int) + 1)] 3))
                  have f' := (unhide HD).trans' f (fun _ x => x.elim)
                  have hnl := unhide HNL
                  subst hnl
                  refine ⟨m + 1, wr.heap.size, lsf, rtf, _, hb7, sb7, T7, A7, s7, base7, by omega, by omega, rfl, by omega, Box.new wr (.int .i64 ((m : Int) + 1)) 3, by omega, (unhide HSF).next f' (by have := (unhide HD).size; omega) (by simp)⟩
    · as_aux_lemma =>
        have cbi := bib.c
        have HF := hide S.hc.hd.fr
        clear S
        rcases (show ¬ m < len ∨ (m < len ∧ m = 40) by omega) with h | ⟨h, h40⟩
        · have h' : ¬ (m : Int) < len := by omega
          clear hlt
          go_wp2
          go_ret
          exact ⟨rfl, (unhide HF).below (Nat.le_refl _) (fun _ x => x.elim)⟩
        · have hi1 : ((m : Int) < 40) = False := by simp; omega
          clear hlt h40
          go_wp2
          go_ret
          exact ⟨rfl, (unhide HF).below (Nat.le_refl _) (fun _ x => x.elim)⟩
end Go.Proofs.YtgehfmonfofbiaaGreatDoor
