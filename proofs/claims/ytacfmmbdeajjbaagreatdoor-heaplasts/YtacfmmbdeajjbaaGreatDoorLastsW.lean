/- HeapLasts. -/
import Derived.Test.YtacfmmbdeajjbaaGreatDoorLsQ
import Derived.Deep.RegionHeldLaw
import Derived.Deep.CutRange
import Derived.Deep.CutBlock
import Derived.Deep.LoopGhost
namespace Go.Proofs.YtacfmmbdeajjbaaGreatDoor
open Go.RowKit

theorem ne_nil_heap (b : Nat) (w : World) : (binOp .neq 26 (ptr b) (.pointer none)).run Tryz.prog w = .ok (.bool true) w := by kernel_rfl

set_option maxRecDepth 20000 in
set_option maxHeartbeats 8000000 in
theorem lasts_ok (a0 : Option Addr) (len0 cap0 : Nat) (fu : Int) (flip : Bool) (a3 : Option Addr) (len3 cap3 : Nat) (a4 : Option Addr) (len4 cap4 : Nat) (w : World) (z : Nat → Op7) (ops : Ops8 w a0 len0 z) (_hl0 : len0 ≤ maxLen) (hfu : fu < 9223372036854775808)
    (zk : Nat → Int) (hk : Nums w a3 len3 zk) (hl3 : len3 ≤ maxLen) (za : Nat → Int) (hza : Nums w a4 len4 za) (_hl4 : len4 ≤ maxLen) (hzb : ∀ k, k < len4 → za k < 9223372036854775808) (tab : TabL w) :
    Calls Tryz.prog 3 #[.slice a0 len0 cap0, .int .i64 fu, .bool flip, .slice a3 len3 cap3, .slice a4 len4 cap4] w fun e w' => e = .returned (.bool true) ∧ Below w.heap.size w w' := by
  have K := l8_open w tab
  have h1 := eq_nil_heap
  have h2 := mf
  have h3 := ne_nil_heap
  have HN := hide ops; have HKP := hide hk; have HL3 := hide hl3; have HZA := hide hza; have HZB := @hide _ hzb
  have HK := hide K; have HT := hide tab
  clear K ops tab hk hl3 hza hzb
  go_enter Tryz.func3, Tryz.ntmps3
  go_wp2_with fail
  refine (unhide HK).mono ?_
  clear HK
  rintro e w1 ⟨b, sb, hb, T, A, base, rfl, hc, nw⟩
  obtain ⟨W1, hW1⟩ : ∃ W1, w1.alloc (.cells #[ptr hb] 26) = W1 := ⟨_, rfl⟩
  have z1 : W1.heap.size = w1.heap.size + 1 := by rw [← hW1]; simp
  have hc1 := hc.more (.cells #[ptr hb] 26)
  rw [hW1] at hc1
  have bh1 : Box W1 w1.heap.size (ptr hb) := hW1 ▸ Box.new w1 (ptr hb) 26
  have lhb : hb < w1.heap.size := (hc.hd.xl hb hc.xh).2
  have AL : Calls Tryz.prog 7 #[ptr hb] W1 fun e w' => e = .returned (.int .i64 3824) ∧ w' = W1 := h_all hb 478 (by omega) W1 hc1.hp.c1
  have FU := hc1.fuse fu hfu
  have HX := hide (And.intro hc1 (And.intro bh1 nw)); have HAL := hide AL; have HFU := hide FU; have HWW := hide hW1
  have cbh := bh1.c
  rw [← hW1] at cbh
  clear hc hc1 bh1 AL FU nw hW1
  go_wp2_with fail
  rw [unhide HWW]
  refine (unhide HAL).mono ?_
  clear HAL HWW
  rintro e w' ⟨rfl, hh⟩
  replace hh := hh.symm
  subst hh
  clear cbh
  go_wp2_with fail
  refine (unhide HFU).mono ?_
  clear HFU
  rintro e w2 ⟨rfl, ⟨T2, A2, hc2⟩, f2⟩
  obtain ⟨hc1, bh1, nw⟩ := unhide HX
  have bh2 := bh1.kept f2 (hc1.hd.ap _ (.inr rfl))
  have z2 : w1.heap.size + 1 ≤ w2.heap.size := by have := f2.size; omega
  obtain ⟨W3, hW3⟩ : ∃ W3, w2.alloc (.cells #[.slice none 0 0] 31) = W3 := ⟨_, rfl⟩
  have hc3 := hc2.more (.cells #[.slice none 0 0] 31)
  rw [hW3] at hc3
  have f3 : Still w2 W3 := hW3 ▸ (Fr.refl _ w2).alloc _
  have bl3 : Box W3 w2.heap.size (.slice none 0 0) := hW3 ▸ Box.new w2 (.slice none 0 0) 31
  have st0 : LsH w W3 b w1.heap.size w2.heap.size hb sb T2 A2 43021 base [] (.slice none 0 0) := by
    refine ⟨hc3.sub (fun k hk => ?_) (.inl rfl), nw.st, by rw [nw.ak]; exact lists_nil, bh2.kept f3 (fun x => x), bl3, World.ownsRow_nil _ _ _ _, ⟨lhb, by omega⟩, fun k hk => absurd hk own_nilS⟩
    rcases hk with hk | hk | hk | hk
    · exact .inl (.inl hk)
    · exact .inl (.inr hk)
    · exact .inr hk
    · exact absurd hk own_nilS
  have HST := hide st0; have HWW := hide hW3
  clear hc1 bh1 nw hc2 hc3 bh2 bl3 f2 f3 hW3 st0 HX z1 z2
  go_wp2_with fail
  rw [unhide HWW]
  clear HWW
  generalize w2.heap.size = n2 at *
  generalize w1.heap.size = n1 at *
  go_loopw [16, 17] (fun nv iv wr => ∃ (m : Nat) (ls : List (Nat × Nat)) (vl : Value) (T : Tay) (A : Ab) (s : Int) (base : Nat → Int), m ≤ len0 ∧ m ≤ 25 ∧ iv = .int .i64 m ∧ s ≤ 50000 + 31000 * m ∧ ls.length ≤ m ∧ LsH w wr b n1 n2 hb sb T A s base ls vl) (fun nv iv wr => 25 - (intOf iv).toNat)
  case atStart => exact ⟨0, [], _, T2, A2, 43021, base, Nat.zero_le _, by omega, rfl, by omega, Nat.zero_le _, unhide HST⟩
  case round =>
    clear HST lhb
    obtain ⟨m, ls, vl, T, A, s, base, hm, hm25, rfl, hs, hlm, S⟩ := hrel
    generalize wr = wq at *
    clear wr
    by_cases hlt : m < len0 ∧ m < 25
    · obtain ⟨hl1, hl2⟩ := hlt
      obtain ⟨xb, xo, ea, q0, q1, q2⟩ := (unhide HN).1 m hl1
      have qf := S.hc.hd.fr
      have p0 := qf.cell' q0 (fun x => x)
      have p1 := qf.cell' q1 (fun x => x)
      have p2 := qf.cell' q2 (fun x => x)
      have hi1 : ((m : Int) < 25) = True := by simp; omega
      obtain ⟨ad, cp, ev, hnil, hcp⟩ : ∃ ad cp, vl = .slice ad ls.length cp ∧ (ad = none → ls = [] ∧ cp = 0) ∧ ls.length ≤ cp := by
        rcases S.rl.2 with ⟨ev, e0⟩ | ⟨gg, cp, cur, ev, _, _, h3, _⟩
        · exact ⟨none, 0, by rw [ev, e0], fun _ => ⟨List.eq_nil_of_length_eq_zero e0, rfl⟩, by omega⟩
        · exact ⟨_, cp, ev, fun e => (by cases e), h3⟩
      subst ev
      obtain ⟨A1, hA1⟩ : ∃ A1, wq.alloc (.cells #[.int .i64 (z m).kd, .int .i64 (z m).i, (.int .u64 (z m).v)] 34) = A1 := ⟨_, rfl⟩
      have y1 : A1.heap.size = wq.heap.size + 1 := by rw [← hA1]; simp
      obtain ⟨A2, hA2⟩ : ∃ A2, A1.alloc (.cells #[] 39) = A2 := ⟨_, rfl⟩
      have y2 : A2.heap.size = wq.heap.size + 2 := by rw [← hA2]; simp; omega
      have g1 : Still wq A1 := hA1 ▸ (Fr.refl _ wq).alloc _
      have g2 : Still A1 A2 := hA2 ▸ (Fr.refl _ A1).alloc _
      have g02 : Still wq A2 := g1.trans' g2 (fun _ x => x.elim)
      have pcA : PcsAt A2 ad ls := (pcs_of_row S.rl).kept g02
      have own2 : A2.ownsRow w.heap.size 39 2 (.slice (some ⟨wq.heap.size + 1, 0, none⟩) 0 0) ([] : List (Nat × Nat)).length (pcells []) := by
        refine ⟨rfl, .inr ⟨wq.heap.size + 1, 0, #[], rfl, by have := S.hc.hd.fr.size; omega, ?_, Nat.le_refl _, by unfold maxLen; omega, rfl, rfl⟩⟩
        rw [← hA2, ← y1]; exact heap_alloc_new A1 _
      obtain ⟨v11, w4, hap, M4⟩ := run_pcs A2 w.heap.size 31 _ [] ls own2 ad cp hnil pcA (by simp; omega) (by have := S.hc.hd.fr.size; omega)
      have cbl := (S.cl.kept g02 (fun x => x)).c
      rw [List.length_nil] at *
      have fr4 : Still wq w4 := by
        have : Fr (fun k => (Value.slice (some ⟨wq.heap.size + 1, 0, none⟩) 0 0).ownBlock = some k) A2 w4 := (Fr.refl _ A2).grown M4.gr (fun r e => .inl e)
        exact g02.trans' this (fun k hk => .inr (by simp [Value.ownBlock] at hk; omega))
      have y4 : wq.heap.size + 2 ≤ w4.heap.size := by have := M4.gr.size; omega
      have own4 : ∀ k, v11.ownBlock = some k → wq.heap.size < k ∧ k < w4.heap.size := fun k hk => by
        refine ⟨?_, (M4.own.lt k hk).2⟩
        rcases M4.loc with e | e
        · rw [hk] at e; simp [Value.ownBlock] at e; omega
        · rw [hk] at e; have := Option.some.inj e; omega
      have oc4 : w4.heap[wq.heap.size]? = some (.cells #[.int .i64 (z m).kd, .int .i64 (z m).i, .int .u64 (z m).v] 34) := by
        have h1 : A1.heap[wq.heap.size]? = some (.cells #[.int .i64 (z m).kd, .int .i64 (z m).i, .int .u64 (z m).v] 34) := by rw [← hA1]; exact heap_alloc_new wq _
        have h2 := g2.obj h1 (fun x => x)
        exact (M4.gr.block wq.heap.size (by omega) (by simp [Value.ownBlock])).trans h2
      have lm := msk_le (z m).i 127
      obtain ⟨x, hx⟩ : ∃ x, msk (z m).i 127 + 1 = x := ⟨_, rfl⟩
      have hx' : ((msk (z m).i 127 : Nat) : Int) + 1 = (x : Int) := by omega
      have hx1 : 1 ≤ x ∧ x ≤ 128 := by omega
      have em1 : bits .and .i64 (z m).i 127 = ((msk (z m).i 127 : Nat) : Int) := mask_i64 _ 127 (by omega)
      have ek1 : bits .and .i64 (z m).kd 1 = ((msk (z m).kd 1 : Nat) : Int) := mask_i64 _ 1 (by omega)
      obtain ⟨tk, htk⟩ : ∃ tk : Bool, tk = (decide (ls.length = 0) || decide (msk (z m).kd 1 = 0)) := ⟨_, rfl⟩
      obtain ⟨B1, hB1⟩ : ∃ B1, w4.alloc (.cells #[.int .i64 x] 3) = B1 := ⟨_, rfl⟩
      obtain ⟨B2, hB2⟩ : ∃ B2, B1.alloc (.cells #[.int .i64 0] 3) = B2 := ⟨_, rfl⟩
      obtain ⟨B3, hB3⟩ : ∃ B3, B2.alloc (.cells #[.bool tk] 4) = B3 := ⟨_, rfl⟩
      obtain ⟨B4, hB4⟩ : ∃ B4, B3.alloc (.cells #[.int .i64 0] 3) = B4 := ⟨_, rfl⟩
      obtain ⟨n4, hn4⟩ : ∃ n4, w4.heap.size = n4 := ⟨_, rfl⟩
      have k1 : B1.heap.size = n4 + 1 := by rw [← hB1]; simp [hn4]
      have k2 : B2.heap.size = n4 + 2 := by rw [← hB2]; simp; omega
      have k3 : B3.heap.size = n4 + 3 := by rw [← hB3]; simp; omega
      have k4 : B4.heap.size = n4 + 4 := by rw [← hB4]; simp; omega
      have fB1 : Still w4 B1 := hB1 ▸ (Fr.refl _ w4).alloc _
      have fB2 : Still B1 B2 := hB2 ▸ (Fr.refl _ B1).alloc _
      have fB3 : Still B2 B3 := hB3 ▸ (Fr.refl _ B2).alloc _
      have fB4 : Still B3 B4 := hB4 ▸ (Fr.refl _ B3).alloc _
      have fB34 : Still B2 B4 := fB3.trans' fB4 (fun _ x => x.elim)
      have fB24 : Still B1 B4 := fB2.trans' fB34 (fun _ x => x.elim)
      have fB14 : Still w4 B4 := fB1.trans' fB24 (fun _ x => x.elim)
      have f04 : Still wq B4 := fr4.trans' fB14 (fun _ x => x.elim)
      have bw4 : Box B4 n4 (.int .i64 x) := by
        have := Box.new w4 (.int .i64 x) 3
        rw [hB1, hn4] at this; exact this.kept fB24 (fun x => x)
      have ba4 : Box B4 (n4 + 1) (.int .i64 0) := by
        have := Box.new B1 (.int .i64 0) 3
        rw [hB2, k1] at this; exact this.kept fB34 (fun x => x)
      have bt4 : Box B4 (n4 + 2) (.bool tk) := by
        have := Box.new B2 (.bool tk) 4
        rw [hB3, k2] at this; exact this.kept fB4 (fun x => x)
      have bk4 : Box B4 (n4 + 3) (.int .i64 0) := by
        have := Box.new B3 (.int .i64 0) 3
        rw [hB4, k3] at this; exact this
      have lbl := S.cl.lt
      have BB : LsB w B4 n1 n2 hb (.slice ad ls.length cp) v11 ls ls n4 x 0 tk 0 := by
        have d1 := S.d1
        have d2 : ∀ k, (Value.slice ad ls.length cp).ownBlock = some k → n2 < k ∧ k < n4 := fun k hk => by
          have := S.d2 k hk; have := (S.rl.lt k hk).2; omega
        have d3 : ∀ k, v11.ownBlock = some k → n2 < k ∧ (Value.slice ad ls.length cp).ownBlock ≠ some k ∧ (k < n4 ∨ n4 + 3 < k) := fun k hk => by
          have h1 := own4 k hk
          refine ⟨by omega, fun e => ?_, .inl (by omega)⟩
          have := (S.rl.lt k e).2
          omega
        have rn : w4.ownsRow w.heap.size 39 2 v11 ls.length (pcells ls) := by simpa using M4.own
        exact ⟨S.ch.kept f04 (fun x => x), S.cl.kept f04 (fun x => x), row_still S.rl f04, row_still rn fB14, bw4, ba4, bt4, bk4, ⟨d1.1, d1.2, by omega, by omega⟩, d2, d3⟩
      have hcB : HpC w (LsZ hb n1 n2 (.slice ad ls.length cp) v11 n4) B4 hb sb b T A 2048 False s base := by
        refine S.hc.grow (F := fun _ => False) f04 (fun k hk => hk.elim) (fun x => x) (fun k hk => ?_) (.inl (.inl rfl))
        rcases hk with hk | hk | hk
        · exact .inl hk
        · exact .inr (by omega)
        · have := own4 k hk; exact .inr (by omega)
      have co4 := cell_of_obj oc4 1
      have cA : ∀ u v, ((w4.alloc u).alloc v).cell? ⟨wq.heap.size, 0, none⟩ = some (.int .i64 (z m).kd) := fun u v => by
        have f : Still w4 ((w4.alloc u).alloc v) := ((Fr.refl (fun _ => False) w4).alloc _).alloc _
        exact cell_of_obj (f.obj oc4 (fun x => x)) 0
      have cL : ∀ u v, ((w4.alloc u).alloc v).cell? ⟨n2, 0, none⟩ = some (.slice ad ls.length cp) := fun u v => by
        have f : Still w4 ((w4.alloc u).alloc v) := ((Fr.refl (fun _ => False) w4).alloc _).alloc _
        exact ((S.cl.kept fr4 (fun x => x)).kept f (fun x => x)).c
      have HS := hide S; have HBB := hide BB; have HHC := hide hcB; have HAP := hide hap; have HOC := hide oc4
      have HBW := hide (And.intro hB1 (And.intro hB2 (And.intro hB3 hB4)))
      have HNK := hide (And.intro hnil (And.intro hcp (And.intro lbl qf.size)))
      clear S BB hcB hap bw4 ba4 bt4 bk4 f04 fB14 fB24 fB34 fB4 fB3 fB2 fB1 k1 k2 k3 oc4 M4 own2 pcA g02 g2 g1 fr4 own4 qf q0 q1 q2 y2 hnil hcp hB1 hB2 hB3 hB4 lbl
      subst ea
      rcases (show (tk = true ∧ ls.length = 0) ∨ (tk = true ∧ ls.length ≠ 0 ∧ msk (z m).kd 1 = 0) ∨ (tk = false ∧ ls.length ≠ 0 ∧ msk (z m).kd 1 ≠ 0) by
        rw [htk]
        by_cases e1 : ls.length = 0
        · simp [e1]
        · by_cases e2 : msk (z m).kd 1 = 0
          · simp [e1, e2]
          · simp [e1, e2]) with ⟨etk, e1⟩ | ⟨etk, e1, e2⟩ | ⟨etk, e1, e2⟩
      · subst etk
        clear htk
        have e1' : (((ls.length : Nat) : Int) == 0) = true := by rw [e1]; rfl
        skip
        have DO := ls_do (unhide HHC) (unhide HS).st ls (unhide HS).li (pcs_of_row (unhide HBB).rl) (.inr (.inl (.inr (.inl rfl)))) ((unhide HBB).finds (unhide HHC) (unhide HS).st) hx1.1 (by omega) (fun h => by cases h) (by omega)
        have HDO := hide DO
        have HLX := hide (And.intro hx (And.intro lm (And.intro hlm e1)))
        have HE2 := hide hs
        clear hx lm hlm e1 hm25 DO
        try clear e2
        have hK4 := And.intro hn4 (And.intro k4 y4)
        have HK4 := hide hK4
        clear hn4 k4 y4 hK4
        obtain ⟨nl, hnl⟩ : ∃ nl, ls.length = nl := ⟨_, rfl⟩
        have HNL := hide hnl
        rw [hnl] at e1' cbl HAP
        simp only [hnl] at cL
        generalize msk (z m).i 127 = y at *
        generalize msk (z m).kd 1 = y0 at *
        clear hnl
        go_wp2_with (first | (at_builtin; refine wpList_append_run rfl (.tmp 56) (.tmp 57) 31 rfl _ _ rfl rfl v11 w4 (unhide HAP) ?_) | fail)
        rw [(unhide HBW).1, (unhide HBW).2.1, (unhide HBW).2.2.1, (unhide HBW).2.2.2, (unhide HK4).1]
        refine (unhide HDO).mono ?_
        clear HDO HAP cA cL cbl co4 e1' p0 p1 p2 HBW
        try clear e2'
        rintro e w5 ⟨fr5, at_, T5, A5, P5, ba5, out⟩
        have S5 := (unhide HBB).kept fr5 (fun k hk hne h => h.elim ((unhide HHC).hd.ap k hk) hne) ba5
        rcases out with ⟨rfl, hc5, st5, ⟨_, u, rfl, hu, li5⟩ | ⟨e, _⟩⟩ | ⟨rfl, hnf, hd5, lt5, nx5⟩ | ⟨rfl, _, rfl⟩
        · have pcN : PcsAt (w5.alloc (.cells #[.int .i64 (160 + (u : Int) * 8), .int .i64 (x : Nat)] 39)) (some ⟨w5.heap.size, 0, none⟩) [(u, x)] := by
            intro k y hy
            have hk : k = 0 := by have := (List.getElem?_eq_some_iff.1 hy).1; simp at this; exact this
            subst hk
            simp at hy
            subst hy
            exact ⟨_, _, rfl, cell_of_obj (heap_alloc_new w5 _) 0, cell_of_obj (heap_alloc_new w5 _) 1⟩
          obtain ⟨v6, w6, hap, M6⟩ := run_pcs (w5.alloc (.cells #[.int .i64 (160 + (u : Int) * 8), .int .i64 (x : Nat)] 39)) w.heap.size 31 v11 ls [(u, x)] (S5.rn.alloc _) _ 1 (fun e => by cases e) pcN (by have := (unhide HLX).2.2.1; simp; omega) (by have := hc5.hd.fr.size; simp; omega)
          obtain ⟨ad6, nn6, cp6, ev6⟩ : ∃ ad nn cp, v6 = .slice ad nn cp := by
            rcases row_formP M6.own with ⟨ev, _⟩ | ⟨gg, cp, ev⟩
            · exact ⟨_, _, _, ev⟩
            · exact ⟨_, _, _, ev⟩
          subst ev6
          have f6 : Fr (fun k => v11.ownBlock = some k) w5 w6 := ((Fr.refl (fun k => v11.ownBlock = some k) w5).alloc _).grown M6.gr (fun r e => .inl e)
          have d1 := S5.d1
          have cl6 : Box w6 n2 (.slice ad ls.length cp) := S5.cl.kept f6 (fun e => by have := S5.d3 _ e; omega)
          have f7 : Fr (fun k => k = n2 ∨ v11.ownBlock = some k) w5 (w6.setCell ⟨n2, 0, none⟩ (.slice ad6 nn6 cp6)) := (f6.mono (fun k hk => .inl (.inr hk))).setCell (.inl (.inl rfl)) _
          have rn7 : (w6.setCell ⟨n2, 0, none⟩ (.slice ad6 nn6 cp6)).ownsRow w.heap.size 39 2 (.slice ad6 nn6 cp6) (ls ++ [(u, x)]).length (pcells (ls ++ [(u, x)])) := row_kept M6.own (Fr.box w6 n2 (.slice ad6 nn6 cp6)) (fun k hk e => by
            have e : k = n2 := e
            subst e
            rcases M6.loc with h | h
            · rw [hk] at h; have := S5.d3 _ h.symm; omega
            · rw [hk] at h; have l5 := S5.cl.lt; have := Option.some.inj h; simp at this; omega)
          have NX := S5.next hc5 st5 li5 f7 (fun k hk => hk) (cl6.set (.slice ad6 nn6 cp6)) rn7 (fun k hk => by
            rcases M6.loc with h | h
            · left; rw [← h]; exact hk
            · right; rw [hk] at h; have := Option.some.inj h; simp at this; omega)
          have ct := S5.bt.c; have cw := S5.bw.c; have ca := S5.ba.c; have c6 := cl6.c; have z6 := cl6.z
          have HNX := hide NX; have HAP := hide hap
          have hat : ((0 : Int) < 160 + (u : Int) * 8) = True := by simp; omega
          clear NX hap M6 f6 f7 cl6 rn7 pcN S5 hc5 st5 li5 d1 fr5 ba5
          go_wp2_with (first | (at_builtin; refine wpList_append_run rfl (.tmp 98) (.tmp 102) 31 rfl _ _ rfl rfl (.slice ad6 nn6 cp6) w6 (unhide HAP) ?_) | fail)
          have hll := (unhide HLX).2.2.1
          refine ⟨⟨m + 1, ls ++ [(u, x)], (.slice ad6 nn6 cp6), T5, A5, s + 30729, homed P5 base, by omega, by omega, by go_num, by have := unhide HE2; omega, by simp; omega, unhide HNX⟩, by simp [intOf]; omega⟩
        · cases e
        · obtain ⟨nw5, le5, ⟨_, u, rfl, rfl⟩ | ⟨e, _⟩⟩ := LsNext.even (unhide HS).st (unhide HS).li (fun h => by cases h) nx5
          · have pcN : PcsAt (w5.alloc (.cells #[.int .i64 (160 + (u : Int) * 8), .int .i64 (x : Nat)] 39)) (some ⟨w5.heap.size, 0, none⟩) [(u, x)] := by
              intro k y hy
              have hk : k = 0 := by have := (List.getElem?_eq_some_iff.1 hy).1; simp at this; exact this
              subst hk
              simp at hy
              subst hy
              exact ⟨_, _, rfl, cell_of_obj (heap_alloc_new w5 _) 0, cell_of_obj (heap_alloc_new w5 _) 1⟩
            obtain ⟨v6, w6, hap, M6⟩ := run_pcs (w5.alloc (.cells #[.int .i64 (160 + (u : Int) * 8), .int .i64 (x : Nat)] 39)) w.heap.size 31 v11 ls [(u, x)] (S5.rn.alloc _) _ 1 (fun e => by cases e) pcN (by have := (unhide HLX).2.2.1; simp; omega) (by have := hd5.fr.size; simp; omega)
            obtain ⟨ad6, nn6, cp6, ev6⟩ : ∃ ad nn cp, v6 = .slice ad nn cp := by
              rcases row_formP M6.own with ⟨ev, _⟩ | ⟨gg, cp, ev⟩
              · exact ⟨_, _, _, ev⟩
              · exact ⟨_, _, _, ev⟩
            subst ev6
            have f6 : Fr (fun k => v11.ownBlock = some k) w5 w6 := ((Fr.refl (fun k => v11.ownBlock = some k) w5).alloc _).grown M6.gr (fun r e => .inl e)
            have MM := S5.gone hd5 hd5.st.few lt5 le5.f f6 (fun k hk => hk) M6.own (fun k hk => by
              rcases M6.loc with h | h
              · left; rw [← h]; exact hk
              · right; rw [hk] at h; have := Option.some.inj h; simp at this; omega)
            have ct := S5.bt.c; have cw := S5.bw.c; have ca := S5.ba.c
            have HMM := hide (show ∃ nw t, LsM w w6 b n2 (.slice ad ls.length cp) (.slice ad6 nn6 cp6) ls nw t ∧ t ≤ 900000 ∧ ls.length ≤ 1000 ∧ True from ⟨_, _, MM, by have := unhide HE2; omega, by have := (unhide HLX).2.2.1; omega, trivial⟩); have HAP := hide hap
            have hat : ((0 : Int) < 160 + (u : Int) * 8) = True := by simp; omega
            clear MM hap M6 f6 pcN S5 hd5 lt5 nx5 le5 fr5 ba5 HS HBB HHC HNL HLX HE2 HNK
            go_upto_region 28 with (first | (at_builtin; refine wpList_append_run rfl (.tmp 98) (.tmp 102) 31 rfl _ _ rfl rfl (.slice ad6 nn6 cp6) w6 (unhide HAP) ?_) | fail)
            clear hat ct cw ca HAP hnf
            (try clear hx'); (try clear hx1); (try clear em1); (try clear ek1); (try clear hi1); (try clear hl1); (try clear hl2); (try clear hA1); (try clear hA2); (try clear y1); (try clear HK4); (try clear HOC); (try clear HN); (try clear hm); (try clear hfu)
            as_aux_lemma =>
              obtain ⟨nw, t, M, ht, hll, hex⟩ := unhide HMM
              have PW := ls_power M (by omega) flip a3 len3 cap3 zk (unhide HL3) (unhide HKP)
              have HPW := hide PW; have HEX := hide hex
              clear PW M HMM hex
              go_wp2_with fail
              refine (unhide HPW).mono ?_
              clear HPW
              rintro e w7 ⟨rfl, PP⟩
              have HPP := hide (PP True)
              clear PP
              obtain ⟨nl, hnl⟩ : ∃ nl, ls.length = nl := ⟨_, rfl⟩
              go_wp2_with fail
              go_loopw [24, 25, 26] (fun iv tv ev wx => ∃ k : Nat, k ≤ len4 ∧ k ≤ 3 ∧ iv = .int .i64 k ∧ LsP w wx b n2 (.slice ad ls.length cp) (.slice ad6 nn6 cp6) ls nw (t + 50000 * k) True) (fun iv tv ev wx => 3 - (intOf iv).toNat)
              case atStart => exact ⟨0, by omega, by omega, rfl, by simpa using unhide HPP⟩
              case round =>
                clear HPP
                obtain ⟨k, hk1, hk3, rfl, PP⟩ := hrel
                generalize wr = wx at *
                clear wr
                by_cases hlt : k < len4 ∧ k < 3
                · obtain ⟨hl1', hl2'⟩ := hlt
                  obtain ⟨yb, yo, ea4, q4⟩ := unhide HZA k hl1'
                  have fr0 : Still w wx := by obtain ⟨L, A, _, _, _, _, D, _⟩ := PP; exact D.fr
                  have c4 := fr0.cell' q4 (fun x => x)
                  have FU := ls_fuse PP (za k) (unhide HZB k hl1')
                  have hk3' : ((k : Int) < 3) = True := by simp; omega
                  have HFU := hide FU
                  clear FU PP fr0 q4
                  subst ea4
                  go_wp2_with fail
                  refine (unhide HFU).mono ?_
                  clear HFU c4
                  rintro e w8 ⟨rfl, P8⟩
                  have OP := ls_open P8 (by omega)
                  have HOP := hide OP
                  clear OP P8
                  go_wp2_with fail
                  refine (unhide HOP).mono ?_
                  clear HOP
                  rintro e w9 (⟨sb9, rfl, S9⟩ | ⟨rfl, -, M9⟩)
                  · have HO := ls_heap S9 (unhide HT) (by omega)
                    have HHO := hide HO
                    clear HO S9
                    go_wp2_with fail
                    refine (unhide HHO).mono ?_
                    clear HHO
                    rintro e w10 (⟨hb10, rfl, G10⟩ | ⟨rfl, -, M10⟩)
                    · have PW := ls_power G10.m (by omega) flip a3 len3 cap3 zk (unhide HL3) (unhide HKP)
                      have HPW := hide PW
                      clear PW G10
                      go_wp2_with fail
                      refine (unhide HPW).mono ?_
                      clear HPW
                      rintro e w11 ⟨rfl, PP⟩
                      have HPP := hide ((PP True).le (t' := t + 50000 * ((k + 1 : Nat) : Int)) (by omega))
                      clear PP
                      go_wp2
                      exact ⟨⟨k + 1, by omega, by omega, by go_num, unhide HPP⟩, by simp [intOf]; omega⟩
                    · have PW := ls_power M10 (by omega) flip a3 len3 cap3 zk (unhide HL3) (unhide HKP)
                      have HPW := hide PW
                      clear PW M10
                      go_wp2_with fail
                      refine (unhide HPW).mono ?_
                      clear HPW
                      rintro e w11 ⟨rfl, PP⟩
                      have HPP := hide ((PP True).le (t' := t + 50000 * ((k + 1 : Nat) : Int)) (by omega))
                      clear PP
                      go_wp2
                      exact ⟨⟨k + 1, by omega, by omega, by go_num, unhide HPP⟩, by simp [intOf]; omega⟩
                  · have PW := ls_power M9 (by omega) flip a3 len3 cap3 zk (unhide HL3) (unhide HKP)
                    have HPW := hide PW
                    clear PW M9
                    go_wp2_with fail
                    refine (unhide HPW).mono ?_
                    clear HPW
                    rintro e w11 ⟨rfl, PP⟩
                    have HPP := hide ((PP True).le (t' := t + 50000 * ((k + 1 : Nat) : Int)) (by omega))
                    clear PP
                    go_wp2
                    exact ⟨⟨k + 1, by omega, by omega, by go_num, unhide HPP⟩, by simp [intOf]; omega⟩
                · have OP := ls_open PP (by omega)
                  have HOP := hide OP
                  clear OP PP
                  have hes := eq_nil_stor
                  rcases (show ¬ k < len4 ∨ (k < len4 ∧ k = 3) by omega) with h | ⟨h, h3'⟩
                  case' inl =>
                    have h' : ¬ (k : Int) < len4 := by omega
                    clear hlt h
                    go_wp2_with fail
                  case' inr =>
                    have hk3' : ((k : Int) < 3) = False := by simp; omega
                    clear hlt h3'
                    go_wp2_with fail
                  all_goals
                    refine (unhide HOP).mono ?_
                    clear HOP
                    rintro e w8 (⟨sb8, rfl, S8⟩ | ⟨_, hn, _⟩)
                    · have HO := ls_heap S8 (unhide HT) (by omega)
                      have HHO := hide HO
                      clear HO S8
                      go_wp2_with fail
                      refine (unhide HHO).mono ?_
                      clear HHO
                      rintro e w9 (⟨hb9, rfl, T9, A9, base9, s9, hc9, hs9, ⟨st9, lo9⟩, r9⟩ | ⟨_, hn, _⟩)
                      · have sy := hc9.says []
                        rw [homed_nil] at sy
                        have cl9 := r9.cl.c
                        have aw : ∀ w', Still w9 w' → Calls Tryz.prog 13 #[] w' fun e w'' => e = .returned (.bool true) ∧ Still w' w'' := fun w' f' => l8_awake w' (fun j hj => f'.cell' (hc9.hd.fr.cell' (unhide HT j hj) (fun x => x)) (fun x => x))
                        have HAW := @hide _ aw; have HF9 := hide hc9.hd.fr
                        clear aw
                        rcases lo9 with lo | ⟨lo, hne⟩
                        · have SO := l8_sound hc9.toHp (by rw [sy]; exact st9) ad cp ls (by rw [sy]; exact lo) (pcs_of_row r9.rl)
                          rw [hnl] at SO cl9
                          have HSO := hide SO
                          clear SO lo hc9 st9 sy r9
                          go_wp2_with fail
                          refine (unhide HSO).mono ?_
                          clear HSO cl9
                          rintro e w10 ⟨rfl, f10⟩
                          have AW := unhide HAW w10 f10
                          have HAW2 := hide AW; have HF10 := hide ((unhide HF9).trans' f10 (fun _ x => x.elim))
                          clear AW HAW f10
                          go_wp2_with fail
                          refine (unhide HAW2).mono ?_
                          clear HAW2
                          rintro e w11 ⟨rfl, f11⟩
                          have HF11 := hide ((unhide HF10).trans' f11 (fun _ x => x.elim))
                          clear f11 HF10
                          go_wp2
                          go_ret
                          exact ⟨rfl, (unhide HF11).below (Nat.le_refl _) (fun _ x => x.elim)⟩
                        · have NO := l8_sound_no hc9.toHp (by rw [sy]; exact st9) ad ls.length cp (by rw [sy, ← lo.len]; exact fun e => hne e.symm)
                          rw [hnl] at NO cl9
                          have rn9 : w9.ownsRow w.heap.size 39 2 (.slice ad6 nn6 cp6) nw.length (pcells nw) := r9.rn.resolve_left (fun e => hne (by rw [e]))
                          have en : nn6 = nw.length := by
                            rcases row_formP rn9 with ⟨ev, e0⟩ | ⟨gg, cp', ev⟩
                            · injection ev with _ ev _; omega
                            · injection ev
                          have SO : ∀ w', Still w9 w' → Calls Tryz.prog 17 #[ptr hb9, (.slice ad6 nn6 cp6), .int .i64 3824] w' fun e w'' => e = .returned (.bool true) ∧ Still w' w'' := fun w' f' => by
                            rw [en] at rn9 ⊢
                            exact l8_sound (hc9.still f').toHp (by rw [sy]; exact st9) ad6 cp6 nw (by rw [sy]; exact lo) ((pcs_of_row rn9).kept f')
                          have HNO := hide NO; have HSO := @hide _ SO
                          clear NO SO lo hc9 st9 sy r9 rn9 hne en
                          go_wp2_with fail
                          refine (unhide HNO).mono ?_
                          clear HNO cl9
                          rintro e w10 ⟨rfl, f10⟩
                          have SO := unhide HSO w10 f10
                          have HSO2 := hide SO; have HF10 := hide f10
                          clear SO HSO f10
                          go_wp2_with fail
                          refine (unhide HSO2).mono ?_
                          clear HSO2
                          rintro e w11 ⟨rfl, f11⟩
                          have f911 := (unhide HF10).trans' f11 (fun _ x => x.elim)
                          have AW := unhide HAW w11 f911
                          have HAW2 := hide AW; have HF11 := hide ((unhide HF9).trans' f911 (fun _ x => x.elim))
                          clear AW HAW f11 f911 HF10
                          go_wp2_with fail
                          refine (unhide HAW2).mono ?_
                          clear HAW2
                          rintro e w12 ⟨rfl, f12⟩
                          have HF12 := hide ((unhide HF11).trans' f12 (fun _ x => x.elim))
                          clear f12 HF11
                          go_wp2
                          go_ret
                          exact ⟨rfl, (unhide HF12).below (Nat.le_refl _) (fun _ x => x.elim)⟩
                      · exact absurd trivial hn
                    · exact absurd trivial hn
          · cases e
        · have ct := S5.bt.c; have ca := S5.ba.c
          have AW := l8_awake w5 (fun j hj => fr5.cell' ((unhide HBB).ch.lt |> fun _ => (unhide HHC).hd.fr.cell' (unhide HT j hj) (fun x => x)) (fun e => by
            have l0 := (unhide HHC).l0
            rcases e with e | e
            · have := (unhide HHC).hd.new 0 e; omega
            · have e : 0 = n4 + 1 := e
              omega))
          have fT : Still w w5 := (unhide HHC).hd.fr.trans' fr5 (fun k hk => .inr (hk.elim ((unhide HHC).hd.new k) (fun e => by rw [e]; exact ((unhide HHC).hd.xl _ (.inr (.inl (.inr (.inl rfl))))).1)))
          have HAW := hide AW; have HFT := hide fT
          clear AW fT S5 fr5 ba5 HS HBB HHC HNL HLX HE2 HNK
          go_wp2_with fail
          refine (unhide HAW).mono ?_
          clear HAW
          rintro e w6 ⟨rfl, f6⟩
          have HF := hide ((unhide HFT).trans' f6 (fun _ x => x.elim))
          clear f6 HFT
          go_wp2
          go_ret
          exact ⟨rfl, (unhide HF).below (Nat.le_refl _) (fun _ x => x.elim)⟩
      · subst etk
        clear htk
        have e1' : (((ls.length : Nat) : Int) == 0) = false := by rw [beq_eq_false_iff_ne]; omega
        have e2' : (((msk (z m).kd 1 : Nat) : Int) == 0) = true := by rw [e2]; rfl
        have DO := ls_do (unhide HHC) (unhide HS).st ls (unhide HS).li (pcs_of_row (unhide HBB).rl) (.inr (.inl (.inr (.inl rfl)))) ((unhide HBB).finds (unhide HHC) (unhide HS).st) hx1.1 (by omega) (fun h => by cases h) (by omega)
        have HDO := hide DO
        have HLX := hide (And.intro hx (And.intro lm (And.intro hlm e1)))
        have HE2 := hide hs
        clear hx lm hlm e1 hm25 DO
        try clear e2
        have hK4 := And.intro hn4 (And.intro k4 y4)
        have HK4 := hide hK4
        clear hn4 k4 y4 hK4
        obtain ⟨nl, hnl⟩ : ∃ nl, ls.length = nl := ⟨_, rfl⟩
        have HNL := hide hnl
        rw [hnl] at e1' cbl HAP
        simp only [hnl] at cL
        generalize msk (z m).i 127 = y at *
        generalize msk (z m).kd 1 = y0 at *
        clear hnl
        go_wp2_with (first | (at_builtin; refine wpList_append_run rfl (.tmp 56) (.tmp 57) 31 rfl _ _ rfl rfl v11 w4 (unhide HAP) ?_) | fail)
        rw [(unhide HBW).1, (unhide HBW).2.1, (unhide HBW).2.2.1, (unhide HBW).2.2.2, (unhide HK4).1]
        refine (unhide HDO).mono ?_
        clear HDO HAP cA cL cbl co4 e1' p0 p1 p2 HBW
        try clear e2'
        rintro e w5 ⟨fr5, at_, T5, A5, P5, ba5, out⟩
        have S5 := (unhide HBB).kept fr5 (fun k hk hne h => h.elim ((unhide HHC).hd.ap k hk) hne) ba5
        rcases out with ⟨rfl, hc5, st5, ⟨_, u, rfl, hu, li5⟩ | ⟨e, _⟩⟩ | ⟨rfl, hnf, hd5, lt5, nx5⟩ | ⟨rfl, _, rfl⟩
        · have pcN : PcsAt (w5.alloc (.cells #[.int .i64 (160 + (u : Int) * 8), .int .i64 (x : Nat)] 39)) (some ⟨w5.heap.size, 0, none⟩) [(u, x)] := by
            intro k y hy
            have hk : k = 0 := by have := (List.getElem?_eq_some_iff.1 hy).1; simp at this; exact this
            subst hk
            simp at hy
            subst hy
            exact ⟨_, _, rfl, cell_of_obj (heap_alloc_new w5 _) 0, cell_of_obj (heap_alloc_new w5 _) 1⟩
          obtain ⟨v6, w6, hap, M6⟩ := run_pcs (w5.alloc (.cells #[.int .i64 (160 + (u : Int) * 8), .int .i64 (x : Nat)] 39)) w.heap.size 31 v11 ls [(u, x)] (S5.rn.alloc _) _ 1 (fun e => by cases e) pcN (by have := (unhide HLX).2.2.1; simp; omega) (by have := hc5.hd.fr.size; simp; omega)
          obtain ⟨ad6, nn6, cp6, ev6⟩ : ∃ ad nn cp, v6 = .slice ad nn cp := by
            rcases row_formP M6.own with ⟨ev, _⟩ | ⟨gg, cp, ev⟩
            · exact ⟨_, _, _, ev⟩
            · exact ⟨_, _, _, ev⟩
          subst ev6
          have f6 : Fr (fun k => v11.ownBlock = some k) w5 w6 := ((Fr.refl (fun k => v11.ownBlock = some k) w5).alloc _).grown M6.gr (fun r e => .inl e)
          have d1 := S5.d1
          have cl6 : Box w6 n2 (.slice ad ls.length cp) := S5.cl.kept f6 (fun e => by have := S5.d3 _ e; omega)
          have f7 : Fr (fun k => k = n2 ∨ v11.ownBlock = some k) w5 (w6.setCell ⟨n2, 0, none⟩ (.slice ad6 nn6 cp6)) := (f6.mono (fun k hk => .inl (.inr hk))).setCell (.inl (.inl rfl)) _
          have rn7 : (w6.setCell ⟨n2, 0, none⟩ (.slice ad6 nn6 cp6)).ownsRow w.heap.size 39 2 (.slice ad6 nn6 cp6) (ls ++ [(u, x)]).length (pcells (ls ++ [(u, x)])) := row_kept M6.own (Fr.box w6 n2 (.slice ad6 nn6 cp6)) (fun k hk e => by
            have e : k = n2 := e
            subst e
            rcases M6.loc with h | h
            · rw [hk] at h; have := S5.d3 _ h.symm; omega
            · rw [hk] at h; have l5 := S5.cl.lt; have := Option.some.inj h; simp at this; omega)
          have NX := S5.next hc5 st5 li5 f7 (fun k hk => hk) (cl6.set (.slice ad6 nn6 cp6)) rn7 (fun k hk => by
            rcases M6.loc with h | h
            · left; rw [← h]; exact hk
            · right; rw [hk] at h; have := Option.some.inj h; simp at this; omega)
          have ct := S5.bt.c; have cw := S5.bw.c; have ca := S5.ba.c; have c6 := cl6.c; have z6 := cl6.z
          have HNX := hide NX; have HAP := hide hap
          have hat : ((0 : Int) < 160 + (u : Int) * 8) = True := by simp; omega
          clear NX hap M6 f6 f7 cl6 rn7 pcN S5 hc5 st5 li5 d1 fr5 ba5
          go_wp2_with (first | (at_builtin; refine wpList_append_run rfl (.tmp 98) (.tmp 102) 31 rfl _ _ rfl rfl (.slice ad6 nn6 cp6) w6 (unhide HAP) ?_) | fail)
          have hll := (unhide HLX).2.2.1
          refine ⟨⟨m + 1, ls ++ [(u, x)], (.slice ad6 nn6 cp6), T5, A5, s + 30729, homed P5 base, by omega, by omega, by go_num, by have := unhide HE2; omega, by simp; omega, unhide HNX⟩, by simp [intOf]; omega⟩
        · cases e
        · obtain ⟨nw5, le5, ⟨_, u, rfl, rfl⟩ | ⟨e, _⟩⟩ := LsNext.even (unhide HS).st (unhide HS).li (fun h => by cases h) nx5
          · have pcN : PcsAt (w5.alloc (.cells #[.int .i64 (160 + (u : Int) * 8), .int .i64 (x : Nat)] 39)) (some ⟨w5.heap.size, 0, none⟩) [(u, x)] := by
              intro k y hy
              have hk : k = 0 := by have := (List.getElem?_eq_some_iff.1 hy).1; simp at this; exact this
              subst hk
              simp at hy
              subst hy
              exact ⟨_, _, rfl, cell_of_obj (heap_alloc_new w5 _) 0, cell_of_obj (heap_alloc_new w5 _) 1⟩
            obtain ⟨v6, w6, hap, M6⟩ := run_pcs (w5.alloc (.cells #[.int .i64 (160 + (u : Int) * 8), .int .i64 (x : Nat)] 39)) w.heap.size 31 v11 ls [(u, x)] (S5.rn.alloc _) _ 1 (fun e => by cases e) pcN (by have := (unhide HLX).2.2.1; simp; omega) (by have := hd5.fr.size; simp; omega)
            obtain ⟨ad6, nn6, cp6, ev6⟩ : ∃ ad nn cp, v6 = .slice ad nn cp := by
              rcases row_formP M6.own with ⟨ev, _⟩ | ⟨gg, cp, ev⟩
              · exact ⟨_, _, _, ev⟩
              · exact ⟨_, _, _, ev⟩
            subst ev6
            have f6 : Fr (fun k => v11.ownBlock = some k) w5 w6 := ((Fr.refl (fun k => v11.ownBlock = some k) w5).alloc _).grown M6.gr (fun r e => .inl e)
            have MM := S5.gone hd5 hd5.st.few lt5 le5.f f6 (fun k hk => hk) M6.own (fun k hk => by
              rcases M6.loc with h | h
              · left; rw [← h]; exact hk
              · right; rw [hk] at h; have := Option.some.inj h; simp at this; omega)
            have ct := S5.bt.c; have cw := S5.bw.c; have ca := S5.ba.c
            have HMM := hide (show ∃ nw t, LsM w w6 b n2 (.slice ad ls.length cp) (.slice ad6 nn6 cp6) ls nw t ∧ t ≤ 900000 ∧ ls.length ≤ 1000 ∧ True from ⟨_, _, MM, by have := unhide HE2; omega, by have := (unhide HLX).2.2.1; omega, trivial⟩); have HAP := hide hap
            have hat : ((0 : Int) < 160 + (u : Int) * 8) = True := by simp; omega
            clear MM hap M6 f6 pcN S5 hd5 lt5 nx5 le5 fr5 ba5 HS HBB HHC HNL HLX HE2 HNK
            go_upto_region 28 with (first | (at_builtin; refine wpList_append_run rfl (.tmp 98) (.tmp 102) 31 rfl _ _ rfl rfl (.slice ad6 nn6 cp6) w6 (unhide HAP) ?_) | fail)
            clear hat ct cw ca HAP hnf
            (try clear hx'); (try clear hx1); (try clear em1); (try clear ek1); (try clear hi1); (try clear hl1); (try clear hl2); (try clear hA1); (try clear hA2); (try clear y1); (try clear HK4); (try clear HOC); (try clear HN); (try clear hm); (try clear hfu)
            as_aux_lemma =>
              obtain ⟨nw, t, M, ht, hll, hex⟩ := unhide HMM
              have PW := ls_power M (by omega) flip a3 len3 cap3 zk (unhide HL3) (unhide HKP)
              have HPW := hide PW; have HEX := hide hex
              clear PW M HMM hex
              go_wp2_with fail
              refine (unhide HPW).mono ?_
              clear HPW
              rintro e w7 ⟨rfl, PP⟩
              have HPP := hide (PP True)
              clear PP
              obtain ⟨nl, hnl⟩ : ∃ nl, ls.length = nl := ⟨_, rfl⟩
              go_wp2_with fail
              go_loopw [24, 25, 26] (fun iv tv ev wx => ∃ k : Nat, k ≤ len4 ∧ k ≤ 3 ∧ iv = .int .i64 k ∧ LsP w wx b n2 (.slice ad ls.length cp) (.slice ad6 nn6 cp6) ls nw (t + 50000 * k) True) (fun iv tv ev wx => 3 - (intOf iv).toNat)
              case atStart => exact ⟨0, by omega, by omega, rfl, by simpa using unhide HPP⟩
              case round =>
                clear HPP
                obtain ⟨k, hk1, hk3, rfl, PP⟩ := hrel
                generalize wr = wx at *
                clear wr
                by_cases hlt : k < len4 ∧ k < 3
                · obtain ⟨hl1', hl2'⟩ := hlt
                  obtain ⟨yb, yo, ea4, q4⟩ := unhide HZA k hl1'
                  have fr0 : Still w wx := by obtain ⟨L, A, _, _, _, _, D, _⟩ := PP; exact D.fr
                  have c4 := fr0.cell' q4 (fun x => x)
                  have FU := ls_fuse PP (za k) (unhide HZB k hl1')
                  have hk3' : ((k : Int) < 3) = True := by simp; omega
                  have HFU := hide FU
                  clear FU PP fr0 q4
                  subst ea4
                  go_wp2_with fail
                  refine (unhide HFU).mono ?_
                  clear HFU c4
                  rintro e w8 ⟨rfl, P8⟩
                  have OP := ls_open P8 (by omega)
                  have HOP := hide OP
                  clear OP P8
                  go_wp2_with fail
                  refine (unhide HOP).mono ?_
                  clear HOP
                  rintro e w9 (⟨sb9, rfl, S9⟩ | ⟨rfl, -, M9⟩)
                  · have HO := ls_heap S9 (unhide HT) (by omega)
                    have HHO := hide HO
                    clear HO S9
                    go_wp2_with fail
                    refine (unhide HHO).mono ?_
                    clear HHO
                    rintro e w10 (⟨hb10, rfl, G10⟩ | ⟨rfl, -, M10⟩)
                    · have PW := ls_power G10.m (by omega) flip a3 len3 cap3 zk (unhide HL3) (unhide HKP)
                      have HPW := hide PW
                      clear PW G10
                      go_wp2_with fail
                      refine (unhide HPW).mono ?_
                      clear HPW
                      rintro e w11 ⟨rfl, PP⟩
                      have HPP := hide ((PP True).le (t' := t + 50000 * ((k + 1 : Nat) : Int)) (by omega))
                      clear PP
                      go_wp2
                      exact ⟨⟨k + 1, by omega, by omega, by go_num, unhide HPP⟩, by simp [intOf]; omega⟩
                    · have PW := ls_power M10 (by omega) flip a3 len3 cap3 zk (unhide HL3) (unhide HKP)
                      have HPW := hide PW
                      clear PW M10
                      go_wp2_with fail
                      refine (unhide HPW).mono ?_
                      clear HPW
                      rintro e w11 ⟨rfl, PP⟩
                      have HPP := hide ((PP True).le (t' := t + 50000 * ((k + 1 : Nat) : Int)) (by omega))
                      clear PP
                      go_wp2
                      exact ⟨⟨k + 1, by omega, by omega, by go_num, unhide HPP⟩, by simp [intOf]; omega⟩
                  · have PW := ls_power M9 (by omega) flip a3 len3 cap3 zk (unhide HL3) (unhide HKP)
                    have HPW := hide PW
                    clear PW M9
                    go_wp2_with fail
                    refine (unhide HPW).mono ?_
                    clear HPW
                    rintro e w11 ⟨rfl, PP⟩
                    have HPP := hide ((PP True).le (t' := t + 50000 * ((k + 1 : Nat) : Int)) (by omega))
                    clear PP
                    go_wp2
                    exact ⟨⟨k + 1, by omega, by omega, by go_num, unhide HPP⟩, by simp [intOf]; omega⟩
                · have OP := ls_open PP (by omega)
                  have HOP := hide OP
                  clear OP PP
                  have hes := eq_nil_stor
                  rcases (show ¬ k < len4 ∨ (k < len4 ∧ k = 3) by omega) with h | ⟨h, h3'⟩
                  case' inl =>
                    have h' : ¬ (k : Int) < len4 := by omega
                    clear hlt h
                    go_wp2_with fail
                  case' inr =>
                    have hk3' : ((k : Int) < 3) = False := by simp; omega
                    clear hlt h3'
                    go_wp2_with fail
                  all_goals
                    refine (unhide HOP).mono ?_
                    clear HOP
                    rintro e w8 (⟨sb8, rfl, S8⟩ | ⟨_, hn, _⟩)
                    · have HO := ls_heap S8 (unhide HT) (by omega)
                      have HHO := hide HO
                      clear HO S8
                      go_wp2_with fail
                      refine (unhide HHO).mono ?_
                      clear HHO
                      rintro e w9 (⟨hb9, rfl, T9, A9, base9, s9, hc9, hs9, ⟨st9, lo9⟩, r9⟩ | ⟨_, hn, _⟩)
                      · have sy := hc9.says []
                        rw [homed_nil] at sy
                        have cl9 := r9.cl.c
                        have aw : ∀ w', Still w9 w' → Calls Tryz.prog 13 #[] w' fun e w'' => e = .returned (.bool true) ∧ Still w' w'' := fun w' f' => l8_awake w' (fun j hj => f'.cell' (hc9.hd.fr.cell' (unhide HT j hj) (fun x => x)) (fun x => x))
                        have HAW := @hide _ aw; have HF9 := hide hc9.hd.fr
                        clear aw
                        rcases lo9 with lo | ⟨lo, hne⟩
                        · have SO := l8_sound hc9.toHp (by rw [sy]; exact st9) ad cp ls (by rw [sy]; exact lo) (pcs_of_row r9.rl)
                          rw [hnl] at SO cl9
                          have HSO := hide SO
                          clear SO lo hc9 st9 sy r9
                          go_wp2_with fail
                          refine (unhide HSO).mono ?_
                          clear HSO cl9
                          rintro e w10 ⟨rfl, f10⟩
                          have AW := unhide HAW w10 f10
                          have HAW2 := hide AW; have HF10 := hide ((unhide HF9).trans' f10 (fun _ x => x.elim))
                          clear AW HAW f10
                          go_wp2_with fail
                          refine (unhide HAW2).mono ?_
                          clear HAW2
                          rintro e w11 ⟨rfl, f11⟩
                          have HF11 := hide ((unhide HF10).trans' f11 (fun _ x => x.elim))
                          clear f11 HF10
                          go_wp2
                          go_ret
                          exact ⟨rfl, (unhide HF11).below (Nat.le_refl _) (fun _ x => x.elim)⟩
                        · have NO := l8_sound_no hc9.toHp (by rw [sy]; exact st9) ad ls.length cp (by rw [sy, ← lo.len]; exact fun e => hne e.symm)
                          rw [hnl] at NO cl9
                          have rn9 : w9.ownsRow w.heap.size 39 2 (.slice ad6 nn6 cp6) nw.length (pcells nw) := r9.rn.resolve_left (fun e => hne (by rw [e]))
                          have en : nn6 = nw.length := by
                            rcases row_formP rn9 with ⟨ev, e0⟩ | ⟨gg, cp', ev⟩
                            · injection ev with _ ev _; omega
                            · injection ev
                          have SO : ∀ w', Still w9 w' → Calls Tryz.prog 17 #[ptr hb9, (.slice ad6 nn6 cp6), .int .i64 3824] w' fun e w'' => e = .returned (.bool true) ∧ Still w' w'' := fun w' f' => by
                            rw [en] at rn9 ⊢
                            exact l8_sound (hc9.still f').toHp (by rw [sy]; exact st9) ad6 cp6 nw (by rw [sy]; exact lo) ((pcs_of_row rn9).kept f')
                          have HNO := hide NO; have HSO := @hide _ SO
                          clear NO SO lo hc9 st9 sy r9 rn9 hne en
                          go_wp2_with fail
                          refine (unhide HNO).mono ?_
                          clear HNO cl9
                          rintro e w10 ⟨rfl, f10⟩
                          have SO := unhide HSO w10 f10
                          have HSO2 := hide SO; have HF10 := hide f10
                          clear SO HSO f10
                          go_wp2_with fail
                          refine (unhide HSO2).mono ?_
                          clear HSO2
                          rintro e w11 ⟨rfl, f11⟩
                          have f911 := (unhide HF10).trans' f11 (fun _ x => x.elim)
                          have AW := unhide HAW w11 f911
                          have HAW2 := hide AW; have HF11 := hide ((unhide HF9).trans' f911 (fun _ x => x.elim))
                          clear AW HAW f11 f911 HF10
                          go_wp2_with fail
                          refine (unhide HAW2).mono ?_
                          clear HAW2
                          rintro e w12 ⟨rfl, f12⟩
                          have HF12 := hide ((unhide HF11).trans' f12 (fun _ x => x.elim))
                          clear f12 HF11
                          go_wp2
                          go_ret
                          exact ⟨rfl, (unhide HF12).below (Nat.le_refl _) (fun _ x => x.elim)⟩
                      · exact absurd trivial hn
                    · exact absurd trivial hn
          · cases e
        · have ct := S5.bt.c; have ca := S5.ba.c
          have AW := l8_awake w5 (fun j hj => fr5.cell' ((unhide HBB).ch.lt |> fun _ => (unhide HHC).hd.fr.cell' (unhide HT j hj) (fun x => x)) (fun e => by
            have l0 := (unhide HHC).l0
            rcases e with e | e
            · have := (unhide HHC).hd.new 0 e; omega
            · have e : 0 = n4 + 1 := e
              omega))
          have fT : Still w w5 := (unhide HHC).hd.fr.trans' fr5 (fun k hk => .inr (hk.elim ((unhide HHC).hd.new k) (fun e => by rw [e]; exact ((unhide HHC).hd.xl _ (.inr (.inl (.inr (.inl rfl))))).1)))
          have HAW := hide AW; have HFT := hide fT
          clear AW fT S5 fr5 ba5 HS HBB HHC HNL HLX HE2 HNK
          go_wp2_with fail
          refine (unhide HAW).mono ?_
          clear HAW
          rintro e w6 ⟨rfl, f6⟩
          have HF := hide ((unhide HFT).trans' f6 (fun _ x => x.elim))
          clear f6 HFT
          go_wp2
          go_ret
          exact ⟨rfl, (unhide HF).below (Nat.le_refl _) (fun _ x => x.elim)⟩
      · subst etk
        clear htk
        have hlen : 0 < ls.length := by omega
        obtain ⟨kq, hkq⟩ : ∃ kq, msk (z m).i 65535 % ls.length = kq := ⟨_, rfl⟩
        have hkl : kq < ls.length := by rw [← hkq]; exact Nat.mod_lt _ hlen
        have S := unhide HS
        have BB5 := (unhide HBB).pick kq
        obtain ⟨B5, hB5⟩ : ∃ B5, B4.setCell ⟨n4 + 3, 0, none⟩ (.int .i64 kq) = B5 := ⟨_, rfl⟩
        rw [hB5] at BB5
        have fB5 : Fr (fun k => k = n4 + 3) B4 B5 := hB5 ▸ Fr.box B4 (n4 + 3) _
        have k5 : B5.heap.size = n4 + 4 := by rw [← hB5]; simp; exact k4
        have hc5 : HpC w (LsZ hb n1 n2 (.slice ad ls.length cp) v11 n4) B5 hb sb b T A 2048 False s base := (unhide HHC).var fB5 (fun k hk => by have hk : k = n4 + 3 := hk; subst hk; exact .inr (.inl (.inr (.inr (.inr rfl))))) (fun e => by have d1 := (unhide HBB).d1; have e : hb = n4 + 3 := e; omega)
        obtain ⟨hnil, hcp, lbl, qfs⟩ := unhide HNK
        have qs5 : w.heap.size ≤ B5.heap.size := hc5.hd.fr.size
        obtain ⟨v6, w6, v7, w7, h84, h89, f6, f7, own7, l7⟩ := run_but B5.drew w.heap.size B5.heap.size ls ad cp kq hnil ((pcs_of_row BB5.rl).kept ((Fr.refl (fun _ => False) B5).drewN 1)) hkl hcp (by omega) qs5 rfl
        obtain ⟨ad6, nn6, cp6, ev6⟩ : ∃ ad nn cp, v7 = .slice ad nn cp := by
          rcases row_formP own7 with ⟨ev, _⟩ | ⟨gg, cp, ev⟩
          · exact ⟨_, _, _, ev⟩
          · exact ⟨_, _, _, ev⟩
        subst ev6
        have f56 : Still B5 w6 := ((Fr.refl (fun _ => False) B5).drewN 1).trans' f6 (fun _ x => x.elim)
        have f57 : Still B5 w7 := ((Fr.refl (fun _ => False) B5).drewN 1).trans' f7 (fun _ x => x.elim)
        have BB7 : LsB w w7 n1 n2 hb (.slice ad ls.length cp) (.slice ad6 nn6 cp6) ls (ls.eraseIdx kq) n4 x kq false 0 := by
          have B := BB5.still f57
          have d1 := BB5.d1
          refine { B with rn := own7, d3 := fun k hk => ?_ }
          have h1 : n4 + 4 ≤ k := by rw [← k5]; exact l7 k hk
          exact ⟨by omega, fun e => by have := BB5.d2 k e; omega, .inr (by omega)⟩
        have hc7 : HpC w (LsZ hb n1 n2 (.slice ad ls.length cp) (.slice ad6 nn6 cp6) n4) w7 hb sb b T A 2048 False s base := by
          refine hc5.grow (F := fun _ => False) f57 (fun k hk => hk.elim) (fun x => x) (fun k hk => ?_) (.inl (.inl rfl))
          rcases hk with hk | hk | hk
          · exact .inl (.inl hk)
          · exact .inl (.inr (.inl hk))
          · exact .inr ⟨l7 k hk, (own7.lt k hk).2⟩
        have DO := ls_do hc7 S.st ls S.li (pcs_of_row BB7.rl) (.inr (.inl (.inr (.inl rfl)))) (BB7.finds hc7 S.st) hx1.1 (by omega) (fun _ => hkl) (by omega)
        have cl5 := BB5.cl.c
        have ck5 := BB5.bk.c
        have cl6 : w6.cell? ⟨n2, 0, none⟩ = some (.slice ad ls.length cp) := (BB5.cl.kept f56 (fun x => x)).c
        have ck6 : w6.cell? ⟨n4 + 3, 0, none⟩ = some (.int .i64 kq) := (BB5.bk.kept f56 (fun x => x)).c
        have cl7 : w7.cell? ⟨n2, 0, none⟩ = some (.slice ad ls.length cp) := (BB5.cl.kept f57 (fun x => x)).c
        have ck7 : w7.cell? ⟨n4 + 3, 0, none⟩ = some (.int .i64 kq) := (BB5.bk.kept f57 (fun x => x)).c
        have e65 : bits .and .i64 (z m).i 65535 = ((msk (z m).i 65535 : Nat) : Int) := mask_i64 _ 65535 (by omega)
        have lm5 := msk_le (z m).i 65535
        have hkk : ((msk (z m).i 65535 : Nat) : Int) % (ls.length : Nat) = (kq : Int) := by omega
        have hl0' : ¬ ((ls.length : Nat) : Int) = 0 := by omega
        have s1 := fun w => slice_toP ad ls.length cp kq w (by omega)
        have s2 : ∀ w, (Instr.slice 31 (.slice ad ls.length cp) (some (.int .i64 ((kq : Int) + 1))) none none).run Tryz.prog w = .ok (.slice (cutP ad cp (kq + 1)) (ls.length - (kq + 1)) (cp - (kq + 1))) w := fun w => slice_fromP ad ls.length cp (kq + 1) w (by omega)
        have hk4 : kq ≤ 1000 := by omega
        have hw1 : IntKind.i64.wrap ((kq : Int) + 1) = (kq : Int) + 1 := (wrap_small _ (by omega) (by omega)).1
        have oc17 : B4.cell? ⟨wq.heap.size, 1, none⟩ = some (.int .i64 (z m).i) := by
          have fB14 : Still w4 B4 := by
            obtain ⟨hB1, hB2, hB3, hB4⟩ := unhide HBW
            rw [← hB4, ← hB3, ← hB2, ← hB1]
            exact ((((Fr.refl (fun _ => False) w4).alloc _).alloc _).alloc _).alloc _
          exact cell_of_obj (fB14.obj (unhide HOC) (fun x => x)) 1
        have cl17 := (unhide HBB).cl.c
        have ck17 := (unhide HBB).bk.c
        have zk17 := (unhide HBB).bk.z
        have e1' : (((ls.length : Nat) : Int) == 0) = false := by rw [beq_eq_false_iff_ne]; omega
        have e2' : (((msk (z m).kd 1 : Nat) : Int) == 0) = false := by rw [beq_eq_false_iff_ne]; omega
        have H84 := hide h84; have H89 := hide h89; have HDO := hide DO; have HB7 := hide (And.intro BB7 hc7); have HB5 := hide hB5
        have HLX := hide (And.intro hlm (And.intro hkl hs))
        clear DO S BB5 BB7 hc5 hc7 h84 h89 f6 f7 own7 l7 f56 f57 fB5 k5 hx lm hlm e1 e2 hm25 hkq hkl lm5 hnil hcp lbl qfs qs5 hlen hB5
        have hK4 := And.intro hn4 (And.intro k4 y4)
        have HK4 := hide hK4
        clear hn4 k4 y4 hK4
        generalize msk (z m).i 65535 = mq at *
        generalize ls.length - (kq + 1) = rq at *
        obtain ⟨nl, hnl⟩ : ∃ nl, ls.length = nl := ⟨_, rfl⟩
        have HNL := hide hnl
        rw [hnl] at e1' cbl HAP cl5 cl6 cl7 hkk hl0' cl17
        simp only [hnl] at cL s1 s2
        generalize cutP ad cp (kq + 1) = aq at *
        generalize cp - (kq + 1) = cq at *
        generalize msk (z m).i 127 = y at *
        generalize msk (z m).kd 1 = y0 at *
        clear hnl
        go_upto_region 17 with (first | (at_builtin; refine wpList_append_run rfl (.tmp 56) (.tmp 57) 31 rfl _ _ rfl rfl v11 w4 (unhide HAP) ?_) | fail)
        rw [(unhide HBW).1, (unhide HBW).2.1, (unhide HBW).2.2.1, (unhide HBW).2.2.2, (unhide HK4).1, show n4 + 1 + 1 + 1 = n4 + 3 from rfl, show n4 + 1 + 1 = n4 + 2 from rfl]
        clear cA cL cbl co4 e1' e2' p0 p1 p2 HBW HAP
        go_upto_region 18 with fail
        rw [unhide HB5]
        clear oc17 cl17 ck17 zk17 hkk e65 HB5
        go_region_held_law (fun w' => w'.cell? ⟨n2, 0, none⟩ = some (.slice ad nl cp) ∧ w'.cell? ⟨n4 + 3, 0, none⟩ = some (.int .i64 kq)) (first | go_keep | (exact ⟨cl6, ck6⟩) | (exact ⟨cl7, ck7⟩)) (first | (refine step_append_run rfl (.tmp 80) (.tmp 83) 31 rfl _ _ rfl rfl v6 w6 (unhide H84) ?_) | (refine step_append_run rfl (.tmp 84) (.tmp 88) 31 rfl _ _ rfl rfl (.slice ad6 nn6 cp6) w7 (unhide H89) ?_))
        all_goals
          as_aux_lemma =>
            clear H84 H89 cl5 ck5 cl6 ck6 cl7 ck7 s1 s2
            go_wp2_with fail
            refine (unhide HDO).mono ?_
            clear HDO
            rintro e w8 ⟨fr8, at_, T8, A8, P8, ba8, out⟩
            have S8 := (unhide HB7).1.kept fr8 (fun k hk hne h => h.elim ((unhide HB7).2.hd.ap k hk) hne) ba8
            rcases out with ⟨rfl, hc8, st8, ⟨e, _⟩ | ⟨_, rfl, li8⟩⟩ | ⟨rfl, hnf, hd8, lt8, nx8⟩ | ⟨_, e, _⟩
            · cases e
            · have d1 := S8.d1
              have f9 : Fr (fun k => k = n2) w8 (w8.setCell ⟨n2, 0, none⟩ (.slice ad6 nn6 cp6)) := Fr.box w8 n2 _
              have NX := S8.next hc8 st8 li8 f9 (fun k hk => .inl hk) (S8.cl.set _) (row_kept S8.rn f9 (fun k hk e => by have e : k = n2 := e; have := S8.d3 k hk; omega)) (fun k hk => .inl hk)
              have ct := S8.bt.c; have c9 := S8.cl.c; have z9 := S8.cl.z
              have HNX := hide NX
              clear NX f9 S8 hc8 st8 li8 d1 fr8 ba8
              go_wp2
              obtain ⟨hll, hkl, hs⟩ := unhide HLX
              refine ⟨⟨m + 1, ls.eraseIdx kq, .slice ad6 nn6 cp6, T8, A8, s + 30729, homed P8 base, by omega, by omega, by go_num, by omega, by have := List.length_eraseIdx_le ls kq; omega, unhide HNX⟩, by simp [intOf]; omega⟩
            · obtain ⟨nw5, le5, ⟨e, _⟩ | ⟨_, rfl, rfl⟩⟩ := LsNext.even (unhide HS).st (unhide HS).li (fun _ => (unhide HLX).2.1) nx8
              · cases e
              · have MM := S8.gone hd8 hd8.st.few lt8 le5.f (Fr.refl (fun _ => False) w8) (fun k hk => hk.elim) S8.rn (fun k hk => .inl hk)
                have ct := S8.bt.c
                have HMM := hide (show ∃ nw t, LsM w w8 b n2 (.slice ad ls.length cp) (.slice ad6 nn6 cp6) ls nw t ∧ t ≤ 900000 ∧ ls.length ≤ 1000 ∧ True from ⟨_, _, MM, by have := (unhide HLX).2.2; omega, by have := (unhide HLX).1; omega, trivial⟩)
                clear MM S8 hd8 lt8 nx8 le5 fr8 ba8 HS HBB HHC HNL HLX HNK HB7
                go_upto_region 28 with fail
                clear ct
                as_aux_lemma =>
                  obtain ⟨nw, t, M, ht, hll, hex⟩ := unhide HMM
                  have PW := ls_power M (by omega) flip a3 len3 cap3 zk (unhide HL3) (unhide HKP)
                  have HPW := hide PW; have HEX := hide hex
                  clear PW M HMM hex
                  go_wp2_with fail
                  refine (unhide HPW).mono ?_
                  clear HPW
                  rintro e w7 ⟨rfl, PP⟩
                  have HPP := hide (PP True)
                  clear PP
                  obtain ⟨nl, hnl⟩ : ∃ nl, ls.length = nl := ⟨_, rfl⟩
                  go_wp2_with fail
                  go_loopw [24, 25, 26] (fun iv tv ev wx => ∃ k : Nat, k ≤ len4 ∧ k ≤ 3 ∧ iv = .int .i64 k ∧ LsP w wx b n2 (.slice ad ls.length cp) (.slice ad6 nn6 cp6) ls nw (t + 50000 * k) True) (fun iv tv ev wx => 3 - (intOf iv).toNat)
                  case atStart => exact ⟨0, by omega, by omega, rfl, by simpa using unhide HPP⟩
                  case round =>
                    clear HPP
                    obtain ⟨k, hk1, hk3, rfl, PP⟩ := hrel
                    generalize wr = wx at *
                    clear wr
                    by_cases hlt : k < len4 ∧ k < 3
                    · obtain ⟨hl1', hl2'⟩ := hlt
                      obtain ⟨yb, yo, ea4, q4⟩ := unhide HZA k hl1'
                      have fr0 : Still w wx := by obtain ⟨L, A, _, _, _, _, D, _⟩ := PP; exact D.fr
                      have c4 := fr0.cell' q4 (fun x => x)
                      have FU := ls_fuse PP (za k) (unhide HZB k hl1')
                      have hk3' : ((k : Int) < 3) = True := by simp; omega
                      have HFU := hide FU
                      clear FU PP fr0 q4
                      subst ea4
                      go_wp2_with fail
                      refine (unhide HFU).mono ?_
                      clear HFU c4
                      rintro e w8 ⟨rfl, P8⟩
                      have OP := ls_open P8 (by omega)
                      have HOP := hide OP
                      clear OP P8
                      go_wp2_with fail
                      refine (unhide HOP).mono ?_
                      clear HOP
                      rintro e w9 (⟨sb9, rfl, S9⟩ | ⟨rfl, -, M9⟩)
                      · have HO := ls_heap S9 (unhide HT) (by omega)
                        have HHO := hide HO
                        clear HO S9
                        go_wp2_with fail
                        refine (unhide HHO).mono ?_
                        clear HHO
                        rintro e w10 (⟨hb10, rfl, G10⟩ | ⟨rfl, -, M10⟩)
                        · have PW := ls_power G10.m (by omega) flip a3 len3 cap3 zk (unhide HL3) (unhide HKP)
                          have HPW := hide PW
                          clear PW G10
                          go_wp2_with fail
                          refine (unhide HPW).mono ?_
                          clear HPW
                          rintro e w11 ⟨rfl, PP⟩
                          have HPP := hide ((PP True).le (t' := t + 50000 * ((k + 1 : Nat) : Int)) (by omega))
                          clear PP
                          go_wp2
                          exact ⟨⟨k + 1, by omega, by omega, by go_num, unhide HPP⟩, by simp [intOf]; omega⟩
                        · have PW := ls_power M10 (by omega) flip a3 len3 cap3 zk (unhide HL3) (unhide HKP)
                          have HPW := hide PW
                          clear PW M10
                          go_wp2_with fail
                          refine (unhide HPW).mono ?_
                          clear HPW
                          rintro e w11 ⟨rfl, PP⟩
                          have HPP := hide ((PP True).le (t' := t + 50000 * ((k + 1 : Nat) : Int)) (by omega))
                          clear PP
                          go_wp2
                          exact ⟨⟨k + 1, by omega, by omega, by go_num, unhide HPP⟩, by simp [intOf]; omega⟩
                      · have PW := ls_power M9 (by omega) flip a3 len3 cap3 zk (unhide HL3) (unhide HKP)
                        have HPW := hide PW
                        clear PW M9
                        go_wp2_with fail
                        refine (unhide HPW).mono ?_
                        clear HPW
                        rintro e w11 ⟨rfl, PP⟩
                        have HPP := hide ((PP True).le (t' := t + 50000 * ((k + 1 : Nat) : Int)) (by omega))
                        clear PP
                        go_wp2
                        exact ⟨⟨k + 1, by omega, by omega, by go_num, unhide HPP⟩, by simp [intOf]; omega⟩
                    · have OP := ls_open PP (by omega)
                      have HOP := hide OP
                      clear OP PP
                      have hes := eq_nil_stor
                      rcases (show ¬ k < len4 ∨ (k < len4 ∧ k = 3) by omega) with h | ⟨h, h3'⟩
                      case' inl =>
                        have h' : ¬ (k : Int) < len4 := by omega
                        clear hlt h
                        go_wp2_with fail
                      case' inr =>
                        have hk3' : ((k : Int) < 3) = False := by simp; omega
                        clear hlt h3'
                        go_wp2_with fail
                      all_goals
                        refine (unhide HOP).mono ?_
                        clear HOP
                        rintro e w8 (⟨sb8, rfl, S8⟩ | ⟨_, hn, _⟩)
                        · have HO := ls_heap S8 (unhide HT) (by omega)
                          have HHO := hide HO
                          clear HO S8
                          go_wp2_with fail
                          refine (unhide HHO).mono ?_
                          clear HHO
                          rintro e w9 (⟨hb9, rfl, T9, A9, base9, s9, hc9, hs9, ⟨st9, lo9⟩, r9⟩ | ⟨_, hn, _⟩)
                          · have sy := hc9.says []
                            rw [homed_nil] at sy
                            have cl9 := r9.cl.c
                            have aw : ∀ w', Still w9 w' → Calls Tryz.prog 13 #[] w' fun e w'' => e = .returned (.bool true) ∧ Still w' w'' := fun w' f' => l8_awake w' (fun j hj => f'.cell' (hc9.hd.fr.cell' (unhide HT j hj) (fun x => x)) (fun x => x))
                            have HAW := @hide _ aw; have HF9 := hide hc9.hd.fr
                            clear aw
                            rcases lo9 with lo | ⟨lo, hne⟩
                            · have SO := l8_sound hc9.toHp (by rw [sy]; exact st9) ad cp ls (by rw [sy]; exact lo) (pcs_of_row r9.rl)
                              rw [hnl] at SO cl9
                              have HSO := hide SO
                              clear SO lo hc9 st9 sy r9
                              go_wp2_with fail
                              refine (unhide HSO).mono ?_
                              clear HSO cl9
                              rintro e w10 ⟨rfl, f10⟩
                              have AW := unhide HAW w10 f10
                              have HAW2 := hide AW; have HF10 := hide ((unhide HF9).trans' f10 (fun _ x => x.elim))
                              clear AW HAW f10
                              go_wp2_with fail
                              refine (unhide HAW2).mono ?_
                              clear HAW2
                              rintro e w11 ⟨rfl, f11⟩
                              have HF11 := hide ((unhide HF10).trans' f11 (fun _ x => x.elim))
                              clear f11 HF10
                              go_wp2
                              go_ret
                              exact ⟨rfl, (unhide HF11).below (Nat.le_refl _) (fun _ x => x.elim)⟩
                            · have NO := l8_sound_no hc9.toHp (by rw [sy]; exact st9) ad ls.length cp (by rw [sy, ← lo.len]; exact fun e => hne e.symm)
                              rw [hnl] at NO cl9
                              have rn9 : w9.ownsRow w.heap.size 39 2 (.slice ad6 nn6 cp6) nw.length (pcells nw) := r9.rn.resolve_left (fun e => hne (by rw [e]))
                              have en : nn6 = nw.length := by
                                rcases row_formP rn9 with ⟨ev, e0⟩ | ⟨gg, cp', ev⟩
                                · injection ev with _ ev _; omega
                                · injection ev
                              have SO : ∀ w', Still w9 w' → Calls Tryz.prog 17 #[ptr hb9, (.slice ad6 nn6 cp6), .int .i64 3824] w' fun e w'' => e = .returned (.bool true) ∧ Still w' w'' := fun w' f' => by
                                rw [en] at rn9 ⊢
                                exact l8_sound (hc9.still f').toHp (by rw [sy]; exact st9) ad6 cp6 nw (by rw [sy]; exact lo) ((pcs_of_row rn9).kept f')
                              have HNO := hide NO; have HSO := @hide _ SO
                              clear NO SO lo hc9 st9 sy r9 rn9 hne en
                              go_wp2_with fail
                              refine (unhide HNO).mono ?_
                              clear HNO cl9
                              rintro e w10 ⟨rfl, f10⟩
                              have SO := unhide HSO w10 f10
                              have HSO2 := hide SO; have HF10 := hide f10
                              clear SO HSO f10
                              go_wp2_with fail
                              refine (unhide HSO2).mono ?_
                              clear HSO2
                              rintro e w11 ⟨rfl, f11⟩
                              have f911 := (unhide HF10).trans' f11 (fun _ x => x.elim)
                              have AW := unhide HAW w11 f911
                              have HAW2 := hide AW; have HF11 := hide ((unhide HF9).trans' f911 (fun _ x => x.elim))
                              clear AW HAW f11 f911 HF10
                              go_wp2_with fail
                              refine (unhide HAW2).mono ?_
                              clear HAW2
                              rintro e w12 ⟨rfl, f12⟩
                              have HF12 := hide ((unhide HF11).trans' f12 (fun _ x => x.elim))
                              clear f12 HF11
                              go_wp2
                              go_ret
                              exact ⟨rfl, (unhide HF12).below (Nat.le_refl _) (fun _ x => x.elim)⟩
                          · exact absurd trivial hn
                        · exact absurd trivial hn
            · cases e
    · have HMM := hide (show ∃ nw t, LsM w wq b n2 vl vl ls nw t ∧ t ≤ 900000 ∧ ls.length ≤ 1000 ∧ nw = ls from ⟨ls, _, S.m, by omega, by omega, rfl⟩)
      obtain ⟨ad, cp, ev⟩ : ∃ ad cp, vl = .slice ad ls.length cp := by
        rcases row_formP S.rl with ⟨ev, e0⟩ | ⟨gg, cp, ev⟩
        · exact ⟨none, 0, by rw [ev, e0]⟩
        · exact ⟨_, cp, ev⟩
      subst ev
      clear S hs hlm
      rcases (show ¬ m < len0 ∨ (m < len0 ∧ m = 25) by omega) with h | ⟨h, h25⟩
      case' inl =>
        have h' : ¬ (m : Int) < len0 := by omega
        clear hlt h hm hm25
        go_upto_region 28 with fail
      case' inr =>
        have hi1 : ((m : Int) < 25) = False := by simp; omega
        clear hlt h25 hm hm25
        go_upto_region 28 with fail
      all_goals
        clear HN
        as_aux_lemma =>
          obtain ⟨nw, t, M, ht, hll, hex⟩ := unhide HMM
          have PW := ls_power M (by omega) flip a3 len3 cap3 zk (unhide HL3) (unhide HKP)
          have HPW := hide PW; have HEX := hide hex
          clear PW M HMM hex
          go_wp2_with fail
          refine (unhide HPW).mono ?_
          clear HPW
          rintro e w7 ⟨rfl, PP⟩
          have HPP := hide (PP True)
          clear PP
          obtain ⟨nl, hnl⟩ : ∃ nl, ls.length = nl := ⟨_, rfl⟩
          go_wp2_with fail
          go_loopw [24, 25, 26] (fun iv tv ev wx => ∃ k : Nat, k ≤ len4 ∧ k ≤ 3 ∧ iv = .int .i64 k ∧ LsP w wx b n2 (.slice ad ls.length cp) (.slice ad ls.length cp) ls nw (t + 50000 * k) True) (fun iv tv ev wx => 3 - (intOf iv).toNat)
          case atStart => exact ⟨0, by omega, by omega, rfl, by simpa using unhide HPP⟩
          case round =>
            clear HPP
            obtain ⟨k, hk1, hk3, rfl, PP⟩ := hrel
            generalize wr = wx at *
            clear wr
            by_cases hlt : k < len4 ∧ k < 3
            · obtain ⟨hl1', hl2'⟩ := hlt
              obtain ⟨yb, yo, ea4, q4⟩ := unhide HZA k hl1'
              have fr0 : Still w wx := by obtain ⟨L, A, _, _, _, _, D, _⟩ := PP; exact D.fr
              have c4 := fr0.cell' q4 (fun x => x)
              have FU := ls_fuse PP (za k) (unhide HZB k hl1')
              have hk3' : ((k : Int) < 3) = True := by simp; omega
              have HFU := hide FU
              clear FU PP fr0 q4
              subst ea4
              go_wp2_with fail
              refine (unhide HFU).mono ?_
              clear HFU c4
              rintro e w8 ⟨rfl, P8⟩
              have OP := ls_open P8 (by omega)
              have HOP := hide OP
              clear OP P8
              go_wp2_with fail
              refine (unhide HOP).mono ?_
              clear HOP
              rintro e w9 (⟨sb9, rfl, S9⟩ | ⟨rfl, -, M9⟩)
              · have HO := ls_heap S9 (unhide HT) (by omega)
                have HHO := hide HO
                clear HO S9
                go_wp2_with fail
                refine (unhide HHO).mono ?_
                clear HHO
                rintro e w10 (⟨hb10, rfl, G10⟩ | ⟨rfl, -, M10⟩)
                · have PW := ls_power G10.m (by omega) flip a3 len3 cap3 zk (unhide HL3) (unhide HKP)
                  have HPW := hide PW
                  clear PW G10
                  go_wp2_with fail
                  refine (unhide HPW).mono ?_
                  clear HPW
                  rintro e w11 ⟨rfl, PP⟩
                  have HPP := hide ((PP True).le (t' := t + 50000 * ((k + 1 : Nat) : Int)) (by omega))
                  clear PP
                  go_wp2
                  exact ⟨⟨k + 1, by omega, by omega, by go_num, unhide HPP⟩, by simp [intOf]; omega⟩
                · have PW := ls_power M10 (by omega) flip a3 len3 cap3 zk (unhide HL3) (unhide HKP)
                  have HPW := hide PW
                  clear PW M10
                  go_wp2_with fail
                  refine (unhide HPW).mono ?_
                  clear HPW
                  rintro e w11 ⟨rfl, PP⟩
                  have HPP := hide ((PP True).le (t' := t + 50000 * ((k + 1 : Nat) : Int)) (by omega))
                  clear PP
                  go_wp2
                  exact ⟨⟨k + 1, by omega, by omega, by go_num, unhide HPP⟩, by simp [intOf]; omega⟩
              · have PW := ls_power M9 (by omega) flip a3 len3 cap3 zk (unhide HL3) (unhide HKP)
                have HPW := hide PW
                clear PW M9
                go_wp2_with fail
                refine (unhide HPW).mono ?_
                clear HPW
                rintro e w11 ⟨rfl, PP⟩
                have HPP := hide ((PP True).le (t' := t + 50000 * ((k + 1 : Nat) : Int)) (by omega))
                clear PP
                go_wp2
                exact ⟨⟨k + 1, by omega, by omega, by go_num, unhide HPP⟩, by simp [intOf]; omega⟩
            · have OP := ls_open PP (by omega)
              have HOP := hide OP
              clear OP PP
              have hes := eq_nil_stor
              rcases (show ¬ k < len4 ∨ (k < len4 ∧ k = 3) by omega) with h | ⟨h, h3'⟩
              case' inl =>
                have h' : ¬ (k : Int) < len4 := by omega
                clear hlt h
                go_wp2_with fail
              case' inr =>
                have hk3' : ((k : Int) < 3) = False := by simp; omega
                clear hlt h3'
                go_wp2_with fail
              all_goals
                refine (unhide HOP).mono ?_
                clear HOP
                rintro e w8 (⟨sb8, rfl, S8⟩ | ⟨_, hn, _⟩)
                · have HO := ls_heap S8 (unhide HT) (by omega)
                  have HHO := hide HO
                  clear HO S8
                  go_wp2_with fail
                  refine (unhide HHO).mono ?_
                  clear HHO
                  rintro e w9 (⟨hb9, rfl, T9, A9, base9, s9, hc9, hs9, ⟨st9, lo9⟩, r9⟩ | ⟨_, hn, _⟩)
                  · have sy := hc9.says []
                    rw [homed_nil] at sy
                    have cl9 := r9.cl.c
                    have aw : ∀ w', Still w9 w' → Calls Tryz.prog 13 #[] w' fun e w'' => e = .returned (.bool true) ∧ Still w' w'' := fun w' f' => l8_awake w' (fun j hj => f'.cell' (hc9.hd.fr.cell' (unhide HT j hj) (fun x => x)) (fun x => x))
                    have HAW := @hide _ aw; have HF9 := hide hc9.hd.fr
                    clear aw
                    rcases lo9 with lo | ⟨lo, hne⟩
                    · have SO := l8_sound hc9.toHp (by rw [sy]; exact st9) ad cp ls (by rw [sy]; exact lo) (pcs_of_row r9.rl)
                      rw [hnl] at SO cl9
                      have HSO := hide SO
                      clear SO lo hc9 st9 sy r9
                      go_wp2_with fail
                      refine (unhide HSO).mono ?_
                      clear HSO cl9
                      rintro e w10 ⟨rfl, f10⟩
                      have AW := unhide HAW w10 f10
                      have HAW2 := hide AW; have HF10 := hide ((unhide HF9).trans' f10 (fun _ x => x.elim))
                      clear AW HAW f10
                      go_wp2_with fail
                      refine (unhide HAW2).mono ?_
                      clear HAW2
                      rintro e w11 ⟨rfl, f11⟩
                      have HF11 := hide ((unhide HF10).trans' f11 (fun _ x => x.elim))
                      clear f11 HF10
                      go_wp2
                      go_ret
                      exact ⟨rfl, (unhide HF11).below (Nat.le_refl _) (fun _ x => x.elim)⟩
                    · exact absurd (by rw [unhide HEX]) hne
                  · exact absurd trivial hn
                · exact absurd trivial hn
end Go.Proofs.YtacfmmbdeajjbaaGreatDoor
