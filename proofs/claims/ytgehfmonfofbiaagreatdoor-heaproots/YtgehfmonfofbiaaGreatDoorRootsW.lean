/- HeapRoots: the walk. -/
import Derived.Test.YtgehfmonfofbiaaGreatDoorRoC
namespace Go.Proofs.YtgehfmonfofbiaaGreatDoor
open Go.RowKit

def RoX (hb bs bh ba bi : Nat) : Nat → Prop := fun k => k = hb ∨ k = bs ∨ k = bh ∨ k = ba ∨ k = bi

structure RoS (W wr : World) (hb sb b bs bh ba bi m : Nat) (g : Nat → Int) (lim : Int) : Prop where
  ex : ∃ T A s base ls, s ≤ lim ∧ HpC W (RoX hb bs bh ba bi) wr hb sb b T A 2048 True s base ∧ HpS (rb base) ∧ Lists (ask (rb base)) ls ∧ ls.length ≤ m ∧ (∀ y ∈ ls, y.2 ≤ 20) ∧ ∀ j, j < 16 → rb base (2 + j) = g j
  cs : Box wr bs (ptr sb)
  ch : Box wr bh (ptr hb)
  ar : ArrAt wr ba g
  ci : Box wr bi (.int .i64 m)

def boxR (w : World) (p : Value) : Nat := match p with | .pointer (some a) => (match w.cell? a with | some (.int _ z) => z.toNat | _ => 0) | _ => 0
theorem boxR_of {w : World} {r : Nat} {n : Nat} (h : Box w r (.int .i64 n)) : boxR w (ptr r) = n := by
  show (match w.cell? ⟨r, 0, none⟩ with | some (.int _ z) => z.toNat | _ => 0) = n
  rw [h.c]; simp
theorem lv_20 {x : Nat} (h : x ≤ 20) : lv x ≤ 2 := by
  unfold lv
  repeat (split; omega)
  omega

set_option maxRecDepth 20000 in
set_option maxHeartbeats 8000000 in
theorem roots_ok (a : Option Addr) (len cap : Nat) (fill : Bool) (w : World) (zs : Nat → Int) (nums : Nums w a len zs) (_hlen : len ≤ maxLen) (tab : TabL w) :
    Calls Tryz.prog 4 #[.slice a len cap, .bool fill] w fun e w' => e = .returned (.bool true) ∧ Below w.heap.size w w' := by
  obtain ⟨W, hW⟩ : ∃ W, w.alloc (.cells #[.bool fill] 4) = W := ⟨_, rfl⟩
  have fW : Still w W := hW ▸ (Fr.refl _ w).alloc _
  have bfl : Box W w.heap.size (.bool fill) := hW ▸ Box.new w _ 4
  have tabW : TabL W := fun j hj => fW.cell' (tab j hj) (fun x => x)
  have K := l8_open W tabW
  have h1 := eq_nil_heap
  have h1s := eq_nil_stor
  have h2 := mf
  have HAR := alloc_arr
  have HN : Hid (∀ k, k < len → ∃ xb xo, a = some ⟨xb, xo, none⟩ ∧ W.cell? ⟨xb, xo + k, none⟩ = some (.int .i64 (zs k))) := fun k hk => by
    obtain ⟨xb, xo, e, c⟩ := nums k hk
    exact ⟨xb, xo, e, fW.cell' c (fun x => x)⟩
  have HK := hide K; have HT := hide tabW; have HBF := hide bfl; have HFW := hide fW; have HW := hide hW
  have lwW : w.heap.size < W.heap.size := bfl.lt
  clear K nums tab tabW bfl fW hW
  go_enter Tryz.func4, Tryz.ntmps4
  go_wp2_with fail
  rw [unhide HW]
  refine (unhide HK).mono ?_
  clear HK
  rintro e w1 ⟨b, sb, hb, T, A, base, rfl, hc, nw⟩
  obtain ⟨W1, hW1⟩ : ∃ W1, w1.alloc (.cells #[ptr sb] 24) = W1 := ⟨_, rfl⟩
  obtain ⟨W2, hW2⟩ : ∃ W2, W1.alloc (.cells #[ptr hb] 25) = W2 := ⟨_, rfl⟩
  obtain ⟨W3, hW3⟩ : ∃ W3, W2.alloc (.cells (arr 16 fun _ => 0) 39) = W3 := ⟨_, rfl⟩
  obtain ⟨W4, hW4⟩ : ∃ W4, W3.alloc (.cells #[.int .i64 0] 3) = W4 := ⟨_, rfl⟩
  have z1 : W1.heap.size = w1.heap.size + 1 := by rw [← hW1]; simp
  have z2 : W2.heap.size = w1.heap.size + 2 := by rw [← hW2]; simp; omega
  have z3 : W3.heap.size = w1.heap.size + 3 := by rw [← hW3]; simp; omega
  have hc1 := hc.more (.cells #[ptr sb] 24)
  rw [hW1] at hc1
  have hc2 := hc1.more (.cells #[ptr hb] 25)
  rw [hW2] at hc2
  have hc3 := hc2.more (.cells (arr 16 fun _ => 0) 39)
  rw [hW3] at hc3
  have hc4 := hc3.more (.cells #[.int .i64 0] 3)
  rw [hW4] at hc4
  have f12 : Still W1 W2 := hW2 ▸ (Fr.refl _ W1).alloc _
  have f23 : Still W2 W3 := hW3 ▸ (Fr.refl _ W2).alloc _
  have f34 : Still W3 W4 := hW4 ▸ (Fr.refl _ W3).alloc _
  have f24 : Still W2 W4 := f23.trans' f34 (fun _ x => x.elim)
  have bs1 : Box W1 w1.heap.size (ptr sb) := hW1 ▸ Box.new w1 (ptr sb) 24
  have bh2 : Box W2 (w1.heap.size + 1) (ptr hb) := by
    have := Box.new W1 (ptr hb) 25
    rw [hW2, z1] at this; exact this
  have ar3 : ArrAt W3 (w1.heap.size + 2) (fun _ => 0) := by
    have := ArrAt.new W2 (fun _ => 0)
    rw [hW3, z2] at this; exact this
  have bi4 : Box W4 (w1.heap.size + 3) (.int .i64 0) := by
    have := Box.new W3 (.int .i64 0) 3
    rw [hW4, z3] at this; exact this
  have lhb : hb < w1.heap.size := (hc.hd.xl hb hc.xh).2
  have st0 : RoS W W4 hb sb b w1.heap.size (w1.heap.size + 1) (w1.heap.size + 2) (w1.heap.size + 3) 0 (fun _ => 0) 50000 := by
    refine ⟨⟨T, A, 43021, base, [], by omega, hc4.sub (fun k hk => ?_) (.inl rfl), nw.st, by rw [nw.ak]; exact lists_nil, by simp, fun y hy => by simp at hy, fun j hj => nw.root (2 + j) (by omega) (by omega)⟩, (bs1.kept f12 (fun x => x)).kept f24 (fun x => x), bh2.kept f24 (fun x => x), ar3.kept f34 (fun x => x), bi4⟩
    rcases hk with hk | hk | hk | hk | hk
    · exact .inl (.inl (.inl (.inl hk)))
    · exact .inl (.inl (.inl (.inr hk)))
    · exact .inl (.inl (.inr (by omega)))
    · exact .inl (.inr (by omega))
    · exact .inr (by omega)
  have ea16 : (arr 16 fun _ => (0 : Int)) = #[.int .u64 0, .int .u64 0, .int .u64 0, .int .u64 0, .int .u64 0, .int .u64 0, .int .u64 0, .int .u64 0, .int .u64 0, .int .u64 0, .int .u64 0, .int .u64 0, .int .u64 0, .int .u64 0, .int .u64 0, .int .u64 0] := by kernel_rfl
  rw [ea16] at hW3
  have bc2 := bh2.c
  rw [← hW2, ← hW1] at bc2
  have HST := hide st0; have HWW := hide (And.intro hW1 (And.intro hW2 (And.intro hW3 hW4)))
  clear st0 hc hc1 hc2 hc3 hc4 f12 f23 f34 f24 bs1 bh2 ar3 bi4 nw hW1 hW2 hW3 hW4
  go_wp2_with fail
  rw [(unhide HWW).1, (unhide HWW).2.1, (unhide HWW).2.2.1, (unhide HWW).2.2.2]
  clear HWW bc2 HAR
  generalize w1.heap.size = n1 at *
  go_loopw [9] (fun p wr => ∃ (bi m : Nat) (g : Nat → Int), p = ptr bi ∧ m ≤ len ∧ m ≤ 30 ∧ n1 + 3 ≤ bi ∧ RoS W wr hb sb b n1 (n1 + 1) (n1 + 2) bi m g (50000 + 30729 * m)) (fun p wr => 30 - boxR wr p)
  case atStart => exact ⟨n1 + 3, 0, fun _ => 0, rfl, by omega, by omega, by omega, by have := unhide HST; simpa using this⟩
  case round =>
    clear HST
    obtain ⟨bi, m, g, rfl, hm1, hm2, hbi, st⟩ := hrel
    obtain ⟨T, A, s, base, ls, hs, hc, hps, lst, hll, hsz, hrt⟩ := st.ex
    have cci := st.ci.c
    by_cases hlt : m < len ∧ m < 30
    · obtain ⟨xb, xo, ea, cz⟩ := unhide HN m hlt.1
      subst ea
      have czr := hc.hd.fr.cell' cz (fun x => x)
      have HBR := hide (boxR_of st.ci)
      have e15 : bits .and .i64 (zs m) 15 = (msk (zs m) 15 : Int) := mask_i64 (zs m) 15 (by omega)
      have l15 := msk_le (zs m) 15
      obtain ⟨k, hk⟩ : ∃ k, msk (zs m) 15 = k := ⟨_, rfl⟩
      rw [hk] at e15 l15
      obtain ⟨A1, hA1⟩ : ∃ A1, wr.alloc (.cells #[.int .i64 k] 3) = A1 := ⟨_, rfl⟩
      have g1 : Still wr A1 := hA1 ▸ (Fr.refl _ wr).alloc _
      have hcA := hc.more (.cells #[.int .i64 k] 3)
      rw [hA1] at hcA
      have bk : Box A1 wr.heap.size (.int .i64 k) := hA1 ▸ Box.new wr _ 3
      have bsA := st.cs.kept g1 (fun x => x)
      have bhA := st.ch.kept g1 (fun x => x)
      have biA := st.ci.kept g1 (fun x => x)
      have arA := st.ar.kept g1 (fun x => x)
      have bfA := ((unhide HBF).kept hc.hd.fr (fun x => x)).kept g1 (fun x => x)
      have sy := hc.says []
      rw [homed_nil] at sy
      have lbs := st.cs.lt; have lbh := st.ch.lt; have lbi := st.ci.lt; have lba := st.ar.lt
      have DO := hcA.do_ (V := fun _ => False) (g := 21) (fi := #[]) (ca := #[ptr (n1 + 1), ptr wr.heap.size, ptr bi, ptr w.heap.size, ptr n1]) (R := fun h P' _ => h = .well ∧ Rooted (rb base) k (m + 1) fill (says P' A))
        (fun k hk => hk.elim) (fun x => x) (fun h P w w' F r _ _ => r) (fun w3 f3 => acts_of (fun _ _ => by kernel_rfl) ((roC (hcA.toHp.still f3) (by rw [sy]; exact hps) k m fill (by omega) (by omega) (f3.cell' bhA.c (fun x => x)) (f3.cell' bk.c (fun x => x)) (f3.cell' biA.c (fun x => x)) (f3.cell' bfA.c (fun x => x)) (f3.cell' bsA.c (fun x => x)) (fun r hr => by
          rcases hr with rfl | rfl | rfl
          · exact hcA.hd.ap _ (.inl (.inr (.inr (.inl rfl))))
          · exact fun ht => by have := hcA.hd.new _ ht; omega
          · exact hcA.hd.ap _ (.inl (.inr (.inl rfl))))).mono (by
          rintro e w4 (⟨rfl, T', P', o, rt⟩ | ⟨rfl, T', P', o, hf⟩)
          · rw [sy] at rt
            exact ⟨.well, rfl, .inl rfl, T', P', OnxX.of o, rfl, rt⟩
          · rw [sy] at hf
            exact (hps.inv.roomy (m := 2) (k := lv 20) (by omega) (by decide) (fun u hu => lv_20 (hsz _ (lst.all u hu))) (by
              have h1 := lst.len
              have h2 : 478 / 2 ^ 2 = 119 := by decide
              rw [h2, ← h1]; omega) hf).elim))) (by omega)
      have hi1 : ((m : Int) < 30) = True := by simp; omega
      have bsc := bsA.c
      rw [← hA1] at bsc
      have HDO := hide DO; have HX := hide (And.intro hcA (And.intro hps (And.intro lst (And.intro hll (And.intro hsz hrt))))); have HB := hide (And.intro bsA (And.intro bhA (And.intro biA (And.intro arA bk)))); have HA := hide hA1
      have HZ := hide (And.intro lbs (And.intro lbh (And.intro lbi lba)))
      have zA1 : A1.heap.size = wr.heap.size + 1 := by rw [← hA1]; simp
      clear DO hcA hc bk bsA bhA biA arA bfA g1 st hps lst hll hsz hrt sy hA1 lbs lbh lbi lba
      go_wp2_with fail
      rw [unhide HA]
      unfold DidH at HDO
      refine (unhide HDO).mono ?_
      clear HDO
      rintro e w5 ⟨fr5, ⟨P', T', A', ⟨_, rt⟩, rfl, hc5⟩ | ⟨i, P', T', ⟨hq, _⟩, _⟩⟩
      · obtain ⟨hcA, hps, lst, hll, hsz, hrt⟩ := unhide HX
        obtain ⟨bsA, bhA, biA, arA, bk⟩ := unhide HB
        have bs5 := hcA.box fr5 (.inl (.inr (.inl rfl))) (fun x => x) bsA
        have bh5 := hcA.box fr5 (.inl (.inr (.inr (.inl rfl)))) (fun x => x) bhA
        have bi5 := hcA.box fr5 (.inl (.inr (.inr (.inr (.inr rfl))))) (fun x => x) biA
        have bk5 := hcA.box fr5 (.inr rfl) (fun x => x) bk
        have ar5 := arA.kept fr5 (fun e => e.elim (hcA.hd.ap _ (.inl (.inr (.inr (.inr (.inl rfl)))))) (fun x => x))
        have ck5 := bk5.c; have ci5 := bi5.c
        have ca5 := ar5.cell k (by omega); have za5 := ar5.frozen k
        have hi3 : IntKind.u64.wrap ((m : Int) + 1) = (m : Int) + 1 := by rw [IntKind.wrap_u64]; omega
        obtain ⟨W6, hW6⟩ : ∃ W6, w5.setCell ⟨n1 + 2, k, none⟩ (u64 ((m : Int) + 1)) = W6 := ⟨_, rfl⟩
        have f6 : Fr (fun r => r = n1 + 2) w5 W6 := hW6 ▸ (Fr.refl (fun r => r = n1 + 2) w5).setCell (.inl rfl) _
        have ar6 : ArrAt W6 (n1 + 2) (upd g k ((m : Int) + 1)) := hW6 ▸ ar5.set k _
        have ci6 : W6.cell? ⟨bi, 0, none⟩ = some (.int .i64 m) := f6.cell' ci5 (by intro e; have e : bi = n1 + 2 := e; omega)
        rw [← hW6] at ci6
        have s5 : wr.heap.size + 1 ≤ w5.heap.size := by have h3 := fr5.size; omega
        have HY := hide (And.intro fr5 (And.intro rt (And.intro hc5 (And.intro bs5 (And.intro bh5 (And.intro f6 (And.intro ar6 s5))))))); have HW6 := hide hW6
        clear hcA hps lst hll hsz hrt bsA bhA biA arA bk bs5 bh5 bi5 bk5 ar5 fr5 rt hc5 f6 ar6 hW6 HB bsc cz czr cci
        go_wp2
        obtain ⟨fr5, rt, hc5, bs5, bh5, f6, ar6, s5⟩ := unhide HY
        obtain ⟨hcA, hps, lst, hll, hsz, hrt⟩ := unhide HX
        obtain ⟨lbs, lbh, lbi, lba⟩ := unhide HZ
        have hW6' : w5.setCell ⟨n1 + 1 + 1, k, none⟩ (.int .u64 ((m : Int) + 1)) = W6 := unhide HW6
        rw [hW6']
        have z6 : W6.heap.size = w5.heap.size := by rw [← hW6']; simp
        rw [← z6]
        obtain ⟨B1, hB1⟩ : ∃ B1, W6.alloc (.cells #[.int .i64 ((m : Int) + 1)] 3) = B1 := ⟨_, rfl⟩
        rw [hB1]
        have g6 : Still W6 B1 := hB1 ▸ (Fr.refl _ W6).alloc _
        have bb : Box B1 W6.heap.size (.int .i64 ((m + 1 : Nat) : Int)) := by
          rw [show ((m + 1 : Nat) : Int) = (m : Int) + 1 by omega]
          exact hB1 ▸ Box.new W6 _ 3
        have zB1 : B1.heap.size = W6.heap.size + 1 := by rw [← hB1]; simp
        have sy5 := hcA.says P'
        rw [sy5] at rt
        have hcB : HpC W (RoX hb n1 (n1 + 1) (n1 + 2) W6.heap.size) B1 hb sb b T' A' 2048 True (s + 30729) (homed P' base) := by
          refine hc5.grow (f6.trans' g6 (fun _ x => x.elim)) (fun r hr => .inl (.inr (.inr (.inr (.inl hr))))) (by intro e; have e : hb = n1 + 2 := e; omega) (fun r hr => ?_) (.inl rfl)
          rcases hr with hr | hr | hr | hr | hr
          · exact .inl (.inl (.inl hr))
          · exact .inl (.inl (.inr (.inl hr)))
          · exact .inl (.inl (.inr (.inr (.inl hr))))
          · exact .inl (.inl (.inr (.inr (.inr (.inl hr)))))
          · exact .inr ⟨by omega, by omega⟩
        have nf : ∀ r, r = n1 ∨ r = n1 + 1 → ¬ (r = n1 + 2) := fun r hr e => by omega
        have lst' : ∃ ls', Lists (ask (rb (homed P' base))) ls' ∧ ls'.length ≤ m + 1 ∧ ∀ y ∈ ls', y.2 ≤ 20 := by
          rcases rt.ak with ⟨_, e⟩ | ⟨_, c, u, hu, hcc, was, e⟩
          · exact ⟨ls, by rw [e]; exact lst, by omega, hsz⟩
          · refine ⟨ls ++ [(u, 20)], by rw [e, hu]; exact lst.push hcc rfl (by omega) (by rw [← hu]; exact was), by simp; omega, fun y hy => ?_⟩
            rcases List.mem_append.1 hy with hy | hy
            · exact hsz y hy
            · simp at hy; subst hy; exact Nat.le_refl _
        obtain ⟨ls', l1, l2, l3⟩ := lst'
        refine ⟨⟨W6.heap.size, m + 1, upd g k ((m : Int) + 1), rfl, by omega, by omega, by omega, ⟨T', A', s + 30729, homed P' base, ls', by omega, hcB, rt.st, l1, l2, l3, fun j hj => ?_⟩, (bs5.kept f6 (nf _ (.inl rfl))).kept g6 (fun x => x), (bh5.kept f6 (nf _ (.inr rfl))).kept g6 (fun x => x), ar6.kept g6 (fun x => x), bb⟩, ?_⟩
        · rw [rt.root j hj]
          by_cases e : j = k
          · subst e; rw [if_pos rfl, upd_same]; simp
          · rw [if_neg e, upd_other _ _ e]; exact hrt j hj
        · rw [unhide HBR]
          have := boxR_of bb
          rw [this]
          omega
      · cases hq
    · obtain ⟨f, c, kc⟩ := hc.cl
      have PW := x_power hc.dv (stand_calm (xs := []) c (.inl kc)) (by omega) false none 0 0 (fun _ => 0) (Nat.zero_le _) (fun k hk => by omega)
      have HPW := hide PW; have HX := hide (And.intro hps (And.intro hrt (And.intro st.ar (hc.hd.ap (n1 + 2) (.inr (.inr (.inr (.inl rfl))))))))
      clear PW hc c kc hps lst hll hsz hrt st
      rcases (show ¬ m < len ∨ (m < len ∧ ¬ m < 30) by omega) with hq | hq
      case' inl => go_wp2_with fail
      case' inr =>
        have hi1 : ((m : Int) < 30) = False := by simp; omega
        go_wp2_with fail
      all_goals
        refine (unhide HPW).mono ?_
        clear HPW cci
        rintro e w2 ⟨rfl, ⟨L2, A2, h2', D2, c2, st2⟩, fr2⟩
        have OP := x_open D2 (c2 True) st2 (by simp) (by omega) (by omega)
        have nar2 := D2.ap (n1 + 2) (.inr (.inr (.inr (.inl rfl))))
        have HOP := hide OP; have HF2 := hide fr2; have HN2 := hide nar2
        clear OP D2 c2 st2 fr2 nar2
        go_wp2_with fail
        refine (unhide HOP).mono ?_
        clear HOP
        rintro e w3 ⟨⟨sb3, T3, A3, h3', rfl, hd3, c3, ei3⟩ | ⟨_, hn, _⟩, fr3⟩
        · obtain ⟨hps, hrt, ar, nar⟩ := unhide HX
          have k3 : Clean 0 12304 base h3' := by
            rcases ei3 with e | e
            · exact e
            · rw [List.reverse_nil, homed_nil] at e; exact e
          have HO := x_heap hd3 c3 k3 (unhide HT) hps (by omega)
          have ar2 := ar.kept (unhide HF2) (fun x => nar (.inl x))
          have ar3 := ar2.kept fr3 (unhide HN2)
          have HHO := hide HO; have HAR := hide (And.intro ar3 (hd3.ap (n1 + 2) (.inr (.inr (.inr (.inl rfl))))))
          clear HO ar ar2 ar3 nar hd3 c3 k3 ei3 fr3 hps hrt
          go_wp2_with fail
          refine (unhide HHO).mono ?_
          clear HHO
          rintro e w4 ⟨⟨hb4, T4, A4, rfl, hc4⟩ | ⟨_, hn, _⟩, fr4⟩
          · obtain ⟨hps, hrt, _, _⟩ := unhide HX
            have ar4 := (unhide HAR).1.kept fr4 (unhide HAR).2
            have hp4 := hc4.toHp
            have sy4 := hc4.says []
            rw [homed_nil] at sy4
            have RT : ∀ wx, Dr w4 wx → ∀ j : Nat, j < 16 → ∀ p, Calls Tryz.prog 26 #[ptr hb4, .int .i64 j] (wx.drewN p) fun e w' => e = .returned (u64 (g j)) ∧ w' = wx.drewN p := fun wx d j hj p => by
              have hpx := (hp4.still d.still).still ((Fr.refl _ wx).drewN p)
              have := h_root hpx.hp hpx.reads j hj
              rw [sy4, hrt j hj] at this
              exact this
            have CK : ∀ wx, Dr w4 wx → Calls Tryz.prog 19 #[ptr hb4] wx fun e w' => e = .returned (.int .i64 0) ∧ Still wx w' := fun wx d => h_check (hp4.still d.still) (by rw [sy4]; exact hps)
            have HRT := @hide _ RT; have HCK := @hide _ CK; have HF4 := hide hc4.hd.fr; have HAR4 := hide ar4
            clear RT CK hp4 sy4 hc4 fr4 ar4 hps hrt
            go_wp2_with fail
            go_loopw [15] (fun i wx => ∃ m : Nat, m ≤ 16 ∧ i = .int .i64 m ∧ Dr w4 wx) (fun i wx => 16 - (intOf i).toNat)
            case atStart => exact ⟨0, by omega, rfl, Dr.refl _⟩
            case round =>
              obtain ⟨q, hq16, rfl, D⟩ := hrel
              by_cases hlt2 : q < 16
              · have RTq := unhide HRT _ D q hlt2
                have arq := (unhide HAR4).kept D.still (fun x => x)
                have caq := arq.cell q hlt2
                have HRQ := @hide _ RTq; have HD := hide D
                clear RTq arq D
                go_wp2_with fail
                refine region_tailP 6 (by kernel_rfl) (by kernel_rfl) ?_
                simp only [List.take_succ_cons, List.take_zero, List.drop_succ_cons, List.drop_zero]
                repeat (go_big_quiet_step (first | (go_at_call 26; exact Calls.quiet_of_same (unhide HRQ _))))
                refine wpQuiet_nil ?_
                rintro _ ⟨nq, rfl⟩
                clear HRQ caq
                go_wp2
                exact ⟨⟨q + 1, by omega, by go_num, (unhide HD).trans ⟨nq, rfl⟩⟩, by simp [intOf]; omega⟩
              · have : q = 16 := by omega
                subst this
                have CKq := unhide HCK _ D
                have HCQ := hide CKq; have HD := hide D
                clear CKq D
                go_wp2_with fail
                refine (unhide HCQ).mono ?_
                clear HCQ
                rintro e w5 ⟨rfl, f5⟩
                have f05 : Still W w5 := ((unhide HF4).trans' (unhide HD).still (fun _ x => x.elim)).trans' f5 (fun _ x => x.elim)
                have AW := l8_awake w5 (fun j hj => f05.cell' (unhide HT j hj) (fun x => x))
                have HAW := hide AW; have HF5 := hide f05
                clear AW f5 f05
                go_wp2_with fail
                refine (unhide HAW).mono ?_
                clear HAW
                rintro e w6 ⟨rfl, f6⟩
                have HF6 := hide f6
                clear f6
                go_wp2
                go_ret
                exact ⟨rfl, (((unhide HFW).trans' (unhide HF5) (fun _ x => x.elim)).trans' (unhide HF6) (fun _ x => x.elim)).below (Nat.le_refl _) (fun _ x => x.elim)⟩
          · exact absurd trivial hn
        · exact absurd trivial hn
end Go.Proofs.YtgehfmonfofbiaaGreatDoor
