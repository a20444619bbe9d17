/- HeapSweeps. -/
import Derived.Test.YtgehfmonfofbiaaGreatDoorSwD
import Derived.Test.YtgehfmonfofbiaaGreatDoorFuC
namespace Go.Proofs.YtgehfmonfofbiaaGreatDoor
open Go.RowKit

/-- The law's blocks: the heap's, the box of the heap, the box of what stays, two rows. -/
def SwX (hb bh bs : Nat) (vl vs : Value) : Nat → Prop := fun k => k = hb ∨ k = bh ∨ k = bs ∨ vl.ownBlock = some k ∨ vs.ownBlock = some k
structure SwS (w wr : World) (hb sb b bh bs : Nat) (vl vs : Value) (ls st : List (Nat × Nat)) (lim : Int) : Prop where
  ex : ∃ T A s base, s ≤ lim ∧ HpC w (SwX hb bh bs vl vs) wr hb sb b T A 2048 True s base ∧ HpS (rb base) ∧ Lists (ask (rb base)) ls
  ch : Box wr bh (ptr hb)
  cs : Box wr bs vs
  rl : wr.ownsRow w.heap.size 53 2 vl ls.length (pcells ls)
  rs : wr.ownsRow w.heap.size 53 2 vs st.length (pcells st)
  sm : ∀ y ∈ ls, y.2 ≤ 64
  nd : (st.map Prod.fst).Nodup
  sub : ∀ y ∈ st, y ∈ ls
  al : ∀ k, vl.ownBlock = some k → bs < k ∧ vs.ownBlock ≠ some k
  av : ∀ k, vs.ownBlock = some k → bs < k

theorem row_formP {w : World} {lo n : Nat} {v : Value} {xs : List Value} (h : w.ownsRow lo 53 2 v n xs) : (v = .slice none 0 0 ∧ n = 0) ∨ ∃ g cap, v = .slice (some ⟨g, 0, none⟩) n cap := by
  rcases h.2 with ⟨e1, e2⟩ | ⟨g, cap, cur, e, _⟩
  · exact .inl ⟨e1, e2⟩
  · exact .inr ⟨g, cap, e⟩
theorem pcs_of_row {w : World} {lo cp : Nat} {ad : Option Addr} {st : List (Nat × Nat)} (rsA : w.ownsRow lo 53 2 (.slice ad st.length cp) st.length (pcells st)) : PcsAt w ad st := fun k y hy => by
  have hk : k < st.length := (List.getElem?_eq_some_iff.1 hy).1
  rcases row_formP rsA with ⟨_, e0⟩ | ⟨gg, cp', ev⟩
  · omega
  · injection ev with ev1 ev2 ev3
    subst ev1
    obtain ⟨p1, p2⟩ := pcells_at hy
    refine ⟨gg, 0, rfl, ?_, ?_⟩
    · rw [Nat.zero_add, rsA.cellAt (k * 2) (by omega)]; exact p1
    · rw [Nat.zero_add, rsA.cellAt (k * 2 + 1) (by omega)]; exact p2
theorem own_nilS {k : Nat} : ¬ (Value.slice none 0 0).ownBlock = some k := by simp [Value.ownBlock]

set_option maxRecDepth 20000 in
set_option maxHeartbeats 8000000 in
theorem sweeps_ok (a : Option Addr) (len cap : Nat) (a' : Option Addr) (len' cap' : Nat) (w : World) (zs : Nat → Int) (nums : Nums w a len zs) (_hlen : len ≤ maxLen) (ks : Nat → Bool) (kps : ∀ k, k < len' → ∃ xb xo, a' = some ⟨xb, xo, none⟩ ∧ w.cell? ⟨xb, xo + k, none⟩ = some (.bool (ks k))) (_hlen' : len' ≤ maxLen) (tab : TabL w) :
    Calls Tryz.prog 8 #[.slice a len cap, .slice a' len' cap'] w fun e w' => e = .returned (.bool true) ∧ Below w.heap.size w w' := by
  have K := l8_open w tab
  have h1 := eq_nil_heap
  have h2 := mf
  have hi := info_piece
  obtain ⟨i0, hi0⟩ : ∃ i, Tryz.prog.info? 53 = some i := by
    cases h : Tryz.prog.info? 53 with
    | none => rw [h] at hi; simp at hi
    | some i => exact ⟨i, rfl⟩
  rw [hi0] at hi
  simp only [Option.map_some, Option.some.injEq, Prod.mk.injEq] at hi
  have HI := hide (And.intro hi0 hi)
  clear hi hi0
  have HN := hide nums; have HKS := @hide _ kps
  have HK := hide K; have HT := hide tab
  clear K nums tab kps
  go_enter Tryz.func8, Tryz.ntmps8
  go_wp2_with fail
  refine (unhide HK).mono ?_
  clear HK
  rintro e w1 ⟨b, sb, hb, T, A, base, rfl, hc, nw⟩
  obtain ⟨W1, hW1⟩ : ∃ W1, w1.alloc (.cells #[ptr hb] 25) = W1 := ⟨_, rfl⟩
  have z1 : W1.heap.size = w1.heap.size + 1 := by rw [← hW1]; simp
  obtain ⟨W2, hW2⟩ : ∃ W2, W1.alloc (.cells #[.slice none 0 0] 49) = W2 := ⟨_, rfl⟩
  have hc1 := hc.more (.cells #[ptr hb] 25)
  rw [hW1] at hc1
  have hc2 := hc1.more (.cells #[.slice none 0 0] 49)
  rw [hW2] at hc2
  have f12 : Still W1 W2 := hW2 ▸ (Fr.refl _ W1).alloc _
  have bh1 : Box W1 w1.heap.size (ptr hb) := hW1 ▸ Box.new w1 (ptr hb) 25
  have bs2 : Box W2 (w1.heap.size + 1) (.slice none 0 0) := by
    have := Box.new W1 (.slice none 0 0) 49
    rw [hW2, z1] at this; exact this
  have lhb : hb < w1.heap.size := (hc.hd.xl hb hc.xh).2
  have st0 : SwS w W2 hb sb b w1.heap.size (w1.heap.size + 1) (.slice none 0 0) (.slice none 0 0) [] [] 50000 := by
    refine ⟨⟨T, A, 43021, base, by omega, hc2.sub (fun k hk => ?_) (.inl rfl), nw.st, by rw [nw.ak]; exact lists_nil⟩, bh1.kept f12 (fun x => x), bs2, World.ownsRow_nil _ _ _ _, World.ownsRow_nil _ _ _ _, fun y hy => by simp at hy, by simp, fun y hy => by simp at hy, fun k hk => absurd hk own_nilS, fun k hk => absurd hk own_nilS⟩
    rcases hk with hk | hk | hk | hk | hk
    · exact .inl (.inl hk)
    · exact .inl (.inr hk)
    · exact .inr (by omega)
    · exact absurd hk own_nilS
    · exact absurd hk own_nilS
  have AL := h_all hb 478 (by omega) W1 hc1.hp.c1
  have HST := hide st0; have HWW := hide (And.intro hW1 hW2); have HAL : Hid (Calls Tryz.prog 18 #[ptr hb] W1 fun e w' => e = .returned (.int .i64 3824) ∧ w' = W1) := AL
  clear hc hc1 hc2 f12 bh1 bs2 nw hW1 hW2 st0 AL
  go_wp2_with fail
  rw [(unhide HWW).1]
  refine (unhide HAL).mono ?_
  clear HAL
  rintro e w' ⟨rfl, hh⟩
  replace hh := hh.symm
  subst hh
  go_wp2_with fail
  rw [(unhide HWW).2]
  clear HWW z1
  generalize w1.heap.size = n1 at *
  go_loopw [9, 11] (fun v i wr => ∃ (m : Nat) (ls st : List (Nat × Nat)) (vs : Value), i = .int .i64 m ∧ m ≤ len ∧ m ≤ 25 ∧ ls.length = m ∧ st.length ≤ m ∧ SwS w wr hb sb b n1 (n1 + 1) v vs ls st (50000 + 30729 * m)) (fun v i wr => 25 - (intOf i).toNat)
  case atStart => exact ⟨0, [], [], _, rfl, by omega, by omega, rfl, by simp, by have := unhide HST; simpa using this⟩
  case round =>
    clear HST
    obtain ⟨m, ls, st, vs, rfl, hm1, hm2, hls, hst, S⟩ := hrel
    by_cases hlt : m < len ∧ m < 25
    · obtain ⟨T, A, s, base, hs, hc, hps, lst⟩ := S.ex
      obtain ⟨xb, xo, ea, cz⟩ := unhide HN m hlt.1
      have cz' : wr.cell? ⟨xb, xo + m, none⟩ = some (.int .i64 (zs m)) := hc.hd.fr.cell' cz (fun x => x)
      have e63 : bits .and .i64 (zs m) 63 = (msk (zs m) 63 : Int) := mask_i64 (zs m) 63 (by omega)
      have l63 := msk_le (zs m) 63
      obtain ⟨x, hx⟩ : ∃ x, msk (zs m) 63 + 1 = x := ⟨_, rfl⟩
      have e63' : ((msk (zs m) 63 : Nat) : Int) + 1 = x := by omega
      have hx1 : 1 ≤ x := by omega
      have hx64 : x ≤ 64 := by omega
      obtain ⟨A1, hA1⟩ : ∃ A1, wr.alloc (.cells #[.int .i64 x] 3) = A1 := ⟨_, rfl⟩
      obtain ⟨A2, hA2⟩ : ∃ A2, A1.alloc (.cells #[.int .i64 0] 3) = A2 := ⟨_, rfl⟩
      have y1 : A1.heap.size = wr.heap.size + 1 := by rw [← hA1]; simp
      have y2 : A2.heap.size = wr.heap.size + 2 := by rw [← hA2]; simp; omega
      have g1 : Still wr A1 := hA1 ▸ (Fr.refl _ wr).alloc _
      have g2 : Still A1 A2 := hA2 ▸ (Fr.refl _ A1).alloc _
      have g0 : Still wr A2 := g1.trans' g2 (fun _ x => x.elim)
      have hcA1 := hc.more (.cells #[.int .i64 x] 3)
      rw [hA1] at hcA1
      have hcA := hcA1.more (.cells #[.int .i64 0] 3)
      rw [hA2, y1] at hcA
      have bw : Box A2 wr.heap.size (.int .i64 x) := (hA1 ▸ Box.new wr (.int .i64 x) 3 : Box A1 wr.heap.size (.int .i64 x)).kept g2 (fun x => x)
      have ba : Box A2 (wr.heap.size + 1) (.int .i64 0) := by
        have := Box.new A1 (.int .i64 0) 3
        rw [hA2, y1] at this; exact this
      have bhA := S.ch.kept g0 (fun x => x)
      have bsA := S.cs.kept g0 (fun x => x)
      have lbh := S.ch.lt; have lbs := S.cs.lt
      have lhb2 := (hc.hd.xl hb hc.xh).2
      have sy := hc.says []
      rw [homed_nil] at sy
      have hsm := S.sm
      have DO := hcA.do_ (V := fun k => k = wr.heap.size + 1) (g := 38) (fi := #[]) (ca := #[ptr n1, ptr wr.heap.size, ptr (wr.heap.size + 1)]) (R := fun h P' w' => h = .well ∧ TookAt x (rb base) A (wr.heap.size + 1) P' w')
        (fun k hk => .inr hk) (by intro e; have e : hb = wr.heap.size + 1 := e; omega) (by
          rintro h P w w' F ⟨q, u, b, t⟩ hf hn
          exact ⟨q, u, b.kept hf (hn _ rfl), t⟩) (fun w3 f3 => acts_of (fun _ _ => by kernel_rfl) ((swC1 (hcA.toHp.still f3) (by rw [sy]; exact hps) x hx1 (by omega) (f3.cell' bhA.c (fun x => x)) (f3.cell' bw.c (fun x => x)) (ba.kept f3 (fun x => x)) (hcA.hd.ap _ (.inr rfl))).mono (by
          rintro e w4 (⟨rfl, T', P', o, tk⟩ | ⟨rfl, f4, hf⟩)
          · rw [sy] at tk
            exact ⟨.well, rfl, .inl rfl, T', P', o, rfl, tk⟩
          · rw [sy] at hf
            exact (hps.inv.roomy (m := 3) (k := lv x) (by omega) (lv_3 hx64) (fun u hu => lv_3 (hsm _ (lst.all u hu))) (by rw [← lst.len, hls]; omega) hf).elim))) (by omega)
      have HDO := hide DO; have HX := hide (And.intro hcA (And.intro hps (And.intro lst (And.intro bhA (And.intro bsA bw))))); have HSS := hide S; have HG0 := hide g0
      have HA := hide (And.intro hA1 hA2); have HZ := hide (And.intro lbh (And.intro lbs lhb2))
      subst ea
      have hi1 : ((m : Int) < 25) = True := by simp; omega
      clear DO hcA hcA1 hc bw ba bhA bsA g0 g1 g2 S hps lst sy hA1 hA2 lbh lbs hsm
      go_wp2_with fail
      rw [(unhide HA).1, (unhide HA).2]
      unfold DidH at HDO
      refine (unhide HDO).mono ?_
      clear HDO
      rintro e w5 ⟨fr5, ⟨P', T', A', ⟨_, u, ba5, tkg⟩, rfl, hc5⟩ | ⟨i, P', T', ⟨hq, _⟩, _⟩⟩
      · obtain ⟨hcA, hps, lst, bhA, bsA, bw⟩ := unhide HX
        obtain ⟨lbh, lbs, lhb2⟩ := unhide HZ
        have S := unhide HSS
        have g0 := unhide HG0
        have rl5 := hcA.row fr5 (fun k hk => ⟨.inl (.inl (.inr (.inr (.inr (.inl hk))))), fun e => by have := (S.rl.lt k hk).2; have e : k = wr.heap.size + 1 := e; omega⟩) (row_still S.rl g0)
        have rs5 := hcA.row fr5 (fun k hk => ⟨.inl (.inl (.inr (.inr (.inr (.inr hk))))), fun e => by have := (S.rs.lt k hk).2; have e : k = wr.heap.size + 1 := e; omega⟩) (row_still S.rs g0)
        have bh5 := hcA.box fr5 (.inl (.inl (.inr (.inl rfl)))) (by intro e; have e : n1 = wr.heap.size + 1 := e; omega) bhA
        have bs5 := hcA.box fr5 (.inl (.inl (.inr (.inr (.inl rfl))))) (by intro e; have e : n1 + 1 = wr.heap.size + 1 := e; omega) bsA
        have bw5 := hcA.box fr5 (.inl (.inr rfl)) (by intro e; have e : wr.heap.size = wr.heap.size + 1 := e; omega) bw
        have sy5 := hcA.says P'
        have hps5 : HpS (rb (homed P' base)) := by rw [← sy5]; exact tkg.st
        have ask5 : ask (rb (homed P' base)) = setK (ask (rb base)) u x := by rw [← sy5]; exact tkg.ak
        obtain ⟨c, hu, hcc⟩ := tkg.blk
        have lst5 : Lists (ask (rb (homed P' base))) (ls ++ [(u, x)]) := by
          rw [ask5, hu]
          exact lst.push hcc rfl (by omega) (by rw [← hu]; exact tkg.was)
        have hun : ∀ y ∈ ls, y.1 ≠ u := fun y hy e => by
          have o := lst.only y hy
          rw [e, tkg.was] at o
          exact o.2 o.1.symm
        have hu4 : u ≤ 478 := by have := block_lt hcc; rw [← hu] at this; exact Nat.le_trans (Nat.le_add_right _ _) this
        have s5 : wr.heap.size + 2 ≤ w5.heap.size := by have h3 := fr5.size; omega
        have lw5 : w.heap.size ≤ w5.heap.size := hc5.hd.fr.size
        have cba := ba5.c; have cbw := bw5.c
        obtain ⟨ad, cp, ev⟩ : ∃ ad cp, u9 = .slice ad m cp := by
          rcases row_formP rl5 with ⟨ev, e0⟩ | ⟨gg, cp, ev⟩
          · exact ⟨none, 0, by rw [ev, ← hls, e0]⟩
          · exact ⟨_, cp, by rw [ev, hls]⟩
        subst ev
        rw [hls] at rl5
        have HY := hide (And.intro hc5 (And.intro hps5 (And.intro lst5 (And.intro hun (And.intro bh5 (And.intro bs5 (And.intro rs5 (And.intro ba5 bw5)))))))); have HOWN := hide rl5
        have HFW := hide hc5.hd.fr
        clear hcA hps lst bhA bsA bw rl5 rs5 bh5 bs5 bw5 sy5 hps5 ask5 lst5 hcc hu hun tkg ba5 fr5 hc5 S g0 HX HG0
        generalize hgv : pcells ls = vals at *
        have HGV := hide hgv
        clear hgv
        go_wp2_with (at_builtin; refine wpList_append_own_at _ rfl _ _ 49 rfl w.heap.size 53 i0 (.agg #[.int .i64 0, .int .i64 0]) 2 16 Tryz.underlying49 (unhide HI).1 (unhide HI).2.1 (unhide HI).2.2.1 (unhide HI).2.2.2 rfl (by decide) _ m vals rfl ((unhide HOWN).alloc _) _ 1 1 [.int .i64 (160 + (u : Int) * 8), .int .i64 (x : Int)] rfl rfl (piece_news _ _ _ _) (by intro q hq; simp at hq; rcases hq with rfl | rfl <;> rfl) (by unfold maxLen; omega) (by omega) (by simp; omega) ?_)
        intro v' w6 hown hgrow hnil hloc
        have f6 : Fr (fun k => (Value.slice ad m cp).ownBlock = some k) w5 w6 := ((Fr.refl (fun k => (Value.slice ad m cp).ownBlock = some k) w5).alloc _).grown hgrow (fun r e => .inl e)
        obtain ⟨hc5, hps5, lst5, hun, bh5, bs5, rs5, ba5, bw5⟩ := unhide HY
        have S := unhide HSS
        obtain ⟨lbh, lbs, lhb2⟩ := unhide HZ
        have hloc' : ∀ k, v'.ownBlock = some k → (Value.slice ad m cp).ownBlock = some k ∨ k = w5.heap.size + 1 := fun k hk => by
          rcases hloc with e | e
          · left; rw [← e]; exact hk
          · right
            rw [hk] at e
            simpa using Option.some.inj e
        have rlt : ∀ k, (Value.slice ad m cp).ownBlock = some k → k < wr.heap.size := fun k hk => (S.rl.lt k hk).2
        have bh6 := bh5.kept f6 (fun e => by have := (S.al _ e).1; omega)
        have bs6 := bs5.kept f6 (fun e => by have := (S.al _ e).1; omega)
        have ba6 := ba5.kept f6 (fun e => by have := rlt _ e; omega)
        have bw6 := bw5.kept f6 (fun e => by have := rlt _ e; omega)
        have rs6 := row_kept rs5 f6 (fun k hk e => (S.al k e).2 hk)
        have S6 : SwS w w6 hb sb b n1 (n1 + 1) v' vs (ls ++ [(u, x)]) st (50000 + 30729 * (m + 1 : Nat)) := by
          refine ⟨⟨T', A', s + 30729, homed P' base, by omega, hc5.grow f6 (fun k hk => .inl (.inl (.inr (.inr (.inr (.inl hk)))))) (fun e => by have := (S.al _ e).1; omega) (fun k hk => ?_) (.inl rfl), hps5, lst5⟩, bh6, bs6, ?_, rs6, fun y hy => ?_, S.nd, fun y hy => List.mem_append_left _ (S.sub y hy), fun k hk => ?_, S.av⟩
          · rcases hk with hk | hk | hk | hk | hk
            · exact .inl (.inl (.inl (.inl hk)))
            · exact .inl (.inl (.inl (.inr (.inl hk))))
            · exact .inl (.inl (.inl (.inr (.inr (.inl hk)))))
            · rcases hloc' k hk with e | e
              · exact .inl (.inl (.inl (.inr (.inr (.inr (.inl e))))))
              · have := (hown.lt k hk).2
                exact .inr ⟨by omega, this⟩
            · exact .inl (.inl (.inl (.inr (.inr (.inr (.inr hk))))))
          · rw [pcells_app, List.length_append, hls, unhide HGV]; exact hown
          · rcases List.mem_append.1 hy with hy | hy
            · exact S.sm y hy
            · simp at hy; subst hy; exact hx64
          · rcases hloc' k hk with e | e
            · exact S.al k e
            · refine ⟨by omega, fun h => ?_⟩
              have := (rs5.lt k h).2
              omega
        have hun' : ∀ y ∈ st, y.1 ≠ u := fun y hy => hun y (S.sub y hy)
        have FW6 : Still w w6 := by
          obtain ⟨_, _, _, _, _, hc6, _, _⟩ := S6.ex
          exact hc6.hd.fr
        have HS6 := hide S6; have HUN := @hide _ hun'; have HFW6 := hide FW6
        have cbs := bs6.c; have zbs := bs6.z; have cba6 := ba6.c; have cbw6 := bw6.c
        obtain ⟨ad', cp', ev⟩ : ∃ ad cp, vs = .slice ad st.length cp := by
          rcases row_formP rs6 with ⟨ev, e0⟩ | ⟨gg, cp, ev⟩
          · exact ⟨none, 0, by rw [ev, e0]⟩
          · exact ⟨_, cp, ev⟩
        have lw6 := FW6.size
        have HBB := hide (And.intro ba6 bw6)
        clear hown hgrow hnil hloc f6 hc5 hps5 lst5 hun bh5 bs5 rs5 ba5 bw5 S hloc' rlt bh6 bs6 ba6 bw6 rs6 S6 hun' FW6 HY HSS HOWN HGV cba cbw HFW
        by_cases hk : m < len' ∧ ks m = true
        · obtain ⟨hk1, hk2⟩ := hk
          obtain ⟨xk, yk, ek, ck⟩ := unhide HKS m hk1
          have ck6 := (unhide HFW6).cell' ck (fun x => x)
          rw [hk2] at ck6
          subst ek
          subst ev
          generalize hgv : pcells st = vals2 at *
          generalize hgl : st.length = ns at *
          have HGV := hide hgv; have HGL := hide hgl
          have rs6 := (unhide HS6).rs
          rw [hgl, hgv] at rs6
          have HOWN := hide rs6
          clear hgv hgl hk2 ck rs6
          go_wp2_with (at_builtin; refine wpList_append_own_at _ rfl _ _ 49 rfl w.heap.size 53 i0 (.agg #[.int .i64 0, .int .i64 0]) 2 16 Tryz.underlying49 (unhide HI).1 (unhide HI).2.1 (unhide HI).2.2.1 (unhide HI).2.2.2 rfl (by decide) _ ns vals2 rfl ((unhide HOWN).alloc _) _ 1 1 [.int .i64 (160 + (u : Int) * 8), .int .i64 (x : Int)] rfl rfl (piece_news _ _ _ _) (by intro q hq; simp at hq; rcases hq with rfl | rfl <;> rfl) (by unfold maxLen; omega) (by omega) (by simp; omega) ?_)
          intro v2 w7 hown hgrow hnil hloc
          obtain ⟨g2, cp2, ev2⟩ : ∃ g cp, v2 = .slice (some ⟨g, 0, none⟩) (ns + 1) cp := by
            rcases row_formP hown with ⟨_, e0⟩ | ⟨gg, cp, ev⟩
            · omega
            · exact ⟨gg, cp, ev⟩
          subst ev2
          have S6 := unhide HS6
          have f7 : Fr (fun k => (Value.slice ad' ns cp').ownBlock = some k) w6 w7 := ((Fr.refl (fun k => (Value.slice ad' ns cp').ownBlock = some k) w6).alloc _).grown hgrow (fun r e => .inl e)
          have bs7 := S6.cs.kept f7 (fun e => by have := S6.av _ e; omega)
          have c7 := bs7.c; have z7 := bs7.z
          have hloc' : ∀ k, (Value.slice (some ⟨g2, 0, none⟩) (ns + 1) cp2).ownBlock = some k → (Value.slice ad' ns cp').ownBlock = some k ∨ k = w6.heap.size + 1 := fun k hk => by
            rcases hloc with e | e
            · left; rw [← e]; exact hk
            · right
              rw [hk] at e
              simpa using Option.some.inj e
          obtain ⟨W8, hW8⟩ : ∃ W8, w7.setCell ⟨n1 + 1, 0, none⟩ (.slice (some ⟨g2, 0, none⟩) (ns + 1) cp2) = W8 := ⟨_, rfl⟩
          have f8 : Fr (fun k => k = n1 + 1) w7 W8 := hW8 ▸ Fr.box w7 (n1 + 1) _
          have bs8 : Box W8 (n1 + 1) (.slice (some ⟨g2, 0, none⟩) (ns + 1) cp2) := hW8 ▸ bs7.set _
          have lt6 := S6.cs.lt
          have av2 : ∀ k, (Value.slice (some ⟨g2, 0, none⟩) (ns + 1) cp2).ownBlock = some k → n1 + 1 < k := fun k hk => by
            rcases hloc' k hk with e | e
            · exact S6.av k e
            · omega
          have S8 : SwS w W8 hb sb b n1 (n1 + 1) v' (.slice (some ⟨g2, 0, none⟩) (ns + 1) cp2) (ls ++ [(u, x)]) (st ++ [(u, x)]) (50000 + 30729 * (m + 1 : Nat)) := by
            obtain ⟨T6, A6, s6, base6, hs6, hc6, hps6, lst6⟩ := S6.ex
            have lhb6 : hb < n1 := lhb
            have hc7 := hc6.grow f7 (fun k hk => .inr (.inr (.inr (.inr hk)))) (fun e => by have := S6.av _ e; omega) (Y := SwX hb n1 (n1 + 1) v' (.slice (some ⟨g2, 0, none⟩) (ns + 1) cp2)) (fun k hk => by
              rcases hk with hk | hk | hk | hk | hk
              · exact .inl (.inl hk)
              · exact .inl (.inr (.inl hk))
              · exact .inl (.inr (.inr (.inl hk)))
              · exact .inl (.inr (.inr (.inr (.inl hk))))
              · rcases hloc' k hk with e | e
                · exact .inl (.inr (.inr (.inr (.inr e))))
                · have := (hown.lt k hk).2
                  exact .inr ⟨by omega, this⟩) (.inl rfl)
            have hc8 := hc7.var f8 (fun k hk => .inr (.inr (.inl hk))) (by intro e; have e : hb = n1 + 1 := e; omega)
            refine ⟨⟨T6, A6, s6, base6, hs6, hc8, hps6, lst6⟩, (S6.ch.kept f7 (fun e => by have := S6.av _ e; omega)).kept f8 (by intro e; have e : n1 = n1 + 1 := e; omega), bs8, row_kept (row_kept S6.rl f7 (fun k hk e => (S6.al k hk).2 e)) f8 (fun k hk e => by have := (S6.al k hk).1; have e : k = n1 + 1 := e; omega), ?_, S6.sm, ?_, fun y hy => ?_, fun k hk => ⟨(S6.al k hk).1, fun e => ?_⟩, av2⟩
            · rw [pcells_app, List.length_append, unhide HGL, unhide HGV]
              exact row_kept hown f8 (fun k hk e => by have := av2 k hk; have e : k = n1 + 1 := e; omega)
            · rw [List.map_append, List.nodup_append]
              refine ⟨S6.nd, by simp, fun a ha b hb' => ?_⟩
              obtain ⟨y, hy, rfl⟩ := List.mem_map.1 ha
              simp at hb'
              subst hb'
              exact unhide HUN y hy
            · rcases List.mem_append.1 hy with hy | hy
              · exact S6.sub y hy
              · exact List.mem_append_right _ hy
            · rcases hloc' k e with e | e
              · exact (S6.al k hk).2 e
              · have := (S6.rl.lt k hk).2
                omega
          have HS8 := hide (And.intro hW8 S8)
          clear hown hgrow hnil hloc S6 f7 bs7 hloc' hW8 f8 bs8 av2 S8 HS6 HBB cbs zbs
          go_wp2
          obtain ⟨hW8, S8⟩ := unhide HS8
          rw [hW8]
          exact ⟨⟨m + 1, _, _, _, by go_num, by omega, by omega, by simp [hls], by have := unhide HGL; simp; omega, S8⟩, by simp [intOf]; omega⟩
        · rcases (show ¬ m < len' ∨ (m < len' ∧ ks m = false) by
            by_cases h : m < len'
            · right; refine ⟨h, ?_⟩
              cases e : ks m
              · rfl
              · exact absurd ⟨h, e⟩ hk
            · exact .inl h) with hk1 | ⟨hk1, hk2⟩
          · clear hk ev
            go_wp2
            exact ⟨⟨m + 1, _, st, vs, by go_num, by omega, by omega, by simp [hls], by omega, unhide HS6⟩, by simp [intOf]; omega⟩
          · obtain ⟨xk, yk, ek, ck⟩ := unhide HKS m hk1
            have ck6 := (unhide HFW6).cell' ck (fun x => x)
            rw [hk2] at ck6
            subst ek
            clear hk ev hk2 ck
            go_wp2
            exact ⟨⟨m + 1, _, st, vs, by go_num, by omega, by omega, by simp [hls], by omega, unhide HS6⟩, by simp [intOf]; omega⟩
      · cases hq
    · have HS0 := hide S
      have hlt' : ¬ (m < len ∧ m < 25) := hlt
      obtain ⟨T, A, s, base, hs, hc, hps, lst⟩ := S.ex
      obtain ⟨A1, hA1⟩ : ∃ A1, wr.alloc (.cells #[.int .i64 0] 3) = A1 := ⟨_, rfl⟩
      have g1 : Still wr A1 := hA1 ▸ (Fr.refl _ wr).alloc _
      have hcA := hc.more (.cells #[.int .i64 0] 3)
      rw [hA1] at hcA
      have ba : Box A1 wr.heap.size (.int .i64 0) := hA1 ▸ Box.new wr (.int .i64 0) 3
      have bhA := S.ch.kept g1 (fun x => x)
      have bsA := S.cs.kept g1 (fun x => x)
      have rsA := row_still S.rs g1
      obtain ⟨ad', cp', ev⟩ : ∃ ad cp, vs = .slice ad st.length cp := by
        rcases row_formP rsA with ⟨ev, e0⟩ | ⟨gg, cp, ev⟩
        · exact ⟨none, 0, by rw [ev, e0]⟩
        · exact ⟨_, cp, ev⟩
      subst ev
      have pcA : PcsAt A1 ad' st := pcs_of_row rsA
      have sy := hc.says []
      rw [homed_nil] at sy
      have lbh := S.ch.lt; have lbs := S.cs.lt
      have lhb2 := (hc.hd.xl hb hc.xh).2
      have hst4 : st.length ≤ 478 := by omega
      have DO := hcA.do_ (V := fun k => k = wr.heap.size) (g := 39) (fi := #[]) (ca := #[ptr n1, ptr (n1 + 1), ptr wr.heap.size]) (R := fun h P' w' => h = .well ∧ SwAt (fun u => decide (∃ y ∈ st, y.1 = u)) (rb base) ls.length A wr.heap.size P' w')
        (fun k hk => .inr hk) (by intro e; have e : hb = wr.heap.size := e; omega) (by
          rintro h P w w' F ⟨q, t⟩ hf hn
          exact ⟨q, t.n.kept hf (hn _ rfl), t.st, t.ak, t.lr⟩) (fun w3 f3 => acts_of (fun _ _ => by kernel_rfl) ((swC2 (hcA.toHp.still f3) (by rw [sy]; exact hps) ls (by rw [sy]; exact lst) ad' cp' st (pcA.kept f3) hst4 (f3.cell' bhA.c (fun x => x)) (f3.cell' bsA.c (fun x => x)) (ba.kept f3 (fun x => x)) (hcA.hd.ap _ (.inr rfl))).mono (by
          rintro e w4 ⟨rfl, T', P', o, sw⟩
          rw [sy] at sw
          exact ⟨.well, rfl, .inl rfl, T', P', o, rfl, sw⟩))) (by omega)
      have AW : ∀ w5, Still w w5 → Calls Tryz.prog 20 #[] w5 fun e w' => e = .returned (.bool true) ∧ Still w5 w' := fun w5 f5 => l8_awake w5 (fun j hj => f5.cell' (unhide HT j hj) (fun x => x))
      obtain ⟨adl, cpl, evl⟩ : ∃ ad cp, u9 = .slice ad m cp := by
        rcases row_formP S.rl with ⟨ev, e0⟩ | ⟨gg, cp, ev⟩
        · exact ⟨none, 0, by rw [ev, ← hls, e0]⟩
        · exact ⟨_, cp, by rw [ev, hls]⟩
      subst evl
      have HDO := hide DO; have HX := hide (And.intro hcA (And.intro hps (And.intro lst (And.intro bhA (And.intro bsA (And.intro rsA pcA)))))); have HA := hide hA1; have HAW := @hide _ AW; have HZ := hide (And.intro lbh (And.intro lbs lhb2))
      have HHL := hide hlt'
      clear DO AW hcA hps lst bhA bsA rsA pcA ba g1 hc sy S hA1 lbh lbs lhb2 hlt'
      rcases (show ¬ m < len ∨ (m < len ∧ m = 25) by omega) with hA | ⟨hA, hA25⟩
      case' inl =>
        go_wp2_with fail
      case' inr =>
        have hi1 : ((m : Int) < 25) = False := by simp; omega
        clear hA25
        go_wp2_with fail
      all_goals
        rw [unhide HA]
        unfold DidH at HDO
        refine (unhide HDO).mono ?_
        clear HDO
        rintro e w5 ⟨fr5, ⟨P', T', A', ⟨_, sw⟩, rfl, hc5⟩ | ⟨i, P', T', ⟨hq, _⟩, _⟩⟩
        · obtain ⟨hcA, hps, lst, bhA, bsA, rsA, pcA⟩ := unhide HX
          obtain ⟨lbh, lbs, lhb2⟩ := unhide HZ
          have S := unhide HS0
          have rs5 := hcA.row fr5 (fun k hk => ⟨.inl (.inr (.inr (.inr (.inr hk)))), fun e => by have := (S.rs.lt k hk).2; have e : k = wr.heap.size := e; omega⟩) rsA
          have bh5 := hcA.box fr5 (.inl (.inr (.inl rfl))) (by intro e; have e : n1 = wr.heap.size := e; omega) bhA
          have bs5 := hcA.box fr5 (.inl (.inr (.inr (.inl rfl)))) (by intro e; have e : n1 + 1 = wr.heap.size := e; omega) bsA
          have pc5 := pcs_of_row rs5
          have sy5 := hcA.says P'
          have sy6 := hc5.says []
          rw [homed_nil] at sy6
          obtain ⟨lr, hlr, hll⟩ := sw.lr
          have ls5 := lst.swept (fun u hu => (hps.inv.asks u hu).1) hlr S.nd S.sub sw.ak
          have hps5 := sw.st
          have nb5 := sw.n
          have hN : lr.length = st.length := by rw [hlr.len, ls5.len]
          generalize (goneU (fun u => decide (∃ y ∈ st, y.1 = u)) (plU (ask (rb base)) 478)).length = N at hll nb5
          rw [sy5] at ls5 hps5
          have SD := l8_sound hc5.toHp (by rw [sy6]; exact hps5) ad' cp' st (by rw [sy6]; exact ls5) pc5
          have eN : ((N : Int) == (m : Int) - st.length) = true := by simp; omega
          have cn := nb5.c; have ch := bh5.c; have cs := bs5.c
          have HSD := hide SD; have HF5 := hide hc5.hd.fr
          clear SD hcA hps lst bhA bsA rsA pcA rs5 bh5 bs5 pc5 sy5 sy6 hlr hll hN ls5 hps5 nb5 sw fr5 hc5 S HX HS0
          generalize st.length = ns at *
          go_wp2_with fail
          refine (unhide HSD).mono ?_
          clear HSD
          rintro e w6 ⟨rfl, f6⟩
          have HF6 := hide ((unhide HF5).trans' f6 (fun _ x => x.elim))
          have HAW6 := hide (unhide HAW w6 (unhide HF6))
          clear f6
          go_wp2_with fail
          refine (unhide HAW6).mono ?_
          clear HAW6
          rintro e w7 ⟨rfl, f7⟩
          have HF7 := hide ((unhide HF6).trans' f7 (fun _ x => x.elim))
          clear f7
          go_wp2
          go_ret
          exact ⟨rfl, (unhide HF7).below (Nat.le_refl _) (fun _ x => x.elim)⟩
        · cases hq
end Go.Proofs.YtgehfmonfofbiaaGreatDoor
