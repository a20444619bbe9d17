/- HeapFull: the walk. -/
import Derived.Test.YtgehfmonfofbiaaGreatDoorFuC
namespace Go.Proofs.YtgehfmonfofbiaaGreatDoor
open Go.RowKit

theorem HpC.older {w0 W w1 : World} {X Y : Nat → Prop} {hb sb b N : Nat} {T : Tay} {A : Ab} {free : Prop} {s : Int} {base : Nat → Int} (h : HpC W X w1 hb sb b T A N free s base) (f : Still w0 W) (l0 : 0 < w0.heap.size) (hY : ∀ k, Y k → X k ∨ (w0.heap.size ≤ k ∧ k < W.heap.size)) (hy : Y hb) : HpC w0 Y w1 hb sb b T A N free s base :=
  ⟨⟨h.hd.st, f.trans' h.hd.fr (fun _ x => x.elim), fun k hk => Nat.le_trans f.size (h.hd.new k hk), fun k hk => (hY k hk).elim (h.hd.ap k) (fun e ht => by have := h.hd.new k ht; omega),
    fun k hk => (hY k hk).elim (fun e => ⟨Nat.le_trans f.size (h.hd.xl k e).1, (h.hd.xl k e).2⟩) (fun e => ⟨e.1, Nat.lt_of_lt_of_le e.2 h.hd.fr.size⟩)⟩, h.cl, h.hp, hy, l0⟩

def FuX (hb bh bw : Nat) (v : Value) : Nat → Prop := fun k => k = hb ∨ k = bh ∨ k = bw ∨ v.ownBlock = some k

structure FuS (w wr : World) (hb sb b bh bw x : Nat) (v : Value) (ls : List (Nat × Nat)) (lim : Int) : Prop where
  ex : ∃ T A s base, s ≤ lim ∧ HpC w (FuX hb bh bw v) wr hb sb b T A 2048 True s base ∧ HpS (rb base) ∧ Lists (ask (rb base)) ls
  ch : Box wr bh (ptr hb)
  cw : Box wr bw (.int .i64 x)

def lenV (v : Value) : Nat := match v with | .slice _ n _ => n | _ => 0
theorem own_nilF {k : Nat} : ¬ (Value.slice none 0 0).ownBlock = some k := by simp [Value.ownBlock]

/-- All pieces of one size: their words, and how many. -/
theorem Lists.one {K : Nat → Nat} {ls : List (Nat × Nat)} (l : Lists K ls) {x : Nat} (h : ∀ y ∈ ls, y.2 = x) : inP K = ls.length * 2 ^ lv x := by
  rw [← l.sum]
  clear l
  induction ls with
  | nil => simp
  | cons y ls ih =>
    rw [List.map_cons, List.sum_cons, ih (fun z hz => h z (List.mem_cons_of_mem _ hz)), h y (List.mem_cons_self ..), List.length_cons, Nat.add_mul]
    omega

theorem take_out {α : Type} : ∀ (l : List α) (d : Nat) (y : α), l[d]? = some y → l.Perm (y :: l.eraseIdx d)
  | [], d, y, h => by simp at h
  | x :: l, 0, y, h => by simp at h; subst h; simp
  | x :: l, d + 1, y, h => by
    simp only [List.getElem?_cons_succ] at h
    simp only [List.eraseIdx_cons_succ]
    exact ((take_out l d y h).cons x).trans (List.Perm.swap y x _)
theorem put_in {α : Type} : ∀ (l : List α) (d : Nat) (a : α), d < l.length → (l.set d a).Perm (a :: l.eraseIdx d)
  | [], d, a, h => by simp at h
  | x :: l, 0, a, h => by simp
  | x :: l, d + 1, a, h => by
    simp only [List.set_cons_succ, List.eraseIdx_cons_succ]
    exact ((put_in l d a (by simpa using h)).cons x).trans (List.Perm.swap a x _)
theorem swap_perm {l : List (Nat × Nat)} {q k : Nat} {y1 y2 : Nat × Nat} (h1 : l[q]? = some y1) (h2 : l[k]? = some y2) (hqk : q ≤ k) : (l.drop q).Perm (((l.set q y2).set k y1).drop q) := by
  have lq : q < l.length := by
    rcases Nat.lt_or_ge q l.length with h | h
    · exact h
    · rw [List.getElem?_eq_none h] at h1; cases h1
  have lk : k < l.length := by
    rcases Nat.lt_or_ge k l.length with h | h
    · exact h
    · rw [List.getElem?_eq_none h] at h2; cases h2
  rw [List.drop_set, List.drop_set]
  simp only [Nat.lt_irrefl, if_false, if_neg (show ¬ k < q by omega), Nat.sub_self]
  have e1 : l.drop q = y1 :: l.drop (q + 1) := by
    rw [List.getElem?_eq_getElem lq] at h1
    injection h1 with h1
    rw [← h1]; exact List.drop_eq_getElem_cons lq
  rw [e1]
  by_cases e : k = q
  · subst e
    rw [h1] at h2
    injection h2 with h2
    subst h2
    simp
  · obtain ⟨d, hd⟩ : ∃ d, k - q = d + 1 := ⟨k - q - 1, by omega⟩
    rw [hd]
    simp only [List.set_cons_zero, List.set_cons_succ]
    have ld : d < (l.drop (q + 1)).length := by rw [List.length_drop]; omega
    have g : (l.drop (q + 1))[d]? = some y2 := by rw [List.getElem?_drop, show q + 1 + d = k by omega]; exact h2
    exact (((take_out _ d y2 g).cons y1).trans (List.Perm.swap y2 y1 _)).trans ((put_in _ d y1 ld).symm.cons y2)
theorem places_set (l : List (Nat × Nat)) (i : Nat) (y : Nat × Nat) : natVals (places (l.set i y)) = (natVals (places l)).set i (.int .i64 (160 + (y.1 : Int) * 8)) := by
  unfold natVals places
  rw [List.map_set, List.map_set]
  simp

theorem tmod_512 (z : Int) : -512 < z.tmod 512 ∧ z.tmod 512 < 512 := by
  by_cases h : 0 ≤ z
  · rw [Int.tmod_eq_emod_of_nonneg h]; omega
  · have : z.tmod 512 = -((-z).tmod 512) := by rw [Int.neg_tmod, Int.neg_neg]
    rw [this, Int.tmod_eq_emod_of_nonneg (by omega)]
    omega
theorem full_x (ws : Int) : ∃ x : Nat, wrap64 ((wrap64 (ws.tmod 512 + 512)).tmod 512 + 1) = x ∧ 1 ≤ x ∧ x ≤ 512 := by
  have h := tmod_512 ws
  rw [small_w64 (x := ws.tmod 512 + 512) (by omega), Int.tmod_eq_emod_of_nonneg (by omega)]
  rw [small_w64 (by omega)]
  exact ⟨((ws.tmod 512 + 512) % 512 + 1).toNat, by omega, by omega, by omega⟩

set_option maxRecDepth 20000 in
set_option maxHeartbeats 8000000 in
theorem full_ok (ws : Int) (a : Option Addr) (len cap : Nat) (w : World) (zs : Nat → Int) (nums : Nums w a len zs) (_hlen : len ≤ maxLen) (_hb1 : -9223372036854775808 ≤ ws) (_hb2 : ws ≤ 9223372036854775807) (tab : TabL w) :
    Calls Tryz.prog 7 #[.int .i64 ws, .slice a len cap] w fun e w' => e = .returned (.bool true) ∧ Below w.heap.size w w' := by
  obtain ⟨W, hW⟩ : ∃ W, w.alloc (.cells #[.int .i64 ws] 3) = W := ⟨_, rfl⟩
  have fW : Still w W := hW ▸ (Fr.refl _ w).alloc _
  have bws : Box W w.heap.size (.int .i64 ws) := hW ▸ Box.new w _ 3
  have tabW : TabL W := fun j hj => fW.cell' (tab j hj) (fun x => x)
  have l0 : 0 < w.heap.size := World.block_lt_of_cell? _ _ (tab 0 (by omega))
  have zW : W.heap.size = w.heap.size + 1 := by rw [← hW]; simp
  have K := l8_open W tabW
  have h1 := eq_nil_heap
  have h2 := mf
  have hi := info3
  obtain ⟨i0, hi0⟩ : ∃ i, Tryz.prog.info? 3 = some i := by
    cases h : Tryz.prog.info? 3 with
    | none => rw [h] at hi; simp at hi
    | some i => exact ⟨i, rfl⟩
  rw [hi0] at hi
  simp only [Option.map_some, Option.some.injEq, Prod.mk.injEq] at hi
  have HI := hide (And.intro hi0 hi)
  clear hi hi0
  have HN := hide nums
  have HK := hide K; have HT := hide tab; have HBW := hide bws; have HFW := hide fW; have HW := hide hW; have HZW := hide zW
  clear K nums tab tabW bws fW hW zW
  go_enter Tryz.func7, Tryz.ntmps7
  go_wp2_with fail
  rw [unhide HW]
  refine (unhide HK).mono ?_
  clear HK
  rintro e w1 ⟨b, sb, hb, T, A, base, rfl, hcW, nw⟩
  have zW := unhide HZW
  have hc : HpC w (fun k => k = hb ∨ k = w.heap.size) w1 hb sb b T A 2048 True 43021 base := hcW.older (unhide HFW) l0 (fun k hk => by
    rcases hk with hk | hk
    · exact .inl hk
    · exact .inr ⟨by omega, by omega⟩) (.inl rfl)
  have bw1 := (unhide HBW).kept hcW.hd.fr (fun x => x)
  obtain ⟨x, hx, hx1, hx5⟩ := full_x ws
  obtain ⟨W0, hW0⟩ : ∃ W0, w1.setCell ⟨w.heap.size, 0, none⟩ (.int .i64 x) = W0 := ⟨_, rfl⟩
  obtain ⟨W1, hW1⟩ : ∃ W1, W0.alloc (.cells #[ptr hb] 25) = W1 := ⟨_, rfl⟩
  have lhb0 : w.heap.size ≠ hb := by have := (hcW.hd.xl hb hcW.xh).1; omega
  have f0 : Fr (fun k => k = w.heap.size) w1 W0 := hW0 ▸ Fr.box w1 w.heap.size _
  have z0 : W0.heap.size = w1.heap.size := by rw [← hW0]; simp
  have hc0 := hc.var f0 (fun k hk => .inr hk) (fun e => lhb0 e.symm)
  have hc1 := hc0.more (.cells #[ptr hb] 25)
  rw [hW1, z0] at hc1
  have f1 : Still W0 W1 := hW1 ▸ (Fr.refl _ W0).alloc _
  have bh1 : Box W1 w1.heap.size (ptr hb) := by
    have := Box.new W0 (ptr hb) 25
    rw [hW1, z0] at this; exact this
  have bw2 : Box W1 w.heap.size (.int .i64 x) := (hW0 ▸ bw1.set _ : Box W0 w.heap.size (.int .i64 x)).kept f1 (fun x => x)
  have bw1' := bw1.kept ((Fr.refl (fun _ => False) w1).alloc (.cells #[ptr hb] 25)) (fun x => x)
  have cw1 := bw1'.c; have zw1 := bw1'.z
  have lw1 : w.heap.size < w1.heap.size := bw1.lt
  have lhb : hb < w1.heap.size := (hc.hd.xl hb hc.xh).2
  have st0 : FuS w W1 hb sb b w1.heap.size w.heap.size x (.slice none 0 0) [] 50000 := by
    refine ⟨⟨T, A, 43021, base, by omega, hc1.sub (fun k hk => ?_) (.inl rfl), nw.st, by rw [nw.ak]; exact lists_nil⟩, bh1, bw2⟩
    rcases hk with hk | hk | hk | hk
    · exact .inl (.inl hk)
    · exact .inr hk
    · exact .inl (.inr hk)
    · exact absurd hk own_nilF
  have AL := h_all hb 478 (by omega) W1 hc1.hp.c1
  have HST := hide st0; have HWW := hide (And.intro hW0 hW1); have HAL : Hid (Calls Tryz.prog 18 #[ptr hb] W1 fun e w' => e = .returned (.int .i64 3824) ∧ w' = W1) := AL
  clear hc hcW hc0 hc1 bw1 bw1' f0 f1 bh1 bw2 nw hW0 hW1 st0 zW AL
  go_wp2_with fail
  rw [(unhide HWW).1, (unhide HWW).2]
  refine (unhide HAL).mono ?_
  clear HAL
  rintro e w' ⟨rfl, hh⟩
  replace hh := hh.symm
  subst hh
  clear cw1 zw1 hx HWW HBW HW HZW z0
  generalize w1.heap.size = n1 at *
  go_wp2_with fail
  go_loopw [9] (fun i wr => ∃ r : Nat, r ≤ 2 ∧ i = .int .i64 r ∧ FuS w wr hb sb b n1 w.heap.size x (.slice none 0 0) [] (50000 + 40000000 * r)) (fun i wr => 2 - (intOf i).toNat)
  case atStart => exact ⟨0, by omega, rfl, by have := unhide HST; simpa using this⟩
  case round =>
    clear HST
    obtain ⟨r, hr, rfl, st⟩ := hrel
    by_cases hr2 : r < 2
    · have HST := hide st
      have hr2' : ((r : Int) < 2) = True := by simp; omega
      clear st
      go_wp2_with fail
      go_loopw [10] (fun v wx => ∃ (m : Nat) (ls : List (Nat × Nat)), ls.length = m ∧ (∀ y ∈ ls, y.2 = x) ∧ wx.ownsRow w.heap.size 3 1 v m (natVals (places ls)) ∧ (∀ k, v.ownBlock = some k → n1 + 1 ≤ k) ∧ FuS w wx hb sb b n1 w.heap.size x v ls (50000 + 40000000 * r + 30729 * m)) (fun v wx => 500 - lenV v)
      case atStart => exact ⟨0, [], rfl, fun y hy => by simp at hy, World.ownsRow_nil _ _ _ _, fun k hk => absurd hk own_nilF, by have := unhide HST; simpa using this⟩
      case round =>
        clear HST
        obtain ⟨m, ls, hls, hsz, own, ownb, st⟩ := hrel
        obtain ⟨T, A, s, base, hs, hc, hps, lst⟩ := st.ex
        obtain ⟨A1, hA1⟩ : ∃ A1, wr.alloc (.cells #[.int .i64 0] 3) = A1 := ⟨_, rfl⟩
        have g1 : Still wr A1 := hA1 ▸ (Fr.refl _ wr).alloc _
        have hcA := hc.more (.cells #[.int .i64 0] 3)
        rw [hA1] at hcA
        have ba : Box A1 wr.heap.size (.int .i64 0) := hA1 ▸ Box.new wr _ 3
        have bhA := st.ch.kept g1 (fun x => x)
        have bwA := st.cw.kept g1 (fun x => x)
        have sy := hc.says []
        rw [homed_nil] at sy
        have lbh := st.ch.lt; have lbw := st.cw.lt
        have lhb2 := (hc.hd.xl hb hc.xh).2
        have hm478 : m ≤ 478 := by have := cnt_le (ask (rb base)); rw [← lst.len] at this; omega
        have DO := hcA.do_ (V := fun k => k = wr.heap.size) (g := 35) (fi := #[]) (ca := #[ptr n1, ptr w.heap.size, ptr wr.heap.size]) (R := fun h P' w' => (h = .well ∧ TookAt x (rb base) A wr.heap.size P' w') ∨ (h = .errno 60 ∧ FullAt x (rb base)))
          (fun k hk => .inr hk) (by intro e; have e : hb = wr.heap.size := e; omega) (by
            rintro h P w w' F (⟨q, u, b, t⟩ | q) hf hn
            · exact .inl ⟨q, u, b.kept hf (hn _ rfl), t⟩
            · exact .inr q) (fun w3 f3 => acts_of (fun _ _ => by kernel_rfl) ((fuC1 (hcA.toHp.still f3) (by rw [sy]; exact hps) x hx1 hx5 (f3.cell' bhA.c (fun x => x)) (f3.cell' bwA.c (fun x => x)) (ba.kept f3 (fun x => x)) (hcA.hd.ap _ (.inr rfl))).mono (by
            rintro e w4 (⟨rfl, T', P', o, tk⟩ | ⟨rfl, f4, hf⟩)
            · rw [sy] at tk
              exact ⟨.well, rfl, .inl rfl, T', P', o, .inl ⟨rfl, tk⟩⟩
            · rw [sy] at hf
              exact ⟨.errno 60, How.ended_one _ _, .inr ⟨60, rfl⟩, T, [], OnxX.of ((Onx.start (hcA.hd.st.still f3)).quiet f4), .inr ⟨rfl, hf⟩⟩))) (by omega)
        have HDO := hide DO; have HX := hide (And.intro hcA (And.intro hps lst)); have HB := hide (And.intro bhA bwA); have HOW := hide (And.intro (row_still own g1) (And.intro ownb (And.intro hsz (show ∀ k, u10.ownBlock = some k → k < wr.heap.size from fun k hk => (own.lt k hk).2))))
        have HA := hide hA1; have HZ := hide (And.intro lbh (And.intro lbw lhb2))
        have zA1 : A1.heap.size = wr.heap.size + 1 := by rw [← hA1]; simp
        obtain ⟨ad, cp, ev⟩ : ∃ ad cp, u10 = .slice ad m cp := by
          rcases row_form own with ⟨ev, e0⟩ | ⟨gg, cp, ev⟩
          · exact ⟨none, 0, by rw [ev, e0]⟩
          · exact ⟨_, cp, ev⟩
        subst ev
        clear DO hcA hc ba bhA bwA g1 own ownb hsz st hps lst sy hA1 lbh lbw
        go_wp2_with fail
        rw [unhide HA]
        unfold DidH at HDO
        refine (unhide HDO).mono ?_
        clear HDO
        rintro e w5 ⟨fr5, ⟨P', T', A', hR, rfl, hc5⟩ | ⟨i, P', T', hR, rfl, hc5⟩⟩
        · rcases hR with ⟨_, u, ba5, tkg⟩ | ⟨e, _⟩
          · obtain ⟨hcA, hps, lst⟩ := unhide HX
            obtain ⟨bhA, bwA⟩ := unhide HB
            obtain ⟨own3, ownb, hsz, ownl⟩ := unhide HOW
            obtain ⟨lbh, lbw, lhb2⟩ := unhide HZ
            have own5 := hcA.row fr5 (fun k hk => ⟨.inl (.inr (.inr (.inr hk))), fun e => by have := ownl k hk; have e : k = wr.heap.size := e; omega⟩) own3
            have bh5 := hcA.box fr5 (.inl (.inr (.inl rfl))) (by intro e; have e : n1 = wr.heap.size := e; omega) bhA
            have bw5 := hcA.box fr5 (.inl (.inr (.inr (.inl rfl)))) (by intro e; have e : w.heap.size = wr.heap.size := e; omega) bwA
            have sy5 := hcA.says P'
            have hps5 : HpS (rb (homed P' base)) := by rw [← sy5]; exact tkg.st
            have ask5 : ask (rb (homed P' base)) = setK (ask (rb base)) u x := by rw [← sy5]; exact tkg.ak
            obtain ⟨c, hu, hcc⟩ := tkg.blk
            have lst5 : Lists (ask (rb (homed P' base))) (ls ++ [(u, x)]) := by
              rw [ask5, hu]
              exact lst.push hcc rfl (by omega) (by rw [← hu]; exact tkg.was)
            have hu4 : u ≤ 478 := by have := block_lt hcc; rw [← hu] at this; exact Nat.le_trans (Nat.le_add_right _ _) this
            have s5 : wr.heap.size + 1 ≤ w5.heap.size := by have h3 := fr5.size; omega
            have lw5 : w.heap.size ≤ w5.heap.size := hc5.hd.fr.size
            have cba := ba5.c
            have hm5 : ls.length + 1 ≤ 478 := by have := cnt_le (ask (rb (homed P' base))); rw [← lst5.len] at this; simpa using this
            have HY := hide (And.intro hc5 (And.intro hps5 (And.intro lst5 (And.intro ownb (And.intro hsz ownl))))); have HB5 := hide (And.intro bh5 (And.intro bw5 s5))
            have HOWN := hide own5
            clear hcA hps lst bhA bwA own3 ownb hsz ownl own5 bh5 bw5 tkg sy5 hps5 ask5 lst5 hc5 hcc hu ba5 fr5 HX HB HOW
            generalize hgv : natVals (places ls) = vals at *
            have HGV := hide hgv
            have hm1000 : ((1000 : Int) < m) = False := by simp; omega
            clear hgv
            go_wp2_with (at_builtin; refine wpList_append_own_at _ rfl _ _ 22 rfl w.heap.size 3 i0 (.int .i64 0) 1 8 Tryz.underlying22 (unhide HI).1 (unhide HI).2.1 (unhide HI).2.2.1 (unhide HI).2.2.2 rfl (by decide) _ m vals rfl ((unhide HOWN).alloc _) _ 1 1 [.int .i64 (160 + (u : Int) * 8)] rfl rfl ?c1 ?c2 ?c3 ?c4 ?c5 ?_)
            case c1 => exact cell_one_new _ _ _
            case c2 => intro q hq; simp at hq; subst hq; rfl
            case c3 => unfold maxLen; omega
            case c4 => omega
            case c5 => simp <;> omega
            intro v' w6 hown hgrow hnil hloc
            have f6 : Fr (fun k => (Value.slice ad m cp).ownBlock = some k) w5 w6 := ((Fr.refl (fun k => (Value.slice ad m cp).ownBlock = some k) w5).alloc _).grown hgrow (fun r e => .inl e)
            have hlv' : lenV v' = m + 1 := by
              rcases row_form hown with ⟨_, e0⟩ | ⟨gg, cp', ev⟩
              · omega
              · rw [ev]; rfl
            have HG := hide (And.intro hown (And.intro f6 (And.intro hloc hlv')))
            clear hown hgrow hnil hloc f6 hlv'
            go_wp2
            obtain ⟨hown, f6, hloc, hlv'⟩ := unhide HG
            obtain ⟨hc5, hps5, lst5, ownb, hsz, ownl⟩ := unhide HY
            obtain ⟨bh5, bw5, s5⟩ := unhide HB5
            have hloc' : ∀ k, v'.ownBlock = some k → (Value.slice ad m cp).ownBlock = some k ∨ k = w5.heap.size + 1 := fun k hk => by
              rcases hloc with e | e
              · left; rw [← e]; exact hk
              · right
                rw [hk] at e
                simpa using Option.some.inj e
            have lz := unhide HZ
            refine ⟨⟨m + 1, ls ++ [(u, x)], by simp [hls], fun y hy => ?_, ?_, fun k hk => ?_, ⟨T', A', s + 30729, homed P' base, by omega, ?_, hps5, lst5⟩, bh5.kept f6 (fun e => by have := ownb _ e; omega), bw5.kept f6 (fun e => by have := ownb _ e; omega)⟩, ?_⟩
            · rcases List.mem_append.1 hy with hy | hy
              · exact hsz y hy
              · simp at hy; subst hy; rfl
            · have := hown
              rw [← unhide HGV] at this
              simpa [natVals, places] using this
            · rcases hloc' k hk with e | e
              · exact ownb k e
              · omega
            · refine hc5.grow f6 (fun k hk => .inl (.inr (.inr (.inr hk)))) (fun e => by have := ownb _ e; omega) (fun k hk => ?_) (.inl rfl)
              rcases hk with hk | hk | hk | hk
              · exact .inl (.inl (.inl hk))
              · exact .inl (.inl (.inr (.inl hk)))
              · exact .inl (.inl (.inr (.inr (.inl hk))))
              · rcases hloc' k hk with e | e
                · exact .inl (.inl (.inr (.inr (.inr e))))
                · have := (hown.lt k hk).2
                  exact .inr ⟨by omega, this⟩
            · rw [hlv']
              show 500 - (m + 1) < 500 - m
              omega
          · exact (well_errno e).elim
        · rcases hR with ⟨e, _⟩ | ⟨e, hfull⟩
          · exact (well_errno e.symm).elim
          · obtain rfl := errno_inj e
            obtain ⟨hcA, hps, lst⟩ := unhide HX
            obtain ⟨bhA, bwA⟩ := unhide HB
            obtain ⟨own3, ownb, hsz, ownl⟩ := unhide HOW
            obtain ⟨lbh, lbw, lhb2⟩ := unhide HZ
            have own5 := hcA.row fr5 (fun k hk => ⟨.inl (.inr (.inr (.inr hk))), fun e => by have := ownl k hk; have e : k = wr.heap.size := e; omega⟩) own3
            have bh5 := hcA.box fr5 (.inl (.inr (.inl rfl))) (by intro e; have e : n1 = wr.heap.size := e; omega) bhA
            have bw5 := hcA.box fr5 (.inl (.inr (.inr (.inl rfl)))) (by intro e; have e : w.heap.size = wr.heap.size := e; omega) bwA
            have hp5 := hc5.toHp
            have sy5 := hc5.says []
            rw [homed_nil] at sy5
            have hin : inP (ask (rb base)) = m * 2 ^ lv x := by rw [lst.one hsz, hls]
            have hroom := hps.inv.room
            have hmany := hps.inv.many (m := lv x) (by have := lv_le x; omega) (fun u hu => by have := hsz _ (lst.all u hu); simp only at this; rw [this]; exact Nat.le_refl _) hfull
            rw [← lst.len, hls] at hmany
            have hmod : 478 < (478 / 2 ^ lv x + 1) * 2 ^ lv x := by
              have := Nat.lt_mul_div_succ 478 (two_pos (lv x))
              rw [Nat.mul_comm]; exact this
            have hmm : (478 / 2 ^ lv x) * 2 ^ lv x ≤ m * 2 ^ lv x := Nat.mul_le_mul_right _ hmany
            have h64 : x ≤ 64 → 2 ^ lv x ≤ 8 := fun h => Nat.pow_le_pow_right (n := 2) (j := 3) (by omega) (lv_3 h)
            have hp6 : 2 ^ lv x ≤ 64 := Nat.pow_le_pow_right (n := 2) (j := 6) (by omega) (lv_le x)
            have HOL := l8_holds x hx1 hx5 w5
            have f1 : rb base 1 = ((8 * (478 - m * 2 ^ lv x) : Nat) : Int) := by rw [hps.fr, hin]
            rw [hin] at hroom
            rw [Nat.add_mul, Nat.one_mul] at hmod
            obtain ⟨Y, hY⟩ : ∃ Y, 2 ^ lv x = Y := ⟨_, rfl⟩
            rw [hY] at hroom hmod hmm h64 hp6 f1 HOL
            obtain ⟨Q, hQ⟩ : ∃ Q, m * Y = Q := ⟨_, rfl⟩
            rw [hQ] at hroom hmm f1
            have FR := h_free hp5.hp hp5.reads (8 * (478 - Q)) (by omega) (by rw [sy5]; exact f1)
            obtain ⟨lf, hlf⟩ : ∃ lf, 8 * (478 - Q) = lf := ⟨_, rfl⟩
            rw [hlf] at FR
            have e8 : (m : Int) * (8 * Y : Nat) = ((8 * Q : Nat) : Int) := by
              rw [← hQ]
              have : ((8 * (m * Y) : Nat) : Int) = 8 * ((m : Int) * Y) := by simp
              rw [this]
              have h2 : ((8 * Y : Nat) : Int) = 8 * (Y : Int) := by simp
              rw [h2, ← Int.mul_assoc, Int.mul_comm (m : Int) 8, Int.mul_assoc]
            obtain ⟨H8, hH8⟩ : ∃ H8, 8 * Y = H8 := ⟨_, rfl⟩
            rw [hH8] at e8 HOL
            have elf : (3824 : Int) - ((8 * Q : Nat) : Int) = lf := by omega
            have c956 : x ≤ 64 → lf < 956 := fun h => by have := h64 h; omega
            have c1468 : lf < 1468 := by omega
            have cbh := bh5.c; have cbw := bw5.c
            have HHOL := hide HOL; have HFR := hide FR
            have HY := hide (And.intro hc5 (And.intro hps (And.intro lst (And.intro hsz own5)))); have HB5 := hide (And.intro bh5 bw5)
            have ownb' := ownb
            have HOB := hide ownb'
            clear hcA hps lst bhA bwA own3 ownb ownb' hsz ownl own5 bh5 bw5 hc5 fr5 HX HB HOW hp5 sy5 hin hroom hmany hmod hmm h64 hp6 HOL f1 FR hfull hlf hQ hY hH8 e
            go_wp2_with fail
            refine (unhide HFR).mono ?_
            clear HFR
            rintro e w' ⟨rfl, hh⟩
            replace hh := hh.symm
            subst hh
            go_wp2_with fail
            refine (unhide HHOL).mono ?_
            clear HHOL
            rintro e w6 ⟨rfl, D6⟩
            have D6 : Dr w5 w6 := D6
            have cbw6 : w6.cell? ⟨w.heap.size, 0, none⟩ = some (.int .i64 x) := D6.still.cell' cbw (fun x => x)
            have HD6 := hide D6
            have hc3 : ((956 : Int) + 512 ≤ lf) = False := by simp; omega
            have hc4 : ((1468 : Int) ≤ lf) = False := by simp; omega
            clear D6 cbw cbh
            rcases (show x ≤ 64 ∨ ¬ x ≤ 64 by omega) with h64 | h64
            case' inl =>
              have g1 : ((x : Int) ≤ 64) = True := by simp; omega
              have g2 : ((956 : Int) ≤ lf) = False := by have := c956 h64; simp; omega
              go_wp2_with fail
            case' inr =>
              have g1 : ((x : Int) ≤ 64) = False := by simp; omega
              go_wp2_with fail
            all_goals
              (try clear g2); clear g1 hc3 hc4 e8 elf cbw6
              go_loopw [14] (fun i wx => ∃ (q : Nat) (ls' : List (Nat × Nat)), i = .int .i64 q ∧ q ≤ m ∧ ls'.length = m ∧ wx.ownsRow w.heap.size 3 1 (.slice ad m cp) m (natVals (places ls')) ∧ FuS w wx hb sb b n1 w.heap.size x (.slice ad m cp) (ls'.drop q) (50000 + 40000000 * r + 30729 * m + 30729 * q)) (fun i wx => 500 - (intOf i).toNat)
              case atStart =>
                obtain ⟨hc5, hps, lst, hsz, own5⟩ := unhide HY
                obtain ⟨bh5, bw5⟩ := unhide HB5
                have d6 := (unhide HD6).still
                refine ⟨0, ls, rfl, by omega, hls, row_still own5 d6, ⟨T', A, s, base, by omega, (hc5.still d6).sub (fun k hk => .inl hk) (.inl rfl), hps, by simpa using lst⟩, bh5.kept d6 (fun x => x), bw5.kept d6 (fun x => x)⟩
              case round =>
                obtain ⟨q, ls', rfl, hq, hls', own, st⟩ := hrel
                by_cases hlt2 : q < m
                · obtain ⟨kk, hkk1, hkk2, hkv⟩ : ∃ kk : Nat, q ≤ kk ∧ kk < m ∧ (q < len → (q : Int) + (msk (zs q) 65535 : Int) % ((m : Int) - q) = kk) ∧ (¬ q < len → kk = q) := by
                    by_cases hql : q < len
                    · have e : ((msk (zs q) 65535 : Nat) : Int) % ((m : Int) - q) = ((msk (zs q) 65535 % (m - q) : Nat) : Int) := by
                        rw [show (m : Int) - q = ((m - q : Nat) : Int) by omega, Int.natCast_emod]
                      have hl := Nat.mod_lt (msk (zs q) 65535) (show 0 < m - q by omega)
                      exact ⟨q + msk (zs q) 65535 % (m - q), by omega, by omega, fun _ => by rw [e]; omega, fun h => absurd hql h⟩
                    · exact ⟨q, by omega, by omega, fun h => absurd h hql, fun _ => rfl⟩
                  obtain ⟨y1, hy1⟩ : ∃ y, ls'[q]? = some y := ⟨ls'[q]'(by omega), List.getElem?_eq_getElem (by omega)⟩
                  obtain ⟨y2, hy2⟩ : ∃ y, ls'[kk]? = some y := ⟨ls'[kk]'(by omega), List.getElem?_eq_getElem (by omega)⟩
                  rcases row_form own with ⟨_, e0⟩ | ⟨gg, cp', ev⟩
                  · omega
                  · injection ev with ev1 ev2 ev3
                    subst ev1 ev3
                    have c1 : wr.cell? ⟨gg, q, none⟩ = some (.int .i64 (160 + (y1.1 : Int) * 8)) := by
                      rw [own.cellAt q (by omega)]
                      simp [natVals, places, hy1]
                    have c2 : wr.cell? ⟨gg, kk, none⟩ = some (.int .i64 (160 + (y2.1 : Int) * 8)) := by
                      rw [own.cellAt kk (by omega)]
                      simp [natVals, places, hy2]
                    have z1 := own.frozenAt q; have z2 := own.frozenAt kk
                    have sw := swap_perm hy1 hy2 hkk1
                    obtain ⟨V, hV⟩ : ∃ V : World, ((wr.setCell ⟨gg, q, none⟩ (.int .i64 (160 + (y2.1 : Int) * 8))).setCell ⟨gg, kk, none⟩ (.int .i64 (160 + (y1.1 : Int) * 8))).drew = V := ⟨_, rfl⟩
                    have ownV : V.ownsRow w.heap.size 3 1 (.slice (some ⟨gg, 0, none⟩) m cp) m (natVals (places ((ls'.set q y2).set kk y1))) := by
                      rw [places_set, places_set, ← hV]
                      exact ((own.stored q _).1.stored kk _).1.drew
                    have frV : Fr (fun k => k = gg) wr V := by
                      rw [← hV]
                      exact (((Fr.refl (fun k => k = gg) wr).setCell (.inl rfl) _).setCell (.inl rfl) _).drew
                    have ggb := unhide HOB gg rfl
                    obtain ⟨T7, A7, s7, base7, hs7, hc7, hps7, lst7⟩ := st.ex
                    have l7 := lst7.same sw
                    have ll2 : ((ls'.set q y2).set kk y1).length = m := by simp [hls']
                    have hd1 : ((ls'.set q y2).set kk y1)[q]? = some y2 := by
                      by_cases e : kk = q
                      · subst e
                        rw [hy1] at hy2
                        injection hy2 with hy2
                        rw [List.getElem?_set_self (by simp; omega), hy2]
                      · rw [List.getElem?_set_ne e, List.getElem?_set_self (by omega)]
                    have hd0 : (((ls'.set q y2).set kk y1).drop q)[0]? = some y2 := by
                      rw [List.getElem?_drop, Nat.add_zero]; exact hd1
                    have cq : V.cell? ⟨gg, q, none⟩ = some (.int .i64 (160 + (y2.1 : Int) * 8)) := by
                      rw [ownV.cellAt q (by omega)]
                      simp only [natVals, places, List.map_map, List.getElem?_map, hd1]
                      simp
                    have hgghb : ¬ (fun k => k = gg) hb := by intro e; have e : hb = gg := e; omega
                    have hcV := hc7.var frV (fun k hk => .inr (.inr (.inr (by have hk : k = gg := hk; rw [hk]; rfl)))) hgghb
                    have bhV := st.ch.kept frV (by intro e; have e : n1 = gg := e; omega)
                    have bwV := st.cw.kept frV (by intro e; have e : w.heap.size = gg := e; omega)
                    obtain ⟨A1, hA1⟩ : ∃ A1, V.alloc (.cells #[.int .i64 (160 + (y2.1 : Int) * 8)] 3) = A1 := ⟨_, rfl⟩
                    have g1 : Still V A1 := hA1 ▸ (Fr.refl _ V).alloc _
                    have hcA := hcV.more (.cells #[.int .i64 (160 + (y2.1 : Int) * 8)] 3)
                    rw [hA1] at hcA
                    have ba : Box A1 V.heap.size (.int .i64 (160 + (y2.1 : Int) * 8)) := hA1 ▸ Box.new V _ 3
                    have bhA := bhV.kept g1 (fun x => x)
                    have bwA := bwV.kept g1 (fun x => x)
                    have sy := hcV.says []
                    rw [homed_nil] at sy
                    have hya := l7.only y2 (List.mem_of_getElem? hd0)
                    have hyn : ask (rb base7) y2.1 ≠ 0 := by rw [hya.1]; exact hya.2
                    have hy4 := (hps7.inv.asks y2.1 hyn).1
                    have DO := hcA.do_ (V := fun _ => False) (g := 37) (fi := #[]) (ca := #[ptr n1, ptr V.heap.size]) (R := fun h P' _ => h = .well ∧ Gave (rb base7) y2.1 (says P' A7)) (fun k hk => hk.elim) (fun x => x) (fun h P w w' F r _ _ => r) (fun w3 f3 => acts_of (fun _ _ => by kernel_rfl) ((fuC2 (hcA.toHp.still f3) (by rw [sy]; exact hps7) y2.1 (by rw [sy]; exact hyn) (f3.cell' bhA.c (fun x => x)) (f3.cell' ba.c (fun x => x))).mono (by
                      rintro e w4 ⟨rfl, T', P', o, gv⟩
                      rw [sy] at gv
                      exact ⟨.well, rfl, .inl rfl, T', P', OnxX.of o, rfl, gv⟩))) (by omega)
                    have HDO := hide DO; have HX := hide (And.intro hcA (And.intro hps7 (And.intro l7 (And.intro bhA (And.intro bwA hd0))))); have HOV := hide (row_still ownV g1); have HV := hide hV; have HA := hide hA1; have HLL := hide ll2
                    have l65 := msk_le (zs q) 65535
                    have e65 : bits .and .i64 (zs q) 65535 = (msk (zs q) 65535 : Int) := mask_i64 (zs q) 65535 (by omega)
                    have hmq : ((m : Int) - q == 0) = false := by simp; omega
                    have HFRW := hide hc7.hd.fr
                    clear DO own st sw ownV frV hV hc7 hcV hcA hps7 lst7 l7 bhV bwV bhA bwA ba g1 hd0 hd1 hya hyn sy hA1 ll2
                    rcases (show (q < len ∧ q = kk) ∨ (q < len ∧ ¬ q = kk) ∨ ¬ q < len by omega) with hA | hA | hA
                    all_goals
                      first
                      | (obtain ⟨hql, hqk⟩ := hA
                         subst hqk
                         obtain ⟨xb, xo, ea, cz⟩ := unhide HN q hql
                         subst ea
                         have czr : wr.cell? ⟨xb, xo + q, none⟩ = some (.int .i64 (zs q)) := (unhide HFRW).cell' cz (fun x => x)
                         have hkv1 := hkv.1 hql
                         have hyy : y1 = y2 := by rw [hy1] at hy2; injection hy2
                         subst hyy
                         clear c2 z2
                         go_wp2_with fail
                         go_region)
                      | (obtain ⟨hql, hqk⟩ := hA
                         obtain ⟨xb, xo, ea, cz⟩ := unhide HN q hql
                         subst ea
                         have czr : wr.cell? ⟨xb, xo + q, none⟩ = some (.int .i64 (zs q)) := (unhide HFRW).cell' cz (fun x => x)
                         have hkv1 := hkv.1 hql
                         go_wp2_with fail
                         go_region)
                      | (have hqk : q = kk := (hkv.2 hA).symm
                         subst hqk
                         have hyy : y1 = y2 := by rw [hy1] at hy2; injection hy2
                         subst hyy
                         clear c2 z2
                         go_wp2_with fail
                         go_region)
                    all_goals
                      rw [unhide HV]
                      (try clear czr cz); clear c1 z1 HV
                      go_wp2_with fail
                      rw [unhide HA]
                      unfold DidH at HDO
                      refine (unhide HDO).mono ?_
                      clear HDO
                      rintro e w8 ⟨fr8, ⟨P', T8, A8, ⟨_, gv⟩, rfl, hc8⟩ | ⟨i, P', T8, ⟨hq2, _⟩, _⟩⟩
                      · have HZ8 := hide (And.intro fr8 (And.intro gv hc8))
                        clear fr8 gv hc8 cq
                        go_wp2
                        obtain ⟨fr8, gv, hc8⟩ := unhide HZ8
                        obtain ⟨hcA, hps7, l7, bhA, bwA, hd0⟩ := unhide HX
                        have sy8 := hcA.says P'
                        have own8 := hcA.row fr8 (fun k hk => ⟨.inl (.inr (.inr (.inr hk))), fun x => x⟩) (unhide HOV)
                        have lst8 := l7.drop hps7.inv hd0
                        rw [List.eraseIdx_zero, List.tail_drop, ← gv.ak, sy8] at lst8
                        exact ⟨⟨q + 1, _, by go_num, by omega, unhide HLL, own8, ⟨T8, A8, s7 + 30729, homed P' base7, by omega, hc8.sub (fun k hk => .inl hk) (.inl rfl), by rw [← sy8]; exact gv.st, lst8⟩, hcA.box fr8 (.inl (.inr (.inl rfl))) (fun x => x) bhA, hcA.box fr8 (.inl (.inr (.inr (.inl rfl)))) (fun x => x) bwA⟩, by simp [intOf]; omega⟩
                      · cases hq2
                · have : q = m := by omega
                  subst this
                  have hd : ls'.drop q = [] := List.drop_of_length_le (by omega)
                  rw [hd] at st
                  obtain ⟨T7, A7, s7, base7, hs7, hc7, hps7, lst7⟩ := st.ex
                  have hp := hc7.toHp
                  have sy := hc7.says []
                  rw [homed_nil] at sy
                  have hak : ask (rb base7) = fun _ => 0 := by
                    funext u
                    refine Classical.byContradiction fun h => ?_
                    have := lst7.all u h
                    simp at this
                  have f1 : rb base7 1 = ((3824 : Nat) : Int) := by rw [hps7.fr, hak, inP_none]
                  have FR : Calls Tryz.prog 17 #[ptr hb] wr fun e w' => e = .returned (.int .i64 3824) ∧ w' = wr := h_free hp.hp hp.reads 3824 (by omega) (by rw [sy]; exact f1)
                  have PS := h_pieces hp (by rw [sy]; exact hps7)
                  have hcnt : cnt (ask (says [] A7)) = 0 := by rw [sy, hak, cnt_none]
                  rw [hcnt] at PS
                  have CK : ∀ w5, Still wr w5 → Calls Tryz.prog 19 #[ptr hb] w5 fun e w' => e = .returned (.int .i64 0) ∧ Still w5 w' := fun w5 f5 => h_check (hp.still f5) (by rw [sy]; exact hps7)
                  have cbh := st.ch.c
                  have HFR := hide FR; have HPS := hide PS; have HCK := @hide _ CK; have HX := hide (And.intro hc7 (And.intro hps7 (And.intro lst7 st)))
                  clear FR PS CK hp sy hak f1 hcnt hc7 hps7 lst7 st own hd
                  go_wp2_with fail
                  refine (unhide HFR).mono ?_
                  clear HFR
                  rintro e w' ⟨rfl, hh⟩
                  replace hh := hh.symm
                  subst hh
                  go_wp2_with fail
                  refine (unhide HPS).mono ?_
                  clear HPS
                  rintro e w8 ⟨v8, rfl, own8, f8⟩
                  obtain ⟨ad8, cp8, ev8⟩ : ∃ ad8 cp8, v8 = .slice ad8 0 cp8 := by
                    rcases row_form own8 with ⟨ev, e0⟩ | ⟨g8, cp8, ev⟩
                    · exact ⟨none, 0, ev⟩
                    · exact ⟨_, cp8, ev⟩
                  subst ev8
                  have cbh8 := f8.cell' cbh (fun x => x)
                  have HCK8 := hide (unhide HCK w8 f8); have HF8 := hide f8
                  clear own8 f8 cbh HCK
                  go_wp2_with fail
                  refine (unhide HCK8).mono ?_
                  clear HCK8
                  rintro e w9 ⟨rfl, f9⟩
                  have HF9 := hide ((unhide HF8).trans' f9 (fun _ x => x.elim))
                  clear f9 cbh8
                  go_wp2
                  obtain ⟨hc7, hps7, lst7, st⟩ := unhide HX
                  have f9 := unhide HF9
                  refine ⟨⟨r + 1, by omega, by go_num, ⟨T7, A7, s7, base7, by omega, (hc7.still f9).sub (fun k hk => ?_) (.inl rfl), hps7, lst7⟩, st.ch.kept f9 (fun x => x), st.cw.kept f9 (fun x => x)⟩, by simp [intOf]; omega⟩
                  rcases hk with hk | hk | hk | hk
                  · exact .inl hk
                  · exact .inr (.inl hk)
                  · exact .inr (.inr (.inl hk))
                  · exact absurd hk own_nilF
    · have AW : ∀ w5, Still w w5 → Calls Tryz.prog 20 #[] w5 fun e w' => e = .returned (.bool true) ∧ Still w5 w' := fun w5 f5 => l8_awake w5 (fun j hj => f5.cell' (unhide HT j hj) (fun x => x))
      have FW := (Exists.choose_spec (Exists.choose_spec (Exists.choose_spec (Exists.choose_spec st.ex)))).2.1.hd.fr
      have HAW := hide (AW wr FW); have HFF := hide FW
      clear AW FW st
      have hr2' : ((r : Int) < 2) = False := by simp; omega
      go_wp2_with fail
      refine (unhide HAW).mono ?_
      clear HAW
      rintro e w6 ⟨rfl, f6⟩
      have HF6 := hide f6
      clear f6
      go_wp2
      go_ret
      exact ⟨rfl, ((unhide HFF).trans' (unhide HF6) (fun _ x => x.elim)).below (Nat.le_refl _) (fun _ x => x.elim)⟩
end Go.Proofs.YtgehfmonfofbiaaGreatDoor
