/- HeapWrong: the walk. -/
import Derived.Test.YtgehfmonfofbiaaGreatDoorWrC
namespace Go.Proofs.YtgehfmonfofbiaaGreatDoor
open Go.RowKit

/-- The law's blocks. -/
def WrX (hb bh bi : Nat) (v : Value) : Nat → Prop := fun k => k = hb ∨ k = bh ∨ k = bi ∨ v.ownBlock = some k

structure WrS (W wr : World) (hb sb b bh bi m : Nat) (v : Value) (ls : List (Nat × Nat)) (lim : Int) : Prop where
  ex : ∃ T A s base, s ≤ lim ∧ HpC W (WrX hb bh bi v) wr hb sb b T A 2048 True s base ∧ HpS (rb base) ∧ Lists (ask (rb base)) ls
  ch : Box wr bh (ptr hb)
  ci : Box wr bi (.int .i64 m)

/-- Is a place among the first q? -/
def among (ls : List (Nat × Nat)) (at_ : Int) (q : Nat) : Bool := decide (∃ y ∈ ls.take q, ((160 + y.1 * 8 : Nat) : Int) = at_)
theorem among_0 (ls : List (Nat × Nat)) (at_ : Int) : among ls at_ 0 = false := by simp [among]
theorem among_step {ls : List (Nat × Nat)} {at_ : Int} {q : Nat} {y : Nat × Nat} (h : ls[q]? = some y) : among ls at_ (q + 1) = (among ls at_ q || (160 + (y.1 : Int) * 8 == at_)) := by
  unfold among
  rw [List.take_add_one, h]
  by_cases e : 160 + (y.1 : Int) * 8 = at_
  · have h1 : ∃ z ∈ ls.take q ++ (some y).toList, ((160 + z.1 * 8 : Nat) : Int) = at_ := ⟨y, List.mem_append_right _ (by simp), by rw [← e]; simp⟩
    rw [decide_eq_true h1]
    simp [e]
  · have h1 : (∃ z ∈ ls.take q ++ (some y).toList, ((160 + z.1 * 8 : Nat) : Int) = at_) ↔ ∃ z ∈ ls.take q, ((160 + z.1 * 8 : Nat) : Int) = at_ := by
      constructor
      · rintro ⟨z, hz, ez⟩
        rcases List.mem_append.1 hz with hz | hz
        · exact ⟨z, hz, ez⟩
        · simp at hz
          subst hz
          exact absurd (by rw [← ez]; simp) e
      · rintro ⟨z, hz, ez⟩
        exact ⟨z, List.mem_append_left _ hz, ez⟩
    have h2 : (160 + (y.1 : Int) * 8 == at_) = false := by simp; exact e
    rw [h2, Bool.or_false, decide_eq_decide]
    exact h1

def boxM (w : World) (p : Value) : Nat := match p with | .pointer (some a) => (match w.cell? a with | some (.int _ z) => z.toNat | _ => 0) | _ => 0
theorem boxM_of {w : World} {r : Nat} {n : Nat} (h : Box w r (.int .i64 n)) : boxM w (ptr r) = n := by
  show (match w.cell? ⟨r, 0, none⟩ with | some (.int _ z) => z.toNat | _ => 0) = n
  rw [h.c]; simp
theorem own_nilW {k : Nat} : ¬ (Value.slice none 0 0).ownBlock = some k := by simp [Value.ownBlock]

set_option maxRecDepth 20000 in
set_option maxHeartbeats 8000000 in
theorem wrong_ok (at_ ws : Int) (a : Option Addr) (len cap : Nat) (w : World) (zs : Nat → Int) (nums : Nums w a len zs) (_hlen : len ≤ maxLen) (tab : TabL w) :
    Calls Tryz.prog 5 #[.int .i64 at_, .int .i64 ws, .slice a len cap] w fun e w' => e = .returned (.bool true) ∧ Below w.heap.size w w' := by
  obtain ⟨V1, hV1⟩ : ∃ V1, w.alloc (.cells #[.int .i64 at_] 3) = V1 := ⟨_, rfl⟩
  obtain ⟨V2, hV2⟩ : ∃ V2, V1.alloc (.cells #[.int .i64 ws] 3) = V2 := ⟨_, rfl⟩
  obtain ⟨W, hW⟩ : ∃ W, V2.alloc (.cells #[.slice a len cap] 22) = W := ⟨_, rfl⟩
  have zV1 : V1.heap.size = w.heap.size + 1 := by rw [← hV1]; simp
  have zV2 : V2.heap.size = w.heap.size + 2 := by rw [← hV2]; simp; omega
  have zW : W.heap.size = w.heap.size + 3 := by rw [← hW]; simp; omega
  have k1 : Still w V1 := hV1 ▸ (Fr.refl _ w).alloc _
  have k2 : Still V1 V2 := hV2 ▸ (Fr.refl _ V1).alloc _
  have k3 : Still V2 W := hW ▸ (Fr.refl _ V2).alloc _
  have fW : Still w W := (k1.trans' k2 (fun _ x => x.elim)).trans' k3 (fun _ x => x.elim)
  have bat : Box W w.heap.size (.int .i64 at_) := ((hV1 ▸ Box.new w (.int .i64 at_) 3 : Box V1 w.heap.size (.int .i64 at_)).kept k2 (fun x => x)).kept k3 (fun x => x)
  have bws : Box W (w.heap.size + 1) (.int .i64 ws) := by
    have := Box.new V1 (.int .i64 ws) 3
    rw [hV2, zV1] at this; exact this.kept k3 (fun x => x)
  have bsz : Box W (w.heap.size + 2) (.slice a len cap) := by
    have := Box.new V2 (.slice a len cap) 22
    rw [hW, zV2] at this; exact this
  have tabW : TabL W := fun j hj => fW.cell' (tab j hj) (fun x => x)
  have K := l8_open W tabW
  have h1 := eq_nil_heap
  have h2 := mf
  have hi := info3
  obtain ⟨i0, hi0⟩ : ∃ i, Tryz.prog.info? 3 = some i := by
    cases h : Tryz.prog.info? 3 with
    | none => rw [h] at hi; simp at hi
    | some i => exact ⟨i, rfl⟩
  rw [hi0] at hi
  simp only [Option.map_some, Option.some.injEq, Prod.mk.injEq] at hi
  have HI := hide (And.intro hi0 hi)
  clear hi hi0
  have HN : Hid (∀ k, k < len → ∃ xb xo, a = some ⟨xb, xo, none⟩ ∧ W.cell? ⟨xb, xo + k, none⟩ = some (.int .i64 (zs k))) := fun k hk => by
    obtain ⟨xb, xo, e, c⟩ := nums k hk
    exact ⟨xb, xo, e, fW.cell' c (fun x => x)⟩
  have HLW : Hid (w.heap.size < W.heap.size ∧ w.heap.size + 1 < W.heap.size) := ⟨by omega, by omega⟩
  have HK := hide K; have HT := hide tabW; have HBX := hide (And.intro bat (And.intro bws bsz)); have HFW := hide fW
  rw [← hV1] at hV2
  rw [← hV2] at hW
  have HW := hide hW
  clear K nums tab tabW bat bws bsz fW k1 k2 k3 hW hV1 hV2 zV1 zV2 zW
  go_enter Tryz.func5, Tryz.ntmps5
  go_wp2_with fail
  rw [unhide HW]
  refine (unhide HK).mono ?_
  clear HK
  rintro e w1 ⟨b, sb, hb, T, A, base, rfl, hc, nw⟩
  obtain ⟨W1, hW1⟩ : ∃ W1, w1.alloc (.cells #[ptr hb] 25) = W1 := ⟨_, rfl⟩
  obtain ⟨W2, hW2⟩ : ∃ W2, W1.alloc (.cells #[.int .i64 0] 3) = W2 := ⟨_, rfl⟩
  have z1 : W1.heap.size = w1.heap.size + 1 := by rw [← hW1]; simp
  have hc1 := hc.more (.cells #[ptr hb] 25)
  rw [hW1] at hc1
  have hc2 := hc1.more (.cells #[.int .i64 0] 3)
  rw [hW2] at hc2
  have f12 : Still W1 W2 := hW2 ▸ (Fr.refl _ W1).alloc _
  have bh1 : Box W1 w1.heap.size (ptr hb) := hW1 ▸ Box.new w1 (ptr hb) 25
  have bi2 : Box W2 (w1.heap.size + 1) (.int .i64 0) := by
    have := Box.new W1 (.int .i64 0) 3
    rw [hW2, z1] at this; exact this
  have st0 : WrS W W2 hb sb b w1.heap.size (w1.heap.size + 1) 0 (.slice none 0 0) [] 50000 := by
    refine ⟨⟨T, A, 43021, base, by omega, hc2.sub (fun k hk => ?_) (.inl rfl), nw.st, by rw [nw.ak]; exact lists_nil⟩, bh1.kept f12 (fun x => x), bi2⟩
    rcases hk with hk | hk | hk | hk
    · exact .inl (.inl hk)
    · exact .inl (.inr hk)
    · exact .inr (by omega)
    · exact absurd hk own_nilW
  have bc1 := bh1.c
  rw [← hW1] at bc1
  have HST := hide st0; have HWW := hide (And.intro hW1 hW2)
  have lW1 : W.heap.size ≤ w1.heap.size := hc.hd.fr.size
  have lhb : hb < w1.heap.size := (hc.hd.xl hb hc.xh).2
  clear st0 hc hc1 hc2 f12 bh1 bi2 nw hW1 hW2
  go_wp2_with fail
  rw [(unhide HWW).1, (unhide HWW).2]
  clear HWW bc1
  generalize w1.heap.size = n1 at *
  go_loopw [10, 11] (fun v p wr => ∃ (bi m : Nat) (ls : List (Nat × Nat)), p = ptr bi ∧ m ≤ len ∧ m ≤ 12 ∧ n1 + 1 ≤ bi ∧ ls.length = m ∧ (∀ y ∈ ls, y.2 ≤ 64) ∧ wr.ownsRow W.heap.size 3 1 v m (natVals (places ls)) ∧ (∀ k, v.ownBlock = some k → n1 + 1 ≤ k ∧ k ≠ bi) ∧ WrS W wr hb sb b n1 bi m v ls (50000 + 30729 * m)) (fun v p wr => 12 - boxM wr p)
  case atStart => exact ⟨n1 + 1, 0, [], rfl, by omega, by omega, by omega, rfl, fun y hy => by simp at hy, World.ownsRow_nil _ _ _ _, fun k hk => absurd hk own_nilW, by have := unhide HST; simpa using this⟩
  case round =>
    clear HST
    obtain ⟨bi, m, ls, rfl, hm1, hm2, hbi, hls, hsz, own, ownb, st⟩ := hrel
    obtain ⟨T, A, s, base, hs, hc, hps, lst⟩ := st.ex
    obtain ⟨bat, bws, bsz⟩ := unhide HBX
    have csz := (bsz.kept hc.hd.fr (fun x => x)).c
    have cci := st.ci.c
    by_cases hlt : m < len ∧ m < 12
    · obtain ⟨xb, xo, ea, cz⟩ := unhide HN m hlt.1
      subst ea
      have czr := hc.hd.fr.cell' cz (fun x => x)
      have HBM := hide (boxM_of st.ci)
      obtain ⟨A1, hA1⟩ : ∃ A1, wr.alloc (.cells #[.int .i64 0] 3) = A1 := ⟨_, rfl⟩
      have g1 : Still wr A1 := hA1 ▸ (Fr.refl _ wr).alloc _
      have hcA := hc.more (.cells #[.int .i64 0] 3)
      rw [hA1] at hcA
      have bp : Box A1 wr.heap.size (.int .i64 0) := hA1 ▸ Box.new wr _ 3
      have bhA := st.ch.kept g1 (fun x => x)
      have biA := st.ci.kept g1 (fun x => x)
      have sy := hc.says []
      rw [homed_nil] at sy
      have lbh := st.ch.lt; have lbi := st.ci.lt
      have lhb2 := (hc.hd.xl hb hc.xh).2
      have DO := hcA.do_ (V := fun k => k = wr.heap.size) (g := 27) (fi := #[]) (ca := #[ptr n1, ptr (w.heap.size + 2), ptr bi, ptr wr.heap.size]) (R := fun h P' w' => h = .well ∧ TookAt (msk (zs m) 63 + 1) (rb base) A wr.heap.size P' w')
        (fun k hk => .inr hk) (by intro e; have e : hb = wr.heap.size := e; omega) (tookAt_stays _ (rb base) A _ (fun h => h = .well)) (fun w3 f3 => acts_of (fun _ _ => by kernel_rfl) ((wrC1 (hcA.toHp.still f3) (by rw [sy]; exact hps) xb xo len cap m (zs m) hlt.1 _hlen (f3.cell' bhA.c (fun x => x)) (f3.cell' (g1.cell' csz (fun x => x)) (fun x => x)) (f3.cell' biA.c (fun x => x)) (f3.cell' (g1.cell' czr (fun x => x)) (fun x => x)) (bp.kept f3 (fun x => x)) (hcA.hd.ap _ (.inr rfl))).mono (by
          have l63 := msk_le (zs m) 63
          rintro e w4 (⟨rfl, T', P', o, tk⟩ | ⟨rfl, _, hf⟩)
          · rw [sy] at tk
            exact ⟨.well, rfl, .inl rfl, T', P', o, rfl, tk⟩
          · rw [sy] at hf
            exact (hps.inv.roomy (m := 3) (k := lv (msk (zs m) 63 + 1)) (by omega) (lv_3 (by omega)) (fun u hu => lv_3 (hsz _ (lst.all u hu))) (by rw [← lst.len, hls]; omega) hf).elim))) (by omega)
      have hi1 : ((m : Int) < 12) = True := by simp; omega
      have l63 := msk_le (zs m) 63
      obtain ⟨x, hx⟩ : ∃ x, msk (zs m) 63 + 1 = x := ⟨_, rfl⟩
      rw [hx] at DO
      have HDO := hide DO; have HX := hide (And.intro hcA (And.intro hps lst)); have HB := hide (And.intro bhA biA); have HOW := hide (And.intro (row_still own g1) (And.intro ownb (And.intro hsz (show ∀ k, u10.ownBlock = some k → k < wr.heap.size from fun k hk => (own.lt k hk).2))))
      have HA := hide hA1; have HZ := hide (And.intro lbh (And.intro lbi lhb2))
      have zA1 : A1.heap.size = wr.heap.size + 1 := by rw [← hA1]; simp
      have hx64 : x ≤ 64 := by omega
      have hx1 : 1 ≤ x := by omega
      clear DO hcA hc bp bhA biA g1 own ownb hsz st hps lst sy hA1 lbh lbi hx l63
      go_wp2_with fail
      rw [unhide HA]
      unfold DidH at HDO
      refine (unhide HDO).mono ?_
      clear HDO
      rintro e w5 ⟨fr5, ⟨P', T', A', ⟨_, u, ba5, tkg⟩, rfl, hc5⟩ | ⟨i, P', T', ⟨hq, _⟩, _⟩⟩
      · obtain ⟨hcA, hps, lst⟩ := unhide HX
        obtain ⟨bhA, biA⟩ := unhide HB
        obtain ⟨own3, ownb, hsz, ownl⟩ := unhide HOW
        obtain ⟨lbh, lbi, lhb2⟩ := unhide HZ
        have own5 := hcA.row fr5 (fun k hk => ⟨.inl (.inr (.inr (.inr hk))), fun e => by have := ownl k hk; have e : k = wr.heap.size := e; omega⟩) own3
        have bh5 := hcA.box fr5 (.inl (.inr (.inl rfl))) (by intro e; have e : n1 = wr.heap.size := e; omega) bhA
        have bi5 := hcA.box fr5 (.inl (.inr (.inr (.inl rfl)))) (by intro e; have e : bi = wr.heap.size := e; omega) biA
        have sy5 := hcA.says P'
        have hps5 : HpS (rb (homed P' base)) := by rw [← sy5]; exact tkg.st
        have ask5 : ask (rb (homed P' base)) = setK (ask (rb base)) u x := by rw [← sy5]; exact tkg.ak
        obtain ⟨c, hu, hcc⟩ := tkg.blk
        have lst5 : Lists (ask (rb (homed P' base))) (ls ++ [(u, x)]) := by
          rw [ask5, hu]
          exact lst.push hcc rfl (by omega) (by rw [← hu]; exact tkg.was)
        have hu4 : u ≤ 478 := by have := block_lt hcc; rw [← hu] at this; exact Nat.le_trans (Nat.le_add_right _ _) this
        have s5 : wr.heap.size + 1 ≤ w5.heap.size := by have h3 := fr5.size; omega
        have lw5 : W.heap.size ≤ w5.heap.size := hc5.hd.fr.size
        have cba := ba5.c; have cbi := bi5.c
        have HY := hide (And.intro hc5 (And.intro hps5 (And.intro lst5 (And.intro ownb (And.intro hsz ownl))))); have HB5 := hide (And.intro bh5 (And.intro bi5 (And.intro lbi s5)))
        have HOWN := hide own5
        have nown : ¬ u10.ownBlock = some bi := fun e => (ownb _ e).2 rfl
        have lbi5 : bi < w5.heap.size := bi5.lt
        clear hcA hps lst bhA biA own3 ownb hsz ownl own5 bh5 bi5 tkg sy5 hps5 ask5 lst5 hc5 hcc hu ba5 fr5 HX HB HOW cz czr csz cci bat bws bsz
        generalize hgv : natVals (places ls) = vals at *
        have HGV := hide hgv
        clear hgv
        go_wp2_with (at_builtin; refine wpList_append_own_at _ rfl _ _ 22 rfl W.heap.size 3 i0 (.int .i64 0) 1 8 Tryz.underlying22 (unhide HI).1 (unhide HI).2.1 (unhide HI).2.2.1 (unhide HI).2.2.2 rfl (by decide) _ m vals rfl ((unhide HOWN).alloc _) _ 1 1 [.int .i64 (160 + (u : Int) * 8)] rfl rfl ?c1 ?c2 ?c3 ?c4 ?c5 ?_)
        case c1 => exact cell_one_new _ _ _
        case c2 => intro q hq; simp at hq; subst hq; rfl
        case c3 => unfold maxLen; omega
        case c4 => omega
        case c5 => simp <;> omega
        intro v' w6 hown hgrow hnil hloc
        have f6 : Fr (fun k => u10.ownBlock = some k) w5 w6 := ((Fr.refl (fun k => u10.ownBlock = some k) w5).alloc _).grown hgrow (fun r e => .inl e)
        have cbi6 : w6.cell? ⟨bi, 0, none⟩ = some (.int .i64 m) := f6.cell' cbi nown
        obtain ⟨B1, hB1⟩ : ∃ B1, w6.alloc (.cells #[.int .i64 ((m : Int) + 1)] 3) = B1 := ⟨_, rfl⟩
        have HG := hide (And.intro hown (And.intro f6 hloc)); have HB1 := hide hB1
        clear hown hgrow hnil hloc f6 hB1 cbi cba
        go_wp2
        rw [unhide HB1]
        obtain ⟨hown, f6, hloc⟩ := unhide HG
        obtain ⟨hc5, hps5, lst5, ownb, hsz, ownl⟩ := unhide HY
        obtain ⟨bh5, bi5, lbi, s5⟩ := unhide HB5
        have hB1 := unhide HB1
        have g6 : Still w6 B1 := hB1 ▸ (Fr.refl _ w6).alloc _
        have bb : Box B1 w6.heap.size (.int .i64 ((m + 1 : Nat) : Int)) := by
          rw [show ((m + 1 : Nat) : Int) = (m : Int) + 1 by omega]
          exact hB1 ▸ Box.new w6 _ 3
        have zB1 : B1.heap.size = w6.heap.size + 1 := by rw [← hB1]; simp
        have hloc' : ∀ k, v'.ownBlock = some k → u10.ownBlock = some k ∨ k = w5.heap.size + 1 := fun k hk => by
          rcases hloc with e | e
          · left; rw [← e]; exact hk
          · right
            rw [hk] at e
            simpa using Option.some.inj e
        have l56 := f6.size
        refine ⟨⟨w6.heap.size, m + 1, ls ++ [(u, x)], rfl, by omega, by omega, by have := lbi; omega, by simp [hls], fun y hy => ?_, ?_, fun k hk => ?_, ⟨T', A', s + 30729, homed P' base, by omega, ?_, hps5, lst5⟩, (bh5.kept f6 (fun e => by have := ownb _ e; omega)).kept g6 (fun x => x), bb⟩, ?_⟩
        · rcases List.mem_append.1 hy with hy | hy
          · exact hsz y hy
          · simp at hy; subst hy; exact hx64
        · have := row_still hown g6
          rw [← unhide HGV] at this
          simpa [natVals, places] using this
        · have := (hown.lt k hk).2
          rcases hloc' k hk with e | e
          · exact ⟨(ownb k e).1, by omega⟩
          · exact ⟨by omega, by omega⟩
        · refine hc5.grow (f6.trans' g6 (fun _ x => x.elim)) (fun k hk => .inl (.inr (.inr (.inr hk)))) (fun e => by have := ownb _ e; have := unhide HZ; omega) (fun k hk => ?_) (.inl rfl)
          rcases hk with hk | hk | hk | hk
          · exact .inl (.inl (.inl hk))
          · exact .inl (.inl (.inr (.inl hk)))
          · exact .inr ⟨by omega, by omega⟩
          · have hl := (hown.lt k hk).2
            rcases hloc' k hk with e | e
            · exact .inl (.inl (.inr (.inr (.inr e))))
            · exact .inr ⟨by omega, by omega⟩
        · rw [unhide HBM]
          have := boxM_of bb
          rw [this]
          omega
      · cases hq
    · have HST := hide (And.intro hc (And.intro hps (And.intro lst st))); have HOW := hide (And.intro own (And.intro ownb hsz))
      have HBB := hide (And.intro (bat.kept hc.hd.fr (fun x => x)) (bws.kept hc.hd.fr (fun x => x)))
      have HBX' := hide hc.hd.fr
      clear hc hps lst st own ownb hsz bat bws bsz
      rcases (show ¬ m < len ∨ (m < len ∧ ¬ m < 12) by omega) with hq | hq
      case' inl => go_wp2_with fail
      case' inr =>
        have hi1 : ((m : Int) < 12) = False := by simp; omega
        go_wp2_with fail
      all_goals
        clear csz cci
        go_loopw [13, 14] (fun t i wx => ∃ q : Nat, t = .bool (among ls at_ q) ∧ i = .int .i64 q ∧ q ≤ m ∧ Dr wr wx) (fun t i wx => 15 - (intOf i).toNat)
        case atStart => exact ⟨0, by rw [among_0], rfl, by omega, Dr.refl _⟩
        case round =>
          obtain ⟨q, rfl, rfl, hqm, D⟩ := hrel
          obtain ⟨own, ownb, hsz⟩ := unhide HOW
          have ownr := row_still own D.still
          by_cases hlt2 : q < m
          · obtain ⟨y, hy⟩ : ∃ y, ls[q]? = some y := ⟨ls[q]'(by omega), List.getElem?_eq_getElem (by omega)⟩
            have hst := among_step (at_ := at_) hy
            have catc := ((unhide HBB).1.kept D.still (fun x => x)).c
            have HD := hide D; have HST2 := hide hst
            clear D own ownb hst
            rcases row_form ownr with ⟨_, e0⟩ | ⟨gg, cp, ev⟩
            · omega
            · subst ev
              have cl : wr.cell? ⟨gg, q, none⟩ = some (.int .i64 (160 + (y.1 : Int) * 8)) := by
                rw [ownr.cellAt q (by omega)]
                simp [natVals, places, hy]
              clear ownr
              cases ham : among ls at_ q
              all_goals
                go_wp2_with fail
                refine region_tailP 9 (by kernel_rfl) (by kernel_rfl) ?_
                simp only [List.take_succ_cons, List.take_zero, List.drop_succ_cons, List.drop_zero]
                repeat (go_big_quiet_step (first | fail))
                refine wpQuiet_nil ?_
                rintro _ ⟨nq, rfl⟩
                have hst := unhide HST2
                rw [ham] at hst
                have HST3 := hide hst
                clear hst
                go_wp2
                refine ⟨⟨q + 1, ?_, by go_num, by omega, (unhide HD).trans ⟨nq, rfl⟩⟩, by simp [intOf]; omega⟩
                rw [unhide HST3]
                simp
          · have : q = m := by omega
            subst this
            obtain ⟨hc0, hps, lst, st0⟩ := unhide HST
            have hc := hc0.still D.still
            have bh := st0.ch.kept D.still (fun x => x)
            obtain ⟨bat0, bws0⟩ := unhide HBB
            have bat := bat0.kept D.still (fun x => x)
            have bws := bws0.kept D.still (fun x => x)
            have hp := hc.toHp
            have sy := hc.says []
            rw [homed_nil] at sy
            obtain ⟨fx, hfx⟩ : ∃ fx : Nat, 8 * (478 - inP (ask (rb base))) = fx := ⟨_, rfl⟩
            have f1 : rb base 1 = (fx : Int) := by rw [hps.fr, hfx]
            have fx4 : fx ≤ 3824 := by omega
            have FR := h_free hp.hp hp.reads fx fx4 (by rw [sy]; exact f1)
            have hmem : among ls at_ q = true ↔ ∃ y ∈ ls, ((160 + y.1 * 8 : Nat) : Int) = at_ := by
              unfold among
              rw [decide_eq_true_eq, List.take_of_length_le (by omega)]
            have h0w : 0 < W.heap.size := hc.l0
            have HM := hide hmem
            have HCC := hide (And.intro hc (And.intro hps (And.intro lst (And.intro bh (And.intro bat bws))))); have HFR := hide FR; have HF1 := hide f1; have HOWN := hide ownr
            have chc := bh.c; have nb0 : n1 < wr.heap.size := bh.lt
            clear hc hps lst bh bat bws hp sy f1 FR hmem ownr own ownb hc0 st0 bat0 bws0 D hfx
            obtain ⟨ad, cp, ev⟩ : ∃ ad cp, u10 = .slice ad q cp := by
              rcases row_form (unhide HOWN) with ⟨ev, e0⟩ | ⟨gg, cp, ev⟩
              · exact ⟨none, 0, by rw [ev, e0]⟩
              · exact ⟨_, cp, ev⟩
            subst ev
            obtain ⟨hc, hps, lst, bh, bat, bws⟩ := unhide HCC
            obtain ⟨tb, htb⟩ : ∃ tb, among ls at_ q = tb := ⟨_, rfl⟩
            have pc : Pc (ask (rb base)) at_ tb := by
              have hm := unhide HM
              rw [htb] at hm
              cases tb
              · exact .inr ⟨rfl, noPiece_of lst at_ (fun y hy e => by have := hm.2 ⟨y, hy, e⟩; cases this)⟩
              · obtain ⟨y, hy, e⟩ := hm.1 rfl
                have := lst.only y hy
                exact .inl ⟨rfl, y.1, by rw [← e]; simp, by rw [this.1]; exact this.2⟩
            have DO2 := wr_do2 hc hps at_ pc bh bat (by omega)
            have HDO := hide DO2; have HPC := hide pc
            rw [htb]
            clear DO2 pc hc hps lst bh bat bws htb
            go_wp2_with fail
            refine (unhide HFR).mono ?_
            clear HFR
            rintro e w' ⟨rfl, hh⟩
            replace hh := hh.symm
            subst hh
            go_wp2_with fail
            refine (unhide HDO).mono ?_
            clear HDO
            rintro e w2 ⟨i2, hi2, rfl, ⟨T2, A2, hc2⟩, fr2⟩
            have HI2 := hide hi2
            clear hi2
            obtain ⟨hc, hps, lst, bh, bat, bws⟩ := unhide HCC
            have nold : ∀ k, k < W.heap.size → ¬ (tfoot sb b T k ∨ False) := fun k hk e => e.elim (fun e => by have := hc.hd.new k e; omega) (fun x => x)
            have lat : w.heap.size < W.heap.size ∧ w.heap.size + 1 < W.heap.size := unhide HLW
            have bh2 := hc.box fr2 (.inr (.inl rfl)) (fun x => x) bh
            have bat2 := bat.kept fr2 (nold _ lat.1)
            have bws2 := bws.kept fr2 (nold _ lat.2)
            have DO3 := wr_do3 hc2 hps at_ (unhide HPC) bh2 bat2 (by omega)
            have HDO := hide DO3; have HC2 := hide (And.intro hc2 (And.intro bh2 (And.intro bat2 (And.intro bws2 fr2))))
            clear DO3 hc hps lst bh bat bws hc2 fr2 bh2 bat2 bws2 nold chc
            go_wp2_with fail
            refine (unhide HDO).mono ?_
            clear HDO
            rintro e w3 ⟨i3, hi3, rfl, ⟨T3, A3, hc3⟩, fr3⟩
            have HI3 := hide hi3
            clear hi3
            obtain ⟨hc2, bh2, bat2, bws2, fr2⟩ := unhide HC2
            obtain ⟨hc, hps, lst, bh, bat, bws⟩ := unhide HCC
            have nold : ∀ k, k < W.heap.size → ¬ (tfoot sb b T2 k ∨ False) := fun k hk e => e.elim (fun e => by have := hc2.hd.new k e; omega) (fun x => x)
            have bh3 := hc2.box fr3 (.inr (.inl rfl)) (fun x => x) bh2
            have bws3 := bws2.kept fr3 (nold _ lat.2)
            have DO4 := wr_do4 hc3 hps ws bh3 bws3 (by omega)
            have HDO := hide DO4; have HC3 := hide (And.intro hc3 (And.intro bh3 bws3))
            have HO3 : Hid (w3.ownsRow W.heap.size 3 1 (.slice ad q cp) q (natVals (places ls))) := hc2.row fr3 (fun k hk => ⟨.inr (.inr (.inr hk)), fun x => x⟩) (hc.row fr2 (fun k hk => ⟨.inr (.inr (.inr hk)), fun x => x⟩) (unhide HOWN))
            clear DO4 hc hps lst bh bat bws hc2 fr2 bh2 bat2 bws2 nold hc3 fr3 bh3 bws3 HOWN
            go_wp2_with fail
            refine (unhide HDO).mono ?_
            clear HDO
            rintro e w4 ⟨i4, hi4, rfl, ⟨T4, A4, hc4⟩, fr4⟩
            have HI4 := hide hi4
            clear hi4
            obtain ⟨hc3, bh3, bws3⟩ := unhide HC3
            obtain ⟨hc, hps, lst, bh, bat, bws⟩ := unhide HCC
            have nold : ∀ k, k < W.heap.size → ¬ (tfoot sb b T3 k ∨ False) := fun k hk e => e.elim (fun e => by have := hc3.hd.new k e; omega) (fun x => x)
            have bh4 := hc3.box fr4 (.inr (.inl rfl)) (fun x => x) bh3
            have cws4 := (bws3.kept fr4 (nold _ lat.2)).c
            have chc4 := bh4.c
            have hp4 := hc4.toHp
            have sy4 := hc4.says []
            rw [homed_nil] at sy4
            have FR4 := h_free hp4.hp hp4.reads fx fx4 (by rw [sy4]; exact unhide HF1)
            have PS4 := h_pieces hp4 (by rw [sy4]; exact hps)
            have CK4 : ∀ w5, Still w4 w5 → Calls Tryz.prog 19 #[ptr hb] w5 fun e w' => e = .returned (.int .i64 0) ∧ Still w5 w' := fun w5 f5 => h_check (hp4.still f5) (by rw [sy4]; exact hps)
            have hcnt : cnt (ask (says [] A4)) = q := by rw [sy4, ← lst.len, hls]
            rw [hcnt] at PS4
            have HFR4 := hide FR4; have HPS4 := hide PS4; have HCK4 := @hide _ CK4; have HF4 := hide hc4.hd.fr; have HB4 := hide bh4
            clear hc hps lst bh bat bws hc3 bh3 bws3 hc4 fr4 nold bh4 hp4 sy4 FR4 PS4 CK4 hcnt HO3 HC3 HC2 HM HPC
            have hlenp : q ≤ 12 := by omega
            cases tb
            all_goals
              have hi2 := unhide HI2
              have hi3 := unhide HI3
              simp only [if_true, if_false, Bool.false_eq_true] at hi2 hi3
              subst hi2 hi3
              clear HI2 HI3
              by_cases hgood : 1 ≤ ws ∧ ws ≤ 512
              case' pos =>
                have hi4 : (i4 == 1) = false := by
                  have := unhide HI4
                  simp only [beq_eq_false_iff_ne]
                  exact fun e => this.1 e hgood
                have g1 : ((1 : Int) ≤ ws) = True := by simp; omega
                have g2 : (ws ≤ (512 : Int)) = True := by simp; omega
                clear HI4
                go_wp2_with fail
              case' neg =>
                have hi4 : i4 = 1 := (unhide HI4).2 hgood
                subst hi4
                clear HI4
                by_cases g1 : (1 : Int) ≤ ws
                case' pos =>
                  have g1' : ((1 : Int) ≤ ws) = True := by simp; omega
                  have g2 : (ws ≤ (512 : Int)) = False := by simp; omega
                  go_wp2_with fail
                case' neg =>
                  have g1' : ((1 : Int) ≤ ws) = False := by simp; omega
                  go_wp2_with fail
              all_goals
                refine (unhide HFR4).mono ?_
                rintro e w' ⟨rfl, hh⟩
                replace hh := hh.symm
                subst hh
                go_wp2_with fail
                refine (unhide HPS4).mono ?_
                rintro e w5 ⟨v5, rfl, own5, f5⟩
                obtain ⟨ad5, cp5, ev5⟩ : ∃ ad5 cp5, v5 = .slice ad5 q cp5 := by
                  rcases row_form own5 with ⟨ev, e0⟩ | ⟨gg, cp, ev⟩
                  · exact ⟨none, 0, by rw [ev, e0]⟩
                  · exact ⟨_, cp, ev⟩
                subst ev5
                have chc5 := ((unhide HB4).kept f5 (fun x => x)).c
                have CK5 := unhide HCK4 w5 f5
                have HCK5 := hide CK5; have HF5 := hide f5
                clear CK5 own5 f5
                go_wp2_with fail
                refine (unhide HCK5).mono ?_
                clear HCK5
                rintro e w6 ⟨rfl, f6⟩
                have f06 : Still W w6 := ((unhide HF4).trans' (unhide HF5) (fun _ x => x.elim)).trans' f6 (fun _ x => x.elim)
                have AW := l8_awake w6 (fun j hj => f06.cell' (unhide HT j hj) (fun x => x))
                have HAW := hide AW; have HF06 := hide f06
                clear AW f6 f06 chc5
                go_wp2_with fail
                refine (unhide HAW).mono ?_
                clear HAW
                rintro e w7 ⟨rfl, f7⟩
                have HF7 := hide f7
                clear f7
                go_wp2
                go_ret
                exact ⟨rfl, (((unhide HFW).trans' (unhide HF06) (fun _ x => x.elim)).trans' (unhide HF7) (fun _ x => x.elim)).below (Nat.le_refl _) (fun _ x => x.elim)⟩
end Go.Proofs.YtgehfmonfofbiaaGreatDoor
