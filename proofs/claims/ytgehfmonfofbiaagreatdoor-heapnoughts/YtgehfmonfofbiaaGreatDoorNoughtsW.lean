/- HeapNoughts: the walk. -/
import Derived.Test.YtgehfmonfofbiaaGreatDoorNoC
import Derived.Test.YtgehfmonfofbiaaGreatDoorLq
namespace Go.Proofs.YtgehfmonfofbiaaGreatDoor
open Go.RowKit

/-- The law's blocks. -/
def NoX (hb bs bh br : Nat) (v : Value) : Nat → Prop := fun k => k = hb ∨ k = bs ∨ k = bh ∨ k = br ∨ v.ownBlock = some k

/-- A round of HeapNoughts: its variables, and the pieces that are taken. -/
structure NoS (W wr : World) (hb sb b bs bh br r : Nat) (v : Value) (ls : List (Nat × Nat)) (lim : Int) : Prop where
  ex : ∃ T A s base, s ≤ lim ∧ HpC W (NoX hb bs bh br v) wr hb sb b T A 2048 True s base ∧ HpS (rb base) ∧ Lists (ask (rb base)) ls
  cs : Box wr bs (ptr sb)
  ch : Box wr bh (ptr hb)
  cr : Box wr br (.int .i64 r)

/-- The number that a variable holds. -/
def boxN (w : World) (p : Value) : Nat := match p with | .pointer (some a) => (match w.cell? a with | some (.int _ z) => z.toNat | _ => 0) | _ => 0
theorem boxN_of {w : World} {r : Nat} {n : Nat} (h : Box w r (.int .i64 n)) : boxN w (ptr r) = n := by
  show (match w.cell? ⟨r, 0, none⟩ with | some (.int _ z) => z.toNat | _ => 0) = n
  rw [h.c]; simp

theorem NoR_stays (f : Nat → Int) (x : Nat) (A : Ab) (ba bo : Nat) : Stays (fun k => k = ba ∨ k = bo) (fun h P' w' => h = .well ∧ NoR f x A ba bo P' w') := by
  rintro h P w w' F ⟨q, u, b1, b2, t⟩ hf hn
  exact ⟨q, u, b1.kept hf (hn ba (.inl rfl)), b2.kept hf (hn bo (.inr rfl)), t⟩

theorem own_nil {k : Nat} : ¬ (Value.slice none 0 0).ownBlock = some k := by simp [Value.ownBlock]

set_option maxRecDepth 20000 in
set_option maxHeartbeats 8000000 in
theorem noughts_ok (a : Option Addr) (len cap : Nat) (rd : Int) (w : World) (zs : Nat → Int) (nums : Nums w a len zs) (_hlen : len ≤ maxLen) (tab : TabL w) :
    Calls Tryz.prog 3 #[.slice a len cap, .int .i64 rd] w fun e w' => e = .returned (.bool true) ∧ Below w.heap.size w w' := by
  have K := l8_open w tab
  have h1 := eq_nil_heap
  have h2 := mf
  have hi := info3
  obtain ⟨i0, hi0⟩ : ∃ i, Tryz.prog.info? 3 = some i := by
    cases h : Tryz.prog.info? 3 with
    | none => rw [h] at hi; simp at hi
    | some i => exact ⟨i, rfl⟩
  rw [hi0] at hi
  simp only [Option.map_some, Option.some.injEq, Prod.mk.injEq] at hi
  have HI := hide (And.intro hi0 hi)
  clear hi hi0
  have HK := hide K; have HN := hide nums; have HT := hide tab
  have m3 : bits .and .i64 rd 3 = (msk rd 3 : Int) := mask_i64 rd 3 (by omega)
  have m3l := msk_le rd 3
  generalize msk rd 3 = R at *
  clear K nums tab
  go_enter Tryz.func3, Tryz.ntmps3
  go_wp2_with fail
  refine (unhide HK).mono ?_
  clear HK
  rintro e w1 ⟨b, sb, hb, T, A, base, rfl, hc, nw⟩
  obtain ⟨W1, hW1⟩ : ∃ W1, w1.alloc (.cells #[ptr sb] 24) = W1 := ⟨_, rfl⟩
  obtain ⟨W2, hW2⟩ : ∃ W2, W1.alloc (.cells #[ptr hb] 25) = W2 := ⟨_, rfl⟩
  obtain ⟨W3, hW3⟩ : ∃ W3, W2.alloc (.cells #[.int .i64 0] 3) = W3 := ⟨_, rfl⟩
  have z1 : W1.heap.size = w1.heap.size + 1 := by rw [← hW1]; simp
  have z2 : W2.heap.size = w1.heap.size + 2 := by rw [← hW2]; simp; omega
  have hc1 := hc.more (.cells #[ptr sb] 24)
  rw [hW1] at hc1
  have hc2 := hc1.more (.cells #[ptr hb] 25)
  rw [hW2] at hc2
  have hc3 := hc2.more (.cells #[.int .i64 0] 3)
  rw [hW3] at hc3
  have f12 : Still W1 W2 := hW2 ▸ (Fr.refl _ W1).alloc _
  have f23 : Still W2 W3 := hW3 ▸ (Fr.refl _ W2).alloc _
  have bs1 : Box W1 w1.heap.size (ptr sb) := hW1 ▸ Box.new w1 (ptr sb) 24
  have bh2 : Box W2 (w1.heap.size + 1) (ptr hb) := by
    have := Box.new W1 (ptr hb) 25
    rw [hW2, z1] at this; exact this
  have br3 : Box W3 (w1.heap.size + 2) (.int .i64 0) := by
    have := Box.new W2 (.int .i64 0) 3
    rw [hW3, z2] at this; exact this
  have lhb : hb < w1.heap.size := (hc.hd.xl hb hc.xh).2
  have st0 : NoS w W3 hb sb b w1.heap.size (w1.heap.size + 1) (w1.heap.size + 2) 0 (.slice none 0 0) [] 50000 := by
    refine ⟨⟨T, A, 43021, base, by omega, hc3.sub (fun k hk => ?_) (.inl rfl), nw.st, by rw [nw.ak]; exact lists_nil⟩, (bs1.kept f12 (fun x => x)).kept f23 (fun x => x), bh2.kept f23 (fun x => x), br3⟩
    rcases hk with hk | hk | hk | hk | hk
    · exact .inl (.inl (.inl hk))
    · exact .inl (.inl (.inr hk))
    · exact .inl (.inr (by omega))
    · exact .inr (by omega)
    · simp [Value.ownBlock] at hk
  have bc1 := bh2.c
  rw [← hW2, ← hW1] at bc1
  have HST := hide st0; have HW := hide (And.intro hW1 (And.intro hW2 hW3))
  have HWF := hide hc.hd.fr
  clear st0 hc hc1 hc2 hc3 f12 f23 bs1 bh2 br3 nw hW1 hW2 hW3
  go_wp2_with fail
  rw [(unhide HW).1, (unhide HW).2.1, (unhide HW).2.2]
  clear HW bc1
  generalize w1.heap.size = n1 at *
  go_loopw [8] (fun p wr => ∃ (br r : Nat), p = ptr br ∧ r ≤ R + 1 ∧ n1 + 2 ≤ br ∧ NoS w wr hb sb b n1 (n1 + 1) br r (.slice none 0 0) [] (50000 + 1000000 * r)) (fun p wr => R + 1 - boxN wr p)
  case atStart => exact ⟨n1 + 2, 0, rfl, by omega, by omega, by have := unhide HST; simpa using this⟩
  case round =>
    clear HST
    obtain ⟨br, r, rfl, hr, hbr, st⟩ := hrel
    have cr := st.cr.c
    have HBN := hide (boxN_of st.cr)
    by_cases hrR : r ≤ R
    · have HST := hide st
      clear st
      go_wp2_with fail
      go_loopw [9, 10] (fun v i wx => ∃ (m : Nat) (ls : List (Nat × Nat)), i = .int .i64 m ∧ m ≤ len ∧ m ≤ 15 ∧ ls.length = m ∧ (∀ y ∈ ls, y.2 ≤ 128) ∧ wx.ownsRow w.heap.size 3 1 v m (natVals (places ls)) ∧ (∀ k, v.ownBlock = some k → n1 + 2 ≤ k ∧ k ≠ br) ∧ NoS w wx hb sb b n1 (n1 + 1) br r v ls (50000 + 1000000 * r + 30729 * m)) (fun v i wx => 15 - (intOf i).toNat)
      case atStart => exact ⟨0, [], rfl, by omega, by omega, rfl, fun y hy => by simp at hy, World.ownsRow_nil _ _ _ _, fun k hk => absurd hk own_nil, by have := unhide HST; simpa using this⟩
      case round =>
        rename_i wx0
        clear HST cr
        obtain ⟨m, ls, rfl, hm1, hm2, hls, hsz, own, ownb, st⟩ := hrel
        by_cases hlt : m < len ∧ m < 15
        · obtain ⟨T, A, s, base, hs, hc, hps, lst⟩ := st.ex
          obtain ⟨xb, xo, ea, cz⟩ := unhide HN m hlt.1
          have cz' : wr.cell? ⟨xb, xo + m, none⟩ = some (.int .i64 (zs m)) := hc.hd.fr.cell' cz (fun x => x)
          have e127 : bits .and .i64 (zs m) 127 = (msk (zs m) 127 : Int) := mask_i64 (zs m) 127 (by omega)
          have l127 := msk_le (zs m) 127
          obtain ⟨x, hx⟩ : ∃ x, msk (zs m) 127 + 1 = x := ⟨_, rfl⟩
          have e127' : ((msk (zs m) 127 : Nat) : Int) + 1 = x := by omega
          have hx1 : 1 ≤ x := by omega
          have hx128 : x ≤ 128 := by omega
          obtain ⟨A1, hA1⟩ : ∃ A1, wr.alloc (.cells #[.int .i64 x] 3) = A1 := ⟨_, rfl⟩
          obtain ⟨A2, hA2⟩ : ∃ A2, A1.alloc (.cells #[.int .i64 0] 3) = A2 := ⟨_, rfl⟩
          obtain ⟨A3, hA3⟩ : ∃ A3, A2.alloc (.cells #[.bool true] 4) = A3 := ⟨_, rfl⟩
          have y1 : A1.heap.size = wr.heap.size + 1 := by rw [← hA1]; simp
          have y2 : A2.heap.size = wr.heap.size + 2 := by rw [← hA2]; simp; omega
          have g1 : Still wr A1 := hA1 ▸ (Fr.refl _ wr).alloc _
          have g2 : Still A1 A2 := hA2 ▸ (Fr.refl _ A1).alloc _
          have g3 : Still A2 A3 := hA3 ▸ (Fr.refl _ A2).alloc _
          have g0 : Still wr A3 := (g1.trans' g2 (fun _ x => x.elim)).trans' g3 (fun _ x => x.elim)
          have hcA1 := hc.more (.cells #[.int .i64 x] 3)
          rw [hA1] at hcA1
          have hcA2 := hcA1.more (.cells #[.int .i64 0] 3)
          rw [hA2] at hcA2
          have hcA := hcA2.more (.cells #[.bool true] 4)
          rw [hA3, y1, y2] at hcA
          have bw : Box A3 wr.heap.size (.int .i64 x) := ((hA1 ▸ Box.new wr (.int .i64 x) 3 : Box A1 wr.heap.size (.int .i64 x)).kept g2 (fun x => x)).kept g3 (fun x => x)
          have ba : Box A3 (wr.heap.size + 1) (.int .i64 0) := by
            have := Box.new A1 (.int .i64 0) 3
            rw [hA2, y1] at this; exact this.kept g3 (fun x => x)
          have bo : Box A3 (wr.heap.size + 2) (.bool true) := by
            have := Box.new A2 (.bool true) 4
            rw [hA3, y2] at this; exact this
          have bsA := st.cs.kept g0 (fun x => x)
          have bhA := st.ch.kept g0 (fun x => x)
          have brA := st.cr.kept g0 (fun x => x)
          have lbs := st.cs.lt; have lbh := st.ch.lt; have lbr := st.cr.lt
          have lhb2 := (hc.hd.xl hb hc.xh).2
          have l0 := hc.l0
          have lw0 := hc.hd.fr.size
          have sy := hc.says []
          rw [homed_nil] at sy
          have DO := hcA.do_ (V := fun k => k = wr.heap.size + 1 ∨ k = wr.heap.size + 2) (g := 11) (fi := #[]) (ca := #[ptr (n1 + 1), ptr wr.heap.size, ptr (wr.heap.size + 1), ptr (wr.heap.size + 2), ptr n1, ptr br]) (R := fun h P' w' => h = .well ∧ NoR (rb base) x A (wr.heap.size + 1) (wr.heap.size + 2) P' w')
            (fun k hk => by rcases hk with e | e; exact .inl (.inr e); exact .inr e) (by omega) (NoR_stays (rb base) x A _ _) (fun w3 f3 => acts_of (fun _ _ => by kernel_rfl) ((noC1 (hcA.toHp.still f3) (by rw [sy]; exact hps) x r hx1 hx128 (by omega) (f3.cell' bhA.c (fun x => x)) (f3.cell' bsA.c (fun x => x)) (f3.cell' bw.c (fun x => x)) (f3.cell' brA.c (fun x => x)) (ba.kept f3 (fun x => x)) (bo.kept f3 (fun x => x)) (fun k hk => by
              rcases hk with rfl | rfl | rfl | rfl | rfl | rfl
              · exact hcA.hd.ap _ (.inl (.inl (.inl (.inr (.inr (.inl rfl))))))
              · exact hcA.hd.ap _ (.inl (.inl (.inl (.inr (.inl rfl)))))
              · exact hcA.hd.ap _ (.inl (.inl (.inr rfl)))
              · exact hcA.hd.ap _ (.inl (.inl (.inl (.inr (.inr (.inr (.inl rfl)))))))
              · exact hcA.hd.ap _ (.inl (.inr rfl))
              · exact hcA.hd.ap _ (.inr rfl)) (by omega) (by omega)).mono (by
              rintro e w4 (⟨rfl, T', P', o, tk⟩ | ⟨rfl, _, hf⟩)
              · rw [sy] at tk
                exact ⟨.well, rfl, .inl rfl, T', P', o, rfl, tk⟩
              · rw [sy] at hf
                exact (hps.inv.roomy (m := 4) (k := lv x) (by omega) (lv_4 hx128) (fun u hu => lv_4 (hsz _ (lst.all u hu))) (by rw [← lst.len, hls]; omega) hf).elim))) (by omega)
          have bsc := bsA.c
          rw [← hA3, ← hA2, ← hA1] at bsc
          have HDO := hide DO; have HX := hide (And.intro hcA (And.intro sy (And.intro hps lst))); have HB := hide (And.intro bsA (And.intro bhA brA)); have HOW := hide (And.intro (row_still own g0) (And.intro ownb (And.intro hsz (show ∀ k, u9.ownBlock = some k → k < wr.heap.size from fun k hk => (own.lt k hk).2))))
          have HA := hide (And.intro hA1 (And.intro hA2 hA3)); have HZ := hide (And.intro lbs (And.intro lbh (And.intro lbr lhb2)))
          have hla := hA3
          subst ea
          have hi1 : ((m : Int) < 15) = True := by simp; omega
          clear DO hcA hcA1 hcA2 hc bw ba bo bsA bhA brA g0 g1 g2 g3 own ownb hsz st hps lst sy hA1 hA2 hA3 hla lbs lbh lbr
          go_wp2_with fail
          rw [(unhide HA).1, (unhide HA).2.1, (unhide HA).2.2]
          unfold DidH at HDO
          refine (unhide HDO).mono ?_
          clear HDO
          rintro e w5 ⟨fr5, ⟨P', T', A', ⟨_, u, ba5, bo5, tk⟩, rfl, hc5⟩ | ⟨i, P', T', ⟨hq, _⟩, _⟩⟩
          · obtain ⟨hcA, sy, hps, lst⟩ := unhide HX
            obtain ⟨bsA, bhA, brA⟩ := unhide HB
            obtain ⟨own3, ownb, hsz, ownl⟩ := unhide HOW
            obtain ⟨lbs, lbh, lbr, lhb2⟩ := unhide HZ
            have own5 := hcA.row fr5 (fun k hk => ⟨.inl (.inl (.inl (.inr (.inr (.inr (.inr hk)))))), fun e => by have := ownl k hk; rcases e with e | e <;> omega⟩) own3
            have bs5 := hcA.box fr5 (.inl (.inl (.inl (.inr (.inl rfl))))) (by omega) bsA
            have bh5 := hcA.box fr5 (.inl (.inl (.inl (.inr (.inr (.inl rfl)))))) (by omega) bhA
            have br5 := hcA.box fr5 (.inl (.inl (.inl (.inr (.inr (.inr (.inl rfl))))))) (by omega) brA
            obtain ⟨g, tkg, gown⟩ := tk
            have sy5 := hcA.says P'
            have hps5 : HpS (rb (homed P' base)) := by rw [← sy5]; exact tkg.st.own gown
            have ask5 : ask (rb (homed P' base)) = setK (ask (rb base)) u x := by rw [← sy5, ask_own gown]; exact tkg.ak
            obtain ⟨c, hu, hcc⟩ := tkg.blk
            have lst5 : Lists (ask (rb (homed P' base))) (ls ++ [(u, x)]) := by
              rw [ask5, hu]
              exact lst.push hcc rfl (by omega) (by rw [← hu]; exact tkg.was)
            have hu4 : u ≤ 478 := by have := block_lt hcc; rw [← hu] at this; exact Nat.le_trans (Nat.le_add_right _ _) this
            have lw5 : w.heap.size ≤ w5.heap.size := hc5.hd.fr.size
            have s5 : wr.heap.size + 3 ≤ w5.heap.size := by
              have h3 := fr5.size
              have : A3.heap.size = wr.heap.size + 3 := by rw [← (unhide HA).2.2]; simp [y2]
              omega
            have cba := ba5.c; have cbo := bo5.c
            have HY := hide (And.intro hc5 (And.intro hps5 (And.intro lst5 (And.intro own5 (And.intro ownb (And.intro hsz ownl)))))); have HB5 := hide (And.intro bs5 (And.intro bh5 (And.intro br5 (And.intro lbr s5))))
            have HOWN := hide own5
            clear hcA sy hps lst bsA bhA brA own3 ownb hsz ownl own5 bs5 bh5 br5 tkg gown sy5 hps5 ask5 lst5 hc5 hcc hu ba5 bo5 fr5 HX HB HOW bsc cz cz'
            have hnv : (natVals (places ls)).length = m := by simp [natVals, places, hls]
            generalize hgv : natVals (places ls) = vals at *
            have HGV := hide hgv
            clear hgv
            go_wp2_with (at_builtin; refine wpList_append_own_at _ rfl _ _ 22 rfl w.heap.size 3 i0 (.int .i64 0) 1 8 Tryz.underlying22 (unhide HI).1 (unhide HI).2.1 (unhide HI).2.2.1 (unhide HI).2.2.2 rfl (by decide) _ m vals rfl ((unhide HOWN).alloc _) _ 1 1 [.int .i64 (160 + (u : Int) * 8)] rfl rfl ?c1 ?c2 ?c3 ?c4 ?c5 ?_)
            case c1 => exact cell_one_new _ _ _
            case c2 => intro q hq; simp at hq; subst hq; rfl
            case c3 => unfold maxLen; omega
            case c4 => omega
            case c5 => simp <;> omega
            intro v' w6 hown hgrow hnil hloc
            have HG := hide (And.intro hown (And.intro hgrow hloc))
            clear hown hgrow hnil hloc
            go_wp2
            obtain ⟨hown, hgrow, hloc⟩ := unhide HG
            obtain ⟨hc5, hps5, lst5, own5, ownb, hsz, ownl⟩ := unhide HY
            obtain ⟨bs5, bh5, br5, lbr, s5⟩ := unhide HB5
            have f6 : Fr (fun k => u9.ownBlock = some k) w5 w6 := ((Fr.refl (fun k => u9.ownBlock = some k) w5).alloc _).grown hgrow (fun r e => .inl e)
            have hloc' : ∀ k, v'.ownBlock = some k → u9.ownBlock = some k ∨ k = w5.heap.size + 1 := fun k hk => by
              rcases hloc with e | e
              · left; rw [← e]; exact hk
              · right
                rw [hk] at e
                simpa using Option.some.inj e
            refine ⟨⟨m + 1, ls ++ [(u, x)], by go_num, by omega, by omega, by simp [hls], fun y hy => ?_, ?_, fun k hk => ?_, ⟨T', A', s + 30729, homed P' base, by omega, ?_, hps5, lst5⟩, bs5.kept f6 (fun e => by have := ownb _ e; omega), bh5.kept f6 (fun e => by have := ownb _ e; omega), br5.kept f6 (fun e => by have := ownb _ e; omega)⟩, by simp [intOf]; omega⟩
            · rcases List.mem_append.1 hy with hy | hy
              · exact hsz y hy
              · simp at hy; subst hy; exact hx128
            · have := hown
              rw [← unhide HGV] at this
              simpa [natVals, places] using this
            · rcases hloc' k hk with e | e
              · exact ownb k e
              · omega
            · refine hc5.grow f6 (fun k hk => .inl (.inl (.inl (.inr (.inr (.inr (.inr hk))))))) (fun e => by have := ownb _ e; omega) (fun k hk => ?_) (.inl rfl)
              rcases hk with hk | hk | hk | hk | hk
              · exact .inl (.inl (.inl (.inl (.inl hk))))
              · exact .inl (.inl (.inl (.inl (.inr (.inl hk)))))
              · exact .inl (.inl (.inl (.inl (.inr (.inr (.inl hk))))))
              · exact .inl (.inl (.inl (.inl (.inr (.inr (.inr (.inl hk)))))))
              · rcases hloc' k hk with e | e
                · exact .inl (.inl (.inl (.inl (.inr (.inr (.inr (.inr e)))))))
                · have := (hown.lt k hk).2
                  exact .inr ⟨by omega, this⟩
          · cases hq
        · have HST := hide st; have HOW := hide (And.intro own (And.intro ownb hsz))
          clear st own ownb hsz
          rcases (show ¬ m < len ∨ (m < len ∧ ¬ m < 15) by omega) with hq | hq
          case' inl => go_wp2_with fail
          case' inr =>
            have hi1 : ((m : Int) < 15) = False := by simp; omega
            go_wp2_with fail
          all_goals
            go_loopw [15] (fun i wx => ∃ q : Nat, i = .int .i64 q ∧ q ≤ m ∧ wx.ownsRow w.heap.size 3 1 u9 m (natVals (places ls)) ∧ NoS w wx hb sb b n1 (n1 + 1) br r u9 (ls.drop q) (50000 + 1000000 * r + 30729 * m + 30729 * q)) (fun i wx => 15 - (intOf i).toNat)
            case atStart => exact ⟨0, rfl, by omega, (unhide HOW).1, by have := unhide HST; simpa using this⟩
            case round =>
              clear HST
              obtain ⟨q, rfl, hq, own, st⟩ := hrel
              obtain ⟨_, ownb, hsz⟩ := unhide HOW
              by_cases hlt2 : q < m
              · obtain ⟨T, A, s, base, hs, hc, hps, lst⟩ := st.ex
                obtain ⟨y, hy⟩ : ∃ y, ls[q]? = some y := ⟨ls[q]'(by omega), List.getElem?_eq_getElem (by omega)⟩
                have hd0 : (ls.drop q)[0]? = some y := by rw [List.getElem?_drop]; simpa using hy
                have hym : y ∈ ls.drop q := List.mem_of_getElem? hd0
                have hya := lst.only y hym
                have hyn : ask (rb base) y.1 ≠ 0 := by rw [hya.1]; exact hya.2
                have hy4 := (hps.inv.asks y.1 hyn).1
                rcases row_form own with ⟨_, e0⟩ | ⟨gg, cp, ev⟩
                · omega
                · subst ev
                  have cl : wr.cell? ⟨gg, q, none⟩ = some (.int .i64 (160 + (y.1 : Int) * 8)) := by
                    rw [own.cellAt q (by omega)]
                    simp [natVals, places, hy]
                  obtain ⟨A1, hA1⟩ : ∃ A1, wr.alloc (.cells #[.int .i64 (160 + (y.1 : Int) * 8)] 3) = A1 := ⟨_, rfl⟩
                  have g1 : Still wr A1 := hA1 ▸ (Fr.refl _ wr).alloc _
                  have hcA := hc.more (.cells #[.int .i64 (160 + (y.1 : Int) * 8)] 3)
                  rw [hA1] at hcA
                  have ba : Box A1 wr.heap.size (.int .i64 (160 + (y.1 : Int) * 8)) := hA1 ▸ Box.new wr _ 3
                  have bsA := st.cs.kept g1 (fun x => x)
                  have bhA := st.ch.kept g1 (fun x => x)
                  have brA := st.cr.kept g1 (fun x => x)
                  have sy := hc.says []
                  rw [homed_nil] at sy
                  have DO := hcA.do_ (V := fun _ => False) (g := 15) (fi := #[]) (ca := #[ptr (n1 + 1), ptr wr.heap.size]) (R := fun h P' _ => h = .well ∧ Gave (rb base) y.1 (says P' A)) (fun k hk => hk.elim) (fun x => x) (fun h P w w' F r _ _ => r) (fun w3 f3 => acts_of (fun _ _ => by kernel_rfl) ((noC2 (hcA.toHp.still f3) (by rw [sy]; exact hps) y.1 (by rw [sy]; exact hyn) (f3.cell' bhA.c (fun x => x)) (f3.cell' ba.c (fun x => x))).mono (by
                    rintro e w4 ⟨rfl, T', P', o, gv⟩
                    rw [sy] at gv
                    exact ⟨.well, rfl, .inl rfl, T', P', OnxX.of o, rfl, gv⟩))) (by omega)
                  have bsc := bsA.c
                  rw [← hA1] at bsc
                  have HDO := hide DO; have HX := hide (And.intro hcA (And.intro hps lst)); have HB := hide (And.intro bsA (And.intro bhA brA)); have HOW2 := hide (row_still own g1); have HA := hide hA1; have HY := hide (And.intro hd0 hyn)
                  have ownl : gg < wr.heap.size := (own.lt gg rfl).2
                  clear DO hcA hc ba bsA bhA brA g1 own st hps lst sy hA1 hd0 hym hya hyn
                  go_wp2_with fail
                  rw [unhide HA]
                  unfold DidH at HDO
                  refine (unhide HDO).mono ?_
                  clear HDO
                  rintro e w5 ⟨fr5, ⟨P', T', A', ⟨_, gv⟩, rfl, hc5⟩ | ⟨i, P', T', ⟨hq2, _⟩, _⟩⟩
                  · have HZ5 := hide (And.intro fr5 (And.intro gv hc5))
                    clear fr5 gv hc5 bsc cl
                    go_wp2
                    obtain ⟨fr5, gv, hc5⟩ := unhide HZ5
                    obtain ⟨hcA, hps, lst⟩ := unhide HX
                    obtain ⟨bsA, bhA, brA⟩ := unhide HB
                    obtain ⟨hd0, hyn⟩ := unhide HY
                    have sy5 := hcA.says P'
                    have own5 := hcA.row fr5 (fun k hk => ⟨.inl (.inr (.inr (.inr (.inr hk)))), fun x => x⟩) (unhide HOW2)
                    have lst5 : Lists (ask (rb (homed P' base))) (ls.drop (q + 1)) := by
                      have := lst.drop hps.inv hd0
                      rw [← sy5, gv.ak]
                      rw [List.eraseIdx_zero, List.tail_drop] at this
                      exact this
                    exact ⟨⟨q + 1, by go_num, by omega, own5, ⟨T', A', s + 30729, homed P' base, by omega, hc5.sub (fun k hk => .inl hk) (.inl rfl), by rw [← sy5]; exact gv.st, lst5⟩, hcA.box fr5 (.inl (.inr (.inl rfl))) (fun x => x) bsA, hcA.box fr5 (.inl (.inr (.inr (.inl rfl)))) (fun x => x) bhA, hcA.box fr5 (.inl (.inr (.inr (.inr (.inl rfl))))) (fun x => x) brA⟩, by simp [intOf]; omega⟩
                  · cases hq2
              · have : q = m := by omega
                subst this
                have hd : ls.drop q = [] := List.drop_of_length_le (by omega)
                rw [hd] at st
                have cr := st.cr.c
                obtain ⟨A1, hA1⟩ : ∃ A1, wr.alloc (.cells #[.int .i64 ((r : Int) + 1)] 3) = A1 := ⟨_, rfl⟩
                have g1 : Still wr A1 := hA1 ▸ (Fr.refl _ wr).alloc _
                have ba : Box A1 wr.heap.size (.int .i64 ((r + 1 : Nat) : Int)) := by
                  rw [show ((r + 1 : Nat) : Int) = (r : Int) + 1 by omega]
                  exact hA1 ▸ Box.new wr _ 3
                have HA := hide hA1; have HBA := hide ba; have HST := hide st; have HG1 := hide g1
                rcases row_form own with ⟨ev, e0⟩ | ⟨gg, cp, ev⟩
                case' inl => (try (exfalso; omega))
                any_goals
                  subst ev
                  clear st own hA1 ba g1 hd
                  go_wp2
                  have st := unhide HST
                  have ba := unhide HBA
                  have g1 := unhide HG1
                  rw [unhide HA]
                  obtain ⟨T, A, s, base, hs, hc, hps, lst⟩ := st.ex
                  have hcA := hc.more (.cells #[.int .i64 ((r : Int) + 1)] 3)
                  rw [unhide HA] at hcA
                  have lbs := st.cs.lt; have lbh := st.ch.lt; have lbr := st.cr.lt
                  refine ⟨⟨wr.heap.size, r + 1, rfl, by omega, by omega, ⟨T, A, s, base, by omega, hcA.sub (fun k hk => ?_) (.inl rfl), hps, lst⟩, st.cs.kept g1 (fun x => x), st.ch.kept g1 (fun x => x), ba⟩, ?_⟩
                  · rcases hk with hk | hk | hk | hk | hk
                    · exact .inl (.inl hk)
                    · exact .inl (.inr (.inl hk))
                    · exact .inl (.inr (.inr (.inl hk)))
                    · exact .inr hk
                    · exact absurd hk own_nil
                  · rw [unhide HBN]
                    have := boxN_of ba
                    rw [this]
                    omega
    · obtain ⟨T, A, s, base, hs, hc, hps, lst⟩ := st.ex
      have hp := hc.toHp
      have sy := hc.says []
      rw [homed_nil] at sy
      have hak : ask (rb base) = fun _ => 0 := by
        funext u
        refine Classical.byContradiction fun h => ?_
        have := lst.all u h
        simp at this
      have f1 : rb base 1 = ((3824 : Nat) : Int) := by rw [hps.fr, hak, inP_none]
      have FR : ∀ q, Calls Tryz.prog 17 #[ptr hb] (wr.drewN q) fun e w' => e = .returned (.int .i64 3824) ∧ w' = wr.drewN q := fun q => by
        have hpq := hp.still ((Fr.refl _ wr).drewN q)
        exact h_free hpq.hp hpq.reads 3824 (by omega) (by rw [sy]; exact f1)
      have AL : ∀ q, Calls Tryz.prog 18 #[ptr hb] (wr.drewN q) fun e w' => e = .returned (.int .i64 3824) ∧ w' = wr.drewN q := fun q => h_all hb 478 (by omega) (wr.drewN q) hp.hp.c1
      have CK : ∀ q, Calls Tryz.prog 19 #[ptr hb] (wr.drewN q) fun e w' => e = .returned (.int .i64 0) ∧ Still (wr.drewN q) w' := fun q => h_check (hp.still ((Fr.refl _ wr).drewN q)) (by rw [sy]; exact hps)
      have chc := st.ch.c
      have HFR := @hide _ FR; have HAL := @hide _ AL; have HCK := @hide _ CK; have HF := hide hc.hd.fr
      clear FR AL CK hp sy hak f1 hc hps lst st
      go_wp2_with fail
      refine region_tailP 6 (by kernel_rfl) (by kernel_rfl) ?_
      simp only [List.take_succ_cons, List.take_zero, List.drop_succ_cons, List.drop_zero]
      repeat (go_big_quiet_step (first | (go_at_call 17; exact Calls.quiet_of_same (unhide HFR _)) | (go_at_call 18; exact Calls.quiet_of_same (unhide HAL _))))
      refine wpQuiet_nil ?_
      rintro _ ⟨nq, rfl⟩
      have chc' : (wr.drewN nq).cell? ⟨n1 + 1, 0, none⟩ = some (ptr hb) := chc
      clear HFR HAL chc
      go_wp2_with fail
      refine (unhide HCK nq).mono ?_
      clear HCK
      rintro e w5 ⟨rfl, f5⟩
      have f05 : Still w w5 := ((unhide HF).drewN nq).trans' f5 (fun _ x => x.elim)
      have AW := l8_awake w5 (fun j hj => f05.cell' (unhide HT j hj) (fun x => x))
      have HAW := hide AW; have HF5 := hide f05
      clear AW f5 f05 chc'
      go_wp2_with fail
      refine (unhide HAW).mono ?_
      clear HAW
      rintro e w6 ⟨rfl, f6⟩
      have HF6 := hide f6
      clear f6
      go_wp2
      go_ret
      exact ⟨rfl, ((unhide HF5).trans' (unhide HF6) (fun _ x => x.elim)).below (Nat.le_refl _) (fun _ x => x.elim)⟩
end Go.Proofs.YtgehfmonfofbiaaGreatDoor
