/- RedoLasts: the walk. -/
import Derived.Test.YtockkjkaopihjaaLastsT
import Derived.Below
namespace Go.Proofs.Ytockkjkaopihjaa
open Go.RowKit

set_option maxRecDepth 100000 in
set_option maxHeartbeats 4000000 in
theorem lasts_ok (a : Option Addr) (len cap : Nat) (fuse : Int) (flip : Bool) (ka : Option Addr) (klen kcap : Nat) (ga : Option Addr) (glen gcap : Nat) (w : World) (RA : Nat → Option Addr) (RL RC : Nat → Nat) (RZ : Nat → List Int) (ks gs : Nat → Int)
    (hz : Rows2 w a len RA RL RC RZ) (hlen : len ≤ maxLen) (hk : Nums w ka klen ks) (hklen : klen ≤ maxLen) (hg : Nums w ga glen gs) (hglen : glen ≤ maxLen) (hgs : ∀ k, k < glen → gs k < 9223372036854775808) (hfu : fuse < 9223372036854775808) :
    Calls Try.prog 7 #[.slice a len cap, .int .i64 fuse, .bool flip, .slice ka klen kcap, .slice ga glen gcap] w fun e w' => e = .returned (.bool true) ∧ Below w.heap.size w w' := by
  have HO := hide (law_open w); have HZ := hide hz; have HK := hide (And.intro hk hklen); have HG := hide hg; have HGS := hide hgs
  unfold maxLen at hlen hglen
  clear hz hk hklen hg hgs
  go_enter Try.func7, Try.ntmps7
  go_wp2_with fail
  refine (unhide HO).mono ?_
  clear HO
  rintro e w1 ⟨b, lg, L, rfl, o1⟩
  have HO1 := hide o1
  clear o1
  go_wp2_with fail
  obtain ⟨w2, hw2⟩ : ∃ w2, (w1.alloc (.cells #[.pointer (some ⟨b, 0, none⟩)] 23)).alloc (.cells #[.pointer (some ⟨lg, 0, none⟩)] 24) = w2 := ⟨_, rfl⟩
  rw [hw2]
  have f12 : Fr (fun _ => False) w1 w2 := hw2 ▸ ((Fr.refl _ w1).alloc _).alloc _
  have xd2 : Box w2 w1.heap.size (ptr b) := hw2 ▸ (Box.new w1 (ptr b) 23).alloc _
  have xg2 : Box w2 (w1.heap.size + 1) (ptr lg) := by
    have := Box.new (w1.alloc (.cells #[.pointer (some ⟨b, 0, none⟩)] 23)) (ptr lg) 24
    rw [hw2] at this
    simpa using this
  have o1 := unhide HO1
  have F3 := d_fuse (o1.d.keptF f12) (fresh_calm 32 True) fuse hfu
  have nf : ∀ k, w1.heap.size ≤ k → ¬ foot b L k := fun k hk h => by have := o1.d.lt k h; omega
  have lb : b < w1.heap.size := o1.d.ltb
  have laid : ∀ w3, Fr (fun r => r = b) w2 w3 → DevL w3 b L { Ab.fresh 32 with fuse := fuse } → Calm 32 False { Ab.fresh 32 with fuse := fuse } 0 (fun _ => 0) → Base6 w b L lg w1.heap.size (w1.heap.size + 1) w3 := fun w3 f3 d3 c3 =>
    ⟨⟨_, d3, c3⟩, (o1.log.kept f12 (fun h => h)).kept f3 (fun e => o1.nlg (by rw [e]; exact .inl rfl)), o1.nlg, xd2.kept f3 (by omega), nf _ (by omega), xg2.kept f3 (by omega), nf _ (by omega), (o1.fr.trans f12).trans' f3 (fun k hk => .inr (by have := o1.new b (.inl rfl); omega)), o1.new⟩
  have HF3 := hide F3; have HB := @hide _ laid
  clear F3 laid nf lb xd2 xg2 f12 hw2 o1 HO1
  generalize w1.heap.size + 1 = bg at *
  generalize w1.heap.size = bd at *
  refine (unhide HF3).mono ?_
  clear HF3
  rintro e w3 ⟨rfl, f3, d3, c3⟩
  have B := unhide HB w3 f3 d3 c3
  have HB := hide B
  clear f3 d3 c3 B
  go_wp2_with fail
  rw [zero_arr]
  have st0 : LsJ w3 b L w3.heap.size (w3.heap.size + 1) 0 (fun _ => 0) ((w3.alloc (.cells (arr 256 fun _ => 0) 43)).alloc (.cells (arr 256 fun _ => 0) 43)) := by
    obtain ⟨A, d, c⟩ := (unhide HB).d
    have r1 := (ArrAt.new w3 (fun _ => 0)).kept ((Fr.refl (fun _ => False) _).alloc (.cells (arr 256 fun _ => 0) 43)) (fun h => h)
    have r2 := ArrAt.new (w3.alloc (.cells (arr 256 fun _ => 0) 43)) (fun _ => 0)
    exact ⟨⟨L, A, _, ((On.start d).alloc _).alloc _, c, clean0 0 64, fun h => by have := d.lt _ h; omega, fun h => by have := d.lt _ h; omega⟩, r1, by simpa using r2⟩
  have HS0 := hide st0
  clear st0
  go_loopw [15] (fun iv wr => ∃ (k : Nat) (base : Nat → Int), k ≤ len ∧ k ≤ 20 ∧ iv = .int .i64 k ∧ LsJ w3 b L w3.heap.size (w3.heap.size + 1) k base wr) (fun iv wr => 20 - (intOf iv).toNat)
  case atStart =>
    exact ⟨0, _, by omega, by omega, rfl, unhide HS0⟩
  case round =>
    obtain ⟨k, base, hk1, hk2, rfl, hj⟩ := hrel
    clear HS0
    generalize haw : w3.heap.size = aw at *
    generalize han : aw + 1 = an at *
    by_cases hlt : k < len ∧ k < 20
    · obtain ⟨hl1, hl2⟩ := hlt
      obtain ⟨⟨xb, xo, rfl, hc⟩, hn, hnl⟩ := unhide HZ k hl1
      obtain ⟨L1, A1, f, o1, c1, cl1, na, nn⟩ := hj.dev
      have B := unhide HB
      have ww : w.heap.size ≤ w3.heap.size := B.fr.size
      have old : ∀ xb, xb < w.heap.size → ¬ foot b L xb := fun xb h hf => by have : w.heap.size ≤ xb := B.new _ hf; omega
      have cz : wr.cell? ⟨xb, xo + k, none⟩ = some (.slice (RA k) (RL k) (RC k)) := o1.fr.cell' (B.fr.cell' hc (fun h => h)) (old xb (World.block_lt_of_cell? _ _ hc))
      have WR := fun m => writes_ok (RA k) (RL k) (RC k) m wr (fun i => (RZ k).getD i 0) (fun i hi => let ⟨yb, yo, e, c⟩ := hn i hi; ⟨yb, yo, e, o1.fr.cell' (B.fr.cell' c (fun h => h)) (old yb (World.block_lt_of_cell? _ _ c))⟩) hnl
      have HWR := @hide _ WR; have H1 := hide (And.intro o1 (And.intro c1 (And.intro cl1 (And.intro na nn)))); have HJ := hide hj
      clear WR o1 c1 cl1 na nn hj old B hn hc hnl
      go_wp2_with fail
      refine (unhide HWR _).mono ?_
      clear HWR cz
      rintro e w4 ⟨v, xs, rfl, wr4⟩
      obtain ⟨xa, xcap, rfl, ws4, in4⟩ := wr4.form
      have j := unhide HJ
      have f4 := wr4.fr
      have ra5 : ∀ o, (w4.alloc o).heap[aw]? = some (.cells (arr 256 base) 43 (0, 0)) := fun o => (j.ra.kept (f4.alloc o) (fun h => h) : ArrAt (w4.alloc o) aw base)
      have H4 := hide (And.intro ws4 (And.intro in4 f4))
      clear wr4 ws4 in4 f4 j
      go_wp2_with (refine wpList_load_row rfl 43 _ rfl aw rfl 43 (arr 256 base) (0, 0) _ (ra5 _) Try.underlying43 rfl (info_arr _) ?_)
      obtain ⟨w5, hw5⟩ : ∃ w5, w4.alloc (.cells #[.slice xa xs.length xcap] 30) = w5 := ⟨_, rfl⟩
      rw [hw5]
      obtain ⟨ws4, in4, f4⟩ := unhide H4
      have f45 : Fr (fun _ => False) w4 w5 := hw5 ▸ (Fr.refl _ w4).alloc _
      have xx5 : Box w5 w4.heap.size (.slice xa xs.length xcap) := hw5 ▸ Box.new w4 _ _
      have ws5 := ws4.kept f45 (fun _ _ _ h => h)
      have rn5 : ArrAt w5 an base := (unhide HJ).rn.kept (f4.trans f45) (fun h => h)
      have ra5' : ArrAt w5 aw base := (unhide HJ).ra.kept (f4.trans f45) (fun h => h)
      have DN := done_ok w5 base xa xcap xs ws5.len ws5.out (fun k hk => by
        obtain ⟨g, e, _, t⟩ := ws5.at_ (by intro e; rw [e] at hk; simp at hk)
        exact ⟨g, 0, e, t⟩)
      have few := ws5.len
      generalize hnx : homed xs.reverse base = nxt at *
      have HDN := hide DN; have H5 := hide (And.intro f45 (And.intro xx5 (And.intro ws5 (And.intro rn5 ra5')))); have HNX := hide hnx
      clear DN f45 xx5 ws5 rn5 ra5' ra5 hw5 ws4 in4 f4 hnx
      refine (unhide HDN).mono ?_
      clear HDN
      rintro e w6 ⟨rfl, f56⟩
      obtain ⟨f45, xx5, ws5, rn5, ra5⟩ := unhide H5
      have rn6 : w6.heap[an]? = some (.cells (arr 256 base) 43 (0, 0)) := rn5.kept f56 (fun h => h)
      have H6 := hide f56
      clear f45 xx5 ws5 rn5 ra5 f56
      go_wp2_with (refine wpList_store_row rfl 43 _ _ rfl an (arr 256 nxt) rfl rfl 43 (arr 256 base) rn6 (info_arr _) (by rw [arr_size, arr_size]) (arr_one _ _) ?_)
      obtain ⟨w7, hw7⟩ : ∃ w7, w6.setRow an (arr 256 nxt) = w7 := ⟨_, rfl⟩
      rw [hw7]
      obtain ⟨f45, xx5, ws5, rn5, ra5⟩ := unhide H5
      obtain ⟨ws4, in4, f4⟩ := unhide H4
      obtain ⟨o1, c1, cl1, na, nn⟩ := unhide H1
      have f56 := unhide H6
      have f67 : Fr (fun r => r = an) w6 w7 := hw7 ▸ Fr.setRow _ _ _
      have lan : an < wr.heap.size := (unhide HJ).rn.lt
      have s4 := f4.size
      have o7 : On w3 b L w7 L1 A1 := (o1.quiet ((f4.trans f45).trans f56)).turn f67 (fun r hr => by rw [hr]; exact nn) (fun r hr => by omega)
      have ra7 : ArrAt w7 aw base := (ra5.kept f56 (fun h => h)).kept f67 (by omega)
      have rn7 : ArrAt w7 an nxt := hw7 ▸ ArrAt.row (f := base) rn6
      have xx7 : Box w7 w4.heap.size (.slice xa xs.length xcap) := (xx5.kept f56 (fun h => h)).kept f67 (by omega)
      have ws7 : WrS w7 xs xa := (ws5.kept f56 (fun _ _ _ h => h)).kept f67 (fun g o e => by have := in4 g o e; omega)
      have B := unhide HB
      have T := tell_commitRedoLasts (cap := xcap) o7.d (o7.log B.log B.nlg) (o7.other (World.block_lt_of_cell? _ _ B.log.c0) B.nlg) c1 cl1 ws7 (fun g o e => o1.new (in4 g o e).1) (B.xg.kept o7.fr B.ng) xx7 (by omega)
      rw [unhide HNX] at T
      have HT := hide T; have H7 := hide (And.intro o7 (And.intro ra7 (And.intro rn7 (And.intro na nn))))
      clear T f45 xx5 ws5 rn5 ra5 ws4 in4 f4 o1 c1 cl1 na nn f56 f67 lan s4 o7 ra7 rn7 xx7 ws7 B hw7 rn6 H1 H4 H5 H6
      refine (unhide HT).mono ?_
      clear HT
      rintro e w8 (⟨rfl, D⟩ | ⟨rfl, D⟩)
      · obtain ⟨L8, A8, o8, f8, c8, cl8⟩ := D.on
        obtain ⟨o7, ra7, rn7, na, nn⟩ := unhide H7
        have ra8 : ArrAt w8 aw base := ra7.kept o8.fr na
        have rn8 : ArrAt w8 an nxt := rn7.kept o8.fr nn
        have ra8' : w8.heap[aw]? = some (.cells (arr 256 base) 43 (0, 0)) := ra8
        have rn8' : w8.heap[an]? = some (.cells (arr 256 nxt) 43 (0, 0)) := rn8
        have na8 := o8.other ra7.lt na
        have J : LsJ w3 b L aw an (k + 1) nxt (w8.setRow aw (arr 256 nxt)) :=
          ⟨⟨L8, A8, f8, (o7.trans o8).turn (Fr.setRow w8 aw _) (fun r hr => by rw [hr]; exact na8) (fun r hr => by omega), c8.more (by omega), cl8, na8, o8.other rn7.lt nn⟩, ra8.row, rn8.kept (Fr.setRow w8 aw _) (by omega)⟩
        have HJ9 := hide J
        clear J o8 c8 cl8 o7 ra7 rn7 na nn na8 ra8 rn8 D
        go_wp2_with (first | (refine wpList_load_row rfl 43 _ rfl an rfl 43 (arr 256 nxt) (0, 0) _ rn8' Try.underlying43 rfl (info_arr _) ?_) | (refine wpList_store_row rfl 43 _ _ rfl aw (arr 256 nxt) rfl rfl 43 (arr 256 base) ra8' (info_arr _) (by rw [arr_size, arr_size]) (arr_one _ _) ?_))
        exact ⟨⟨k + 1, nxt, by omega, by omega, by go_num, unhide HJ9⟩, by simp [intOf]; omega⟩
      · have E : LsE w3 b L aw an base xs w8 := by
          obtain ⟨L8, A8, o8, r8⟩ := D.on
          obtain ⟨o7, ra7, rn7, na, nn⟩ := unhide H7
          exact ⟨⟨L8, A8, o7.trans o8, r8.more (by omega), o8.other ra7.lt na, o8.other rn7.lt nn⟩, ra7.kept o8.fr na, by rw [unhide HNX]; exact rn7.kept o8.fr nn, few⟩
        have HE := hide E
        clear E D H7
        generalize hys : xs = ys at *
        clear hys
        obtain ⟨L1, A1, o1, r1, na, nn⟩ := (unhide HE).dev
        have cd := ((unhide HB).xd.kept o1.fr (unhide HB).nd).c
        have rnE := (unhide HE).rn
        rw [unhide HNX] at rnE
        have P := power_s o1 r1 (by omega) na nn (unhide HE).ra rnE (unhide HB) flip ka klen kcap ks (unhide HK).1 (unhide HK).2
        have HP := hide P
        clear P o1 r1 na nn rnE HE
        go_wp2_with fail
        refine (unhide HP).mono ?_
        clear HP cd
        rintro e w9 ⟨rfl, s9⟩
        have HS9 := hide s9
        clear s9
        go_wp2_with fail
        go_loopw [17] (fun iv wx => ∃ m : Nat, m ≤ glen ∧ m ≤ 4 ∧ iv = .int .i64 m ∧ LsS w3 b L aw an base nxt ys (2709 + 52 * m) wx) (fun iv wx => 4 - (intOf iv).toNat)
        case atStart => exact ⟨0, by omega, by omega, rfl, unhide HS9⟩
        case round =>
          obtain ⟨m, hm1, hm2, rfl, hs⟩ := hrel
          clear HS9
          obtain ⟨L1, A1, h, o1, c1, st1, na, nn⟩ := hs.dev
          have B := unhide HB
          have xd1 := B.xd.kept o1.fr B.nd
          have cd := xd1.c
          by_cases hlt2 : m < glen ∧ m < 4
          · obtain ⟨hg1, hg2⟩ := hlt2
            obtain ⟨xb, xo, rfl, hc⟩ := unhide HG m hg1
            have hxw : xb < w.heap.size := World.block_lt_of_cell? _ _ hc
            have cz : wr.cell? ⟨xb, xo + m, none⟩ = some (.int .i64 (gs m)) := o1.fr.cell' (B.fr.cell' hc (fun h => h)) (fun hf => by have : w.heap.size ≤ xb := B.new _ hf; omega)
            have H1 := hide (And.intro o1 (And.intro c1 (And.intro st1 (And.intro na nn)))); have HS := hide hs
            clear o1 c1 st1 na nn hs B xd1 hc
            go_wp2_with fail
            refine region_tailP 5 (by kernel_rfl) (by kernel_rfl) ?_
            simp only [List.take_succ_cons, List.take_zero, List.drop_succ_cons, List.drop_zero]
            repeat (go_big_quiet_step (fail))
            refine wpQuiet_nil ?_
            rintro _ ⟨nq, rfl⟩
            obtain ⟨o1, c1, st1, na, nn⟩ := unhide H1
            have F := d_fuse (o1.drewN nq).d (c1 True) (gs m) (unhide HGS m hg1)
            have HF := hide F
            clear o1 c1 st1 na nn F cd cz
            go_wp2_with fail
            refine (unhide HF).mono ?_
            clear HF
            rintro e w10 ⟨rfl, f10, d10, c10⟩
            obtain ⟨o1, c1, st1, na, nn⟩ := unhide H1
            have B := unhide HB
            have o10 := (o1.drewN nq).fuse f10 d10
            have xd10 := B.xd.kept o10.fr B.nd
            have ra10 : ArrAt w10 aw base := ((unhide HS).ra.kept ((Fr.refl (fun _ => False) _).drewN nq) (fun h => h)).kept f10 (fun e => na (by rw [e]; exact .inl rfl))
            have rn10 : ArrAt w10 an nxt := ((unhide HS).rn.kept ((Fr.refl (fun _ => False) _).drewN nq) (fun h => h)).kept f10 (fun e => nn (by rw [e]; exact .inl rfl))
            have T := tell_openRedoLasts (bd := bd) d10 c10 st1 few xd10 (by omega)
            have HT := hide T; have H10 := hide (And.intro o10 (And.intro ra10 (And.intro rn10 (And.intro na nn))))
            clear T o10 xd10 ra10 rn10 f10 d10 c10 B o1 c1 st1 na nn H1 HS
            go_wp2_with fail
            refine (unhide HT).mono ?_
            clear HT
            rintro e w11 ⟨⟨n11, rfl⟩, D⟩
            obtain ⟨L11, A11, o11, r11⟩ := D.on
            obtain ⟨o10, ra10, rn10, na, nn⟩ := unhide H10
            have o311 := o10.trans o11
            have cd := ((unhide HB).xd.kept o311.fr (unhide HB).nd).c
            have P := power_s o311 r11 (by omega) (o11.other ra10.lt na) (o11.other rn10.lt nn) (ra10.kept o11.fr na) (rn10.kept o11.fr nn) (unhide HB) flip ka klen kcap ks (unhide HK).1 (unhide HK).2
            have HP := hide P
            clear P o311 o11 r11 o10 ra10 rn10 na nn D H10
            go_wp2_with fail
            refine (unhide HP).mono ?_
            clear HP cd
            rintro e w12 ⟨rfl, s12⟩
            have s13 : LsS w3 b L aw an base nxt ys (2709 + 52 * ((m + 1 : Nat) : Int)) w12 := by
              have e : (2709 + 52 * (m : Int) + 52) = 2709 + 52 * ((m + 1 : Nat) : Int) := by omega
              rw [← e]; exact s12
            have HS12 := hide s13
            clear s12 s13
            go_wp2
            exact ⟨⟨m + 1, by omega, by omega, by go_num, unhide HS12⟩, by simp [intOf]; omega⟩
          · have OP := open_stand o1.d (c1 True) st1 few (by omega)
            have HOP := hide OP; have H1 := hide (And.intro o1 (And.intro na nn)); have HS := hide hs
            clear OP o1 c1 st1 na nn hs B xd1
            rcases (show glen ≤ m ∨ (m < glen ∧ 4 ≤ m) by omega) with g1 | ⟨g1, g2⟩
            all_goals
              go_wp2_with fail
              refine (unhide HOP).mono ?_
              clear HOP cd
              rintro e w10 (⟨rfl, lg10, L10, A10, h10, o10, nf10, c10, e10⟩ | ⟨rfl, D⟩)
              rotate_left
              · obtain ⟨_, _, _, ⟨h, _⟩, _⟩ := D
                exact absurd trivial h
              obtain ⟨o1, na, nn⟩ := unhide H1
              have B := unhide HB
              have o310 := o1.trans o10
              have xd10 := B.xd.kept o310.fr B.nd
              have ra10 : ArrAt w10 aw base := (unhide HS).ra.kept o10.fr na
              have rn10 : ArrAt w10 an nxt := (unhide HS).rn.kept o10.fr nn
              have na10 := o10.other (unhide HS).ra.lt na
              have nn10 := o10.other (unhide HS).rn.lt nn
              have mk : h10 0 = 0 := e10.elim Clean.mark Clean.mark
              have key : agree h10 base 256 = true ∨ agree h10 nxt 256 = true := e10.elim (fun c => .inl (agree_clean c)) (fun c => .inr (by rw [unhide HNX] at c; exact agree_clean c))
              have TL := tells_ok base o10.d c10
              have raw : w10.heap[aw]? = some (.cells (arr 256 base) 43 (0, 0)) := ra10
              have cd := xd10.c
              have HTL := hide TL; have H10 := hide (And.intro o310 (And.intro c10 (And.intro mk (And.intro na10 nn10)))); have HA10 := hide (And.intro ra10 (And.intro rn10 (And.intro xd10 (o310.other B.xd.lt B.nd))))
              clear TL o1 na nn B o310 xd10 ra10 rn10 na10 nn10 mk e10 lg10 o10 nf10 c10 H1 HS
              go_wp2_with (refine wpList_load_rowG (by rfl) 43 _ rfl aw rfl 43 (arr 256 base) (0, 0) _ raw Try.underlying43 rfl (info_arr _) ?_)
              refine (unhide HTL).mono ?_
              clear HTL raw cd
              rintro e w11 ⟨rfl, f11⟩
              cases hag : agree h10 base 256
              · have hag2 := key.resolve_left (by rw [hag]; simp)
                clear key
                have F11 := hide f11
                clear f11
                have ra11 : w11.heap[aw]? = some (.cells (arr 256 base) 43 (0, 0)) := (unhide HA10).1.kept (unhide F11) (fun h => h)
                have rn11 : w11.heap[an]? = some (.cells (arr 256 nxt) 43 (0, 0)) := (unhide HA10).2.1.kept (unhide F11) (fun h => h)
                have cd11 := ((unhide HA10).2.2.1.kept (unhide F11) (fun h => h)).c
                have TL := tells_ok nxt ((unhide H10).1.d.keptF (unhide F11)) (unhide H10).2.1
                rw [hag2] at TL
                have HTL := hide TL
                clear TL
                go_wp2_with (refine wpList_load_rowG (by rfl) 43 _ rfl an rfl 43 (arr 256 nxt) (0, 0) _ rn11 Try.underlying43 rfl (info_arr _) ?_)
                refine (unhide HTL).mono ?_
                clear HTL ra11 rn11 cd11
                rintro e w12 ⟨rfl, f12⟩
                have F12 := hide ((unhide F11).trans f12)
                clear f12
                have ra12 : w12.heap[aw]? = some (.cells (arr 256 base) 43 (0, 0)) := (unhide HA10).1.kept (unhide F12) (fun h => h)
                have rn12 : w12.heap[an]? = some (.cells (arr 256 nxt) 43 (0, 0)) := (unhide HA10).2.1.kept (unhide F12) (fun h => h)
                have cd12 := ((unhide HA10).2.2.1.kept (unhide F12) (fun h => h)).c
                have TL := tells_ok base ((unhide H10).1.d.keptF (unhide F12)) (unhide H10).2.1
                rw [hag] at TL
                have HTL := hide TL
                clear TL
                go_wp2_with (refine wpList_load_row rfl 43 _ rfl aw rfl 43 (arr 256 base) (0, 0) _ ra12 Try.underlying43 rfl (info_arr _) ?_)
                refine (unhide HTL).mono ?_
                clear HTL ra12 rn12 cd12
                rintro e w13 ⟨rfl, f13⟩
                have F13 := hide ((unhide F12).trans f13)
                clear f13
                have ra13 : w13.heap[aw]? = some (.cells (arr 256 base) 43 (0, 0)) := (unhide HA10).1.kept (unhide F13) (fun h => h)
                have rn13 : w13.heap[an]? = some (.cells (arr 256 nxt) 43 (0, 0)) := (unhide HA10).2.1.kept (unhide F13) (fun h => h)
                have cd13 := ((unhide HA10).2.2.1.kept (unhide F13) (fun h => h)).c
                have P := fun fl => power_c ((unhide H10).1.quiet (unhide F13)) (unhide H10).2.1 (by omega) (unhide HB) fl ka klen kcap ks (unhide HK).1 (unhide HK).2
                have HP := @hide _ P
                clear P
                go_wp2_with fail
                refine (unhide HP _).mono ?_
                clear HP ra13 rn13 cd13
                rintro e w20 ⟨rfl, L20, A20, o20, c20⟩
                have xd20 := ((unhide HA10).2.2.1.kept (unhide F13) (fun h => h)).kept o20.fr (unhide HA10).2.2.2
                have cd20 := xd20.c
                have ra20 : ArrAt w20 aw base := ((unhide HA10).1.kept (unhide F13) (fun h => h)).kept o20.fr (unhide H10).2.2.2.1
                have rn20 : ArrAt w20 an nxt := ((unhide HA10).2.1.kept (unhide F13) (fun h => h)).kept o20.fr (unhide H10).2.2.2.2
                have OP := open_fresh o20.d (c20 True).dead 0 64 (by omega) (by omega) (by rw [(c20 True).n]; omega) (by rw [(c20 True).now]; exact (unhide H10).2.2.1)
                have B := unhide HB
                have fe : Fr (fun _ => False) w w20 := ((B.fr.trans' (unhide H10).1.fr (fun k hk => .inr (B.new k hk))).trans (unhide F13)).trans' o20.fr (fun k hk => .inr (((unhide H10).1.sub k hk).elim (B.new k) (fun h => Nat.le_trans B.fr.size h)))
                have HOP := hide OP; have H20 := hide (And.intro o20.d (And.intro (c20 True) (And.intro fe (And.intro ra20 (And.intro rn20 xd20)))))
                clear OP o20 c20 fe ra20 rn20 xd20 B
                go_wp2_with fail
                refine (unhide HOP).mono ?_
                clear HOP cd20
                rintro e w21 ⟨rfl, hh⟩
                obtain ⟨d20, c20, fe, ra20, rn20, xd20⟩ := unhide H20
                have f21 : Fr (fun _ => False) w20 w21 := hh ▸ (Fr.refl _ w20).alloc _
                have cd21 := (xd20.kept f21 (fun h => h)).c
                have rw21 : w21.heap[an]? = some (.cells (arr 256 nxt) 43 (0, 0)) := rn20.kept f21 (fun h => h)
                have TL := tells_ok nxt (d20.keptF f21) c20
                rw [hag2] at TL
                have HTL := hide TL; have F21 := hide (fe.trans f21)
                clear TL d20 c20 fe ra20 rn20 xd20 f21 hh H20
                go_wp2_with (refine wpList_load_rowG (by rfl) 43 _ rfl an rfl 43 (arr 256 nxt) (0, 0) _ rw21 Try.underlying43 rfl (info_arr _) ?_)
                refine (unhide HTL).mono ?_
                clear HTL rw21 cd21
                rintro e w22 ⟨rfl, f22⟩
                have F22 := hide ((unhide F21).trans f22); have HAW := hide (awake_ok w22)
                clear f22
                go_wp2_with fail
                refine (unhide HAW).mono ?_
                clear HAW
                rintro e w23 ⟨rfl, f23⟩
                have F23 := hide f23
                clear f23
                go_wp2
                go_ret
                exact ⟨rfl, ((unhide F22).trans (unhide F23)).below (Nat.le_refl _) (fun _ h => h.elim)⟩
              · clear key
                have F11 := hide f11
                clear f11
                have ra11 : w11.heap[aw]? = some (.cells (arr 256 base) 43 (0, 0)) := (unhide HA10).1.kept (unhide F11) (fun h => h)
                have rn11 : w11.heap[an]? = some (.cells (arr 256 nxt) 43 (0, 0)) := (unhide HA10).2.1.kept (unhide F11) (fun h => h)
                have cd11 := ((unhide HA10).2.2.1.kept (unhide F11) (fun h => h)).c
                have TL := tells_ok base ((unhide H10).1.d.keptF (unhide F11)) (unhide H10).2.1
                rw [hag] at TL
                have HTL := hide TL
                clear TL
                go_wp2_with (refine wpList_load_row rfl 43 _ rfl aw rfl 43 (arr 256 base) (0, 0) _ ra11 Try.underlying43 rfl (info_arr _) ?_)
                refine (unhide HTL).mono ?_
                clear HTL ra11 rn11 cd11
                rintro e w12 ⟨rfl, f12⟩
                have F12 := hide ((unhide F11).trans f12)
                clear f12
                have ra12 : w12.heap[aw]? = some (.cells (arr 256 base) 43 (0, 0)) := (unhide HA10).1.kept (unhide F12) (fun h => h)
                have rn12 : w12.heap[an]? = some (.cells (arr 256 nxt) 43 (0, 0)) := (unhide HA10).2.1.kept (unhide F12) (fun h => h)
                have cd12 := ((unhide HA10).2.2.1.kept (unhide F12) (fun h => h)).c
                have P := fun fl => power_c ((unhide H10).1.quiet (unhide F12)) (unhide H10).2.1 (by omega) (unhide HB) fl ka klen kcap ks (unhide HK).1 (unhide HK).2
                have HP := @hide _ P
                clear P
                go_wp2_with fail
                refine (unhide HP _).mono ?_
                clear HP ra12 rn12 cd12
                rintro e w20 ⟨rfl, L20, A20, o20, c20⟩
                have xd20 := ((unhide HA10).2.2.1.kept (unhide F12) (fun h => h)).kept o20.fr (unhide HA10).2.2.2
                have cd20 := xd20.c
                have ra20 : ArrAt w20 aw base := ((unhide HA10).1.kept (unhide F12) (fun h => h)).kept o20.fr (unhide H10).2.2.2.1
                have rn20 : ArrAt w20 an nxt := ((unhide HA10).2.1.kept (unhide F12) (fun h => h)).kept o20.fr (unhide H10).2.2.2.2
                have OP := open_fresh o20.d (c20 True).dead 0 64 (by omega) (by omega) (by rw [(c20 True).n]; omega) (by rw [(c20 True).now]; exact (unhide H10).2.2.1)
                have B := unhide HB
                have fe : Fr (fun _ => False) w w20 := ((B.fr.trans' (unhide H10).1.fr (fun k hk => .inr (B.new k hk))).trans (unhide F12)).trans' o20.fr (fun k hk => .inr (((unhide H10).1.sub k hk).elim (B.new k) (fun h => Nat.le_trans B.fr.size h)))
                have HOP := hide OP; have H20 := hide (And.intro o20.d (And.intro (c20 True) (And.intro fe (And.intro ra20 (And.intro rn20 xd20)))))
                clear OP o20 c20 fe ra20 rn20 xd20 B
                go_wp2_with fail
                refine (unhide HOP).mono ?_
                clear HOP cd20
                rintro e w21 ⟨rfl, hh⟩
                obtain ⟨d20, c20, fe, ra20, rn20, xd20⟩ := unhide H20
                have f21 : Fr (fun _ => False) w20 w21 := hh ▸ (Fr.refl _ w20).alloc _
                have cd21 := (xd20.kept f21 (fun h => h)).c
                have rw21 : w21.heap[aw]? = some (.cells (arr 256 base) 43 (0, 0)) := ra20.kept f21 (fun h => h)
                have TL := tells_ok base (d20.keptF f21) c20
                rw [hag] at TL
                have HTL := hide TL; have F21 := hide (fe.trans f21)
                clear TL d20 c20 fe ra20 rn20 xd20 f21 hh H20
                go_wp2_with (refine wpList_load_rowG (by rfl) 43 _ rfl aw rfl 43 (arr 256 base) (0, 0) _ rw21 Try.underlying43 rfl (info_arr _) ?_)
                refine (unhide HTL).mono ?_
                clear HTL rw21 cd21
                rintro e w22 ⟨rfl, f22⟩
                have F22 := hide ((unhide F21).trans f22); have HAW := hide (awake_ok w22)
                clear f22
                go_wp2_with fail
                refine (unhide HAW).mono ?_
                clear HAW
                rintro e w23 ⟨rfl, f23⟩
                have F23 := hide f23
                clear f23
                go_wp2
                go_ret
                exact ⟨rfl, ((unhide F22).trans (unhide F23)).below (Nat.le_refl _) (fun _ h => h.elim)⟩
    · have HE := hide (hj.ends (by omega))
      clear hj
      obtain ⟨nxt, hnx⟩ : ∃ n, homed (([] : List (Int × Int)).reverse) base = n := ⟨_, rfl⟩
      have HNX := hide hnx
      clear hnx
      have few : ([] : List (Int × Int)).length ≤ 24 := by simp
      generalize hys : ([] : List (Int × Int)) = ys at *
      clear hys
      rcases (show len ≤ k ∨ (k < len ∧ 20 ≤ k) by omega) with h1 | ⟨h1, h2⟩
      all_goals
        obtain ⟨L1, A1, o1, r1, na, nn⟩ := (unhide HE).dev
        have cd := ((unhide HB).xd.kept o1.fr (unhide HB).nd).c
        have rnE := (unhide HE).rn
        rw [unhide HNX] at rnE
        have P := power_s o1 r1 (by omega) na nn (unhide HE).ra rnE (unhide HB) flip ka klen kcap ks (unhide HK).1 (unhide HK).2
        have HP := hide P
        clear P o1 r1 na nn rnE HE
        go_wp2_with fail
        refine (unhide HP).mono ?_
        clear HP cd
        rintro e w9 ⟨rfl, s9⟩
        have HS9 := hide s9
        clear s9
        go_wp2_with fail
        go_loopw [17] (fun iv wx => ∃ m : Nat, m ≤ glen ∧ m ≤ 4 ∧ iv = .int .i64 m ∧ LsS w3 b L aw an base nxt ys (2709 + 52 * m) wx) (fun iv wx => 4 - (intOf iv).toNat)
        case atStart => exact ⟨0, by omega, by omega, rfl, unhide HS9⟩
        case round =>
          obtain ⟨m, hm1, hm2, rfl, hs⟩ := hrel
          clear HS9
          obtain ⟨L1, A1, h, o1, c1, st1, na, nn⟩ := hs.dev
          have B := unhide HB
          have xd1 := B.xd.kept o1.fr B.nd
          have cd := xd1.c
          by_cases hlt2 : m < glen ∧ m < 4
          · obtain ⟨hg1, hg2⟩ := hlt2
            obtain ⟨xb, xo, rfl, hc⟩ := unhide HG m hg1
            have hxw : xb < w.heap.size := World.block_lt_of_cell? _ _ hc
            have cz : wr.cell? ⟨xb, xo + m, none⟩ = some (.int .i64 (gs m)) := o1.fr.cell' (B.fr.cell' hc (fun h => h)) (fun hf => by have : w.heap.size ≤ xb := B.new _ hf; omega)
            have H1 := hide (And.intro o1 (And.intro c1 (And.intro st1 (And.intro na nn)))); have HS := hide hs
            clear o1 c1 st1 na nn hs B xd1 hc
            go_wp2_with fail
            refine region_tailP 5 (by kernel_rfl) (by kernel_rfl) ?_
            simp only [List.take_succ_cons, List.take_zero, List.drop_succ_cons, List.drop_zero]
            repeat (go_big_quiet_step (fail))
            refine wpQuiet_nil ?_
            rintro _ ⟨nq, rfl⟩
            obtain ⟨o1, c1, st1, na, nn⟩ := unhide H1
            have F := d_fuse (o1.drewN nq).d (c1 True) (gs m) (unhide HGS m hg1)
            have HF := hide F
            clear o1 c1 st1 na nn F cd cz
            go_wp2_with fail
            refine (unhide HF).mono ?_
            clear HF
            rintro e w10 ⟨rfl, f10, d10, c10⟩
            obtain ⟨o1, c1, st1, na, nn⟩ := unhide H1
            have B := unhide HB
            have o10 := (o1.drewN nq).fuse f10 d10
            have xd10 := B.xd.kept o10.fr B.nd
            have ra10 : ArrAt w10 aw base := ((unhide HS).ra.kept ((Fr.refl (fun _ => False) _).drewN nq) (fun h => h)).kept f10 (fun e => na (by rw [e]; exact .inl rfl))
            have rn10 : ArrAt w10 an nxt := ((unhide HS).rn.kept ((Fr.refl (fun _ => False) _).drewN nq) (fun h => h)).kept f10 (fun e => nn (by rw [e]; exact .inl rfl))
            have T := tell_openRedoLasts (bd := bd) d10 c10 st1 few xd10 (by omega)
            have HT := hide T; have H10 := hide (And.intro o10 (And.intro ra10 (And.intro rn10 (And.intro na nn))))
            clear T o10 xd10 ra10 rn10 f10 d10 c10 B o1 c1 st1 na nn H1 HS
            go_wp2_with fail
            refine (unhide HT).mono ?_
            clear HT
            rintro e w11 ⟨⟨n11, rfl⟩, D⟩
            obtain ⟨L11, A11, o11, r11⟩ := D.on
            obtain ⟨o10, ra10, rn10, na, nn⟩ := unhide H10
            have o311 := o10.trans o11
            have cd := ((unhide HB).xd.kept o311.fr (unhide HB).nd).c
            have P := power_s o311 r11 (by omega) (o11.other ra10.lt na) (o11.other rn10.lt nn) (ra10.kept o11.fr na) (rn10.kept o11.fr nn) (unhide HB) flip ka klen kcap ks (unhide HK).1 (unhide HK).2
            have HP := hide P
            clear P o311 o11 r11 o10 ra10 rn10 na nn D H10
            go_wp2_with fail
            refine (unhide HP).mono ?_
            clear HP cd
            rintro e w12 ⟨rfl, s12⟩
            have s13 : LsS w3 b L aw an base nxt ys (2709 + 52 * ((m + 1 : Nat) : Int)) w12 := by
              have e : (2709 + 52 * (m : Int) + 52) = 2709 + 52 * ((m + 1 : Nat) : Int) := by omega
              rw [← e]; exact s12
            have HS12 := hide s13
            clear s12 s13
            go_wp2
            exact ⟨⟨m + 1, by omega, by omega, by go_num, unhide HS12⟩, by simp [intOf]; omega⟩
          · have OP := open_stand o1.d (c1 True) st1 few (by omega)
            have HOP := hide OP; have H1 := hide (And.intro o1 (And.intro na nn)); have HS := hide hs
            clear OP o1 c1 st1 na nn hs B xd1
            rcases (show glen ≤ m ∨ (m < glen ∧ 4 ≤ m) by omega) with g1 | ⟨g1, g2⟩
            all_goals
              go_wp2_with fail
              refine (unhide HOP).mono ?_
              clear HOP cd
              rintro e w10 (⟨rfl, lg10, L10, A10, h10, o10, nf10, c10, e10⟩ | ⟨rfl, D⟩)
              rotate_left
              · obtain ⟨_, _, _, ⟨h, _⟩, _⟩ := D
                exact absurd trivial h
              obtain ⟨o1, na, nn⟩ := unhide H1
              have B := unhide HB
              have o310 := o1.trans o10
              have xd10 := B.xd.kept o310.fr B.nd
              have ra10 : ArrAt w10 aw base := (unhide HS).ra.kept o10.fr na
              have rn10 : ArrAt w10 an nxt := (unhide HS).rn.kept o10.fr nn
              have na10 := o10.other (unhide HS).ra.lt na
              have nn10 := o10.other (unhide HS).rn.lt nn
              have mk : h10 0 = 0 := e10.elim Clean.mark Clean.mark
              have key : agree h10 base 256 = true ∨ agree h10 nxt 256 = true := e10.elim (fun c => .inl (agree_clean c)) (fun c => .inr (by rw [unhide HNX] at c; exact agree_clean c))
              have TL := tells_ok base o10.d c10
              have raw : w10.heap[aw]? = some (.cells (arr 256 base) 43 (0, 0)) := ra10
              have cd := xd10.c
              have HTL := hide TL; have H10 := hide (And.intro o310 (And.intro c10 (And.intro mk (And.intro na10 nn10)))); have HA10 := hide (And.intro ra10 (And.intro rn10 (And.intro xd10 (o310.other B.xd.lt B.nd))))
              clear TL o1 na nn B o310 xd10 ra10 rn10 na10 nn10 mk e10 lg10 o10 nf10 c10 H1 HS
              go_wp2_with (refine wpList_load_rowG (by rfl) 43 _ rfl aw rfl 43 (arr 256 base) (0, 0) _ raw Try.underlying43 rfl (info_arr _) ?_)
              refine (unhide HTL).mono ?_
              clear HTL raw cd
              rintro e w11 ⟨rfl, f11⟩
              cases hag : agree h10 base 256
              · have hag2 := key.resolve_left (by rw [hag]; simp)
                clear key
                have F11 := hide f11
                clear f11
                have ra11 : w11.heap[aw]? = some (.cells (arr 256 base) 43 (0, 0)) := (unhide HA10).1.kept (unhide F11) (fun h => h)
                have rn11 : w11.heap[an]? = some (.cells (arr 256 nxt) 43 (0, 0)) := (unhide HA10).2.1.kept (unhide F11) (fun h => h)
                have cd11 := ((unhide HA10).2.2.1.kept (unhide F11) (fun h => h)).c
                have TL := tells_ok nxt ((unhide H10).1.d.keptF (unhide F11)) (unhide H10).2.1
                rw [hag2] at TL
                have HTL := hide TL
                clear TL
                go_wp2_with (refine wpList_load_rowG (by rfl) 43 _ rfl an rfl 43 (arr 256 nxt) (0, 0) _ rn11 Try.underlying43 rfl (info_arr _) ?_)
                refine (unhide HTL).mono ?_
                clear HTL ra11 rn11 cd11
                rintro e w12 ⟨rfl, f12⟩
                have F12 := hide ((unhide F11).trans f12)
                clear f12
                have ra12 : w12.heap[aw]? = some (.cells (arr 256 base) 43 (0, 0)) := (unhide HA10).1.kept (unhide F12) (fun h => h)
                have rn12 : w12.heap[an]? = some (.cells (arr 256 nxt) 43 (0, 0)) := (unhide HA10).2.1.kept (unhide F12) (fun h => h)
                have cd12 := ((unhide HA10).2.2.1.kept (unhide F12) (fun h => h)).c
                have TL := tells_ok base ((unhide H10).1.d.keptF (unhide F12)) (unhide H10).2.1
                rw [hag] at TL
                have HTL := hide TL
                clear TL
                go_wp2_with (refine wpList_load_row rfl 43 _ rfl aw rfl 43 (arr 256 base) (0, 0) _ ra12 Try.underlying43 rfl (info_arr _) ?_)
                refine (unhide HTL).mono ?_
                clear HTL ra12 rn12 cd12
                rintro e w13 ⟨rfl, f13⟩
                have F13 := hide ((unhide F12).trans f13)
                clear f13
                have ra13 : w13.heap[aw]? = some (.cells (arr 256 base) 43 (0, 0)) := (unhide HA10).1.kept (unhide F13) (fun h => h)
                have rn13 : w13.heap[an]? = some (.cells (arr 256 nxt) 43 (0, 0)) := (unhide HA10).2.1.kept (unhide F13) (fun h => h)
                have cd13 := ((unhide HA10).2.2.1.kept (unhide F13) (fun h => h)).c
                have P := fun fl => power_c ((unhide H10).1.quiet (unhide F13)) (unhide H10).2.1 (by omega) (unhide HB) fl ka klen kcap ks (unhide HK).1 (unhide HK).2
                have HP := @hide _ P
                clear P
                go_wp2_with fail
                refine (unhide HP _).mono ?_
                clear HP ra13 rn13 cd13
                rintro e w20 ⟨rfl, L20, A20, o20, c20⟩
                have xd20 := ((unhide HA10).2.2.1.kept (unhide F13) (fun h => h)).kept o20.fr (unhide HA10).2.2.2
                have cd20 := xd20.c
                have ra20 : ArrAt w20 aw base := ((unhide HA10).1.kept (unhide F13) (fun h => h)).kept o20.fr (unhide H10).2.2.2.1
                have rn20 : ArrAt w20 an nxt := ((unhide HA10).2.1.kept (unhide F13) (fun h => h)).kept o20.fr (unhide H10).2.2.2.2
                have OP := open_fresh o20.d (c20 True).dead 0 64 (by omega) (by omega) (by rw [(c20 True).n]; omega) (by rw [(c20 True).now]; exact (unhide H10).2.2.1)
                have B := unhide HB
                have fe : Fr (fun _ => False) w w20 := ((B.fr.trans' (unhide H10).1.fr (fun k hk => .inr (B.new k hk))).trans (unhide F13)).trans' o20.fr (fun k hk => .inr (((unhide H10).1.sub k hk).elim (B.new k) (fun h => Nat.le_trans B.fr.size h)))
                have HOP := hide OP; have H20 := hide (And.intro o20.d (And.intro (c20 True) (And.intro fe (And.intro ra20 (And.intro rn20 xd20)))))
                clear OP o20 c20 fe ra20 rn20 xd20 B
                go_wp2_with fail
                refine (unhide HOP).mono ?_
                clear HOP cd20
                rintro e w21 ⟨rfl, hh⟩
                obtain ⟨d20, c20, fe, ra20, rn20, xd20⟩ := unhide H20
                have f21 : Fr (fun _ => False) w20 w21 := hh ▸ (Fr.refl _ w20).alloc _
                have cd21 := (xd20.kept f21 (fun h => h)).c
                have rw21 : w21.heap[an]? = some (.cells (arr 256 nxt) 43 (0, 0)) := rn20.kept f21 (fun h => h)
                have TL := tells_ok nxt (d20.keptF f21) c20
                rw [hag2] at TL
                have HTL := hide TL; have F21 := hide (fe.trans f21)
                clear TL d20 c20 fe ra20 rn20 xd20 f21 hh H20
                go_wp2_with (refine wpList_load_rowG (by rfl) 43 _ rfl an rfl 43 (arr 256 nxt) (0, 0) _ rw21 Try.underlying43 rfl (info_arr _) ?_)
                refine (unhide HTL).mono ?_
                clear HTL rw21 cd21
                rintro e w22 ⟨rfl, f22⟩
                have F22 := hide ((unhide F21).trans f22); have HAW := hide (awake_ok w22)
                clear f22
                go_wp2_with fail
                refine (unhide HAW).mono ?_
                clear HAW
                rintro e w23 ⟨rfl, f23⟩
                have F23 := hide f23
                clear f23
                go_wp2
                go_ret
                exact ⟨rfl, ((unhide F22).trans (unhide F23)).below (Nat.le_refl _) (fun _ h => h.elim)⟩
              · clear key
                have F11 := hide f11
                clear f11
                have ra11 : w11.heap[aw]? = some (.cells (arr 256 base) 43 (0, 0)) := (unhide HA10).1.kept (unhide F11) (fun h => h)
                have rn11 : w11.heap[an]? = some (.cells (arr 256 nxt) 43 (0, 0)) := (unhide HA10).2.1.kept (unhide F11) (fun h => h)
                have cd11 := ((unhide HA10).2.2.1.kept (unhide F11) (fun h => h)).c
                have TL := tells_ok base ((unhide H10).1.d.keptF (unhide F11)) (unhide H10).2.1
                rw [hag] at TL
                have HTL := hide TL
                clear TL
                go_wp2_with (refine wpList_load_row rfl 43 _ rfl aw rfl 43 (arr 256 base) (0, 0) _ ra11 Try.underlying43 rfl (info_arr _) ?_)
                refine (unhide HTL).mono ?_
                clear HTL ra11 rn11 cd11
                rintro e w12 ⟨rfl, f12⟩
                have F12 := hide ((unhide F11).trans f12)
                clear f12
                have ra12 : w12.heap[aw]? = some (.cells (arr 256 base) 43 (0, 0)) := (unhide HA10).1.kept (unhide F12) (fun h => h)
                have rn12 : w12.heap[an]? = some (.cells (arr 256 nxt) 43 (0, 0)) := (unhide HA10).2.1.kept (unhide F12) (fun h => h)
                have cd12 := ((unhide HA10).2.2.1.kept (unhide F12) (fun h => h)).c
                have P := fun fl => power_c ((unhide H10).1.quiet (unhide F12)) (unhide H10).2.1 (by omega) (unhide HB) fl ka klen kcap ks (unhide HK).1 (unhide HK).2
                have HP := @hide _ P
                clear P
                go_wp2_with fail
                refine (unhide HP _).mono ?_
                clear HP ra12 rn12 cd12
                rintro e w20 ⟨rfl, L20, A20, o20, c20⟩
                have xd20 := ((unhide HA10).2.2.1.kept (unhide F12) (fun h => h)).kept o20.fr (unhide HA10).2.2.2
                have cd20 := xd20.c
                have ra20 : ArrAt w20 aw base := ((unhide HA10).1.kept (unhide F12) (fun h => h)).kept o20.fr (unhide H10).2.2.2.1
                have rn20 : ArrAt w20 an nxt := ((unhide HA10).2.1.kept (unhide F12) (fun h => h)).kept o20.fr (unhide H10).2.2.2.2
                have OP := open_fresh o20.d (c20 True).dead 0 64 (by omega) (by omega) (by rw [(c20 True).n]; omega) (by rw [(c20 True).now]; exact (unhide H10).2.2.1)
                have B := unhide HB
                have fe : Fr (fun _ => False) w w20 := ((B.fr.trans' (unhide H10).1.fr (fun k hk => .inr (B.new k hk))).trans (unhide F12)).trans' o20.fr (fun k hk => .inr (((unhide H10).1.sub k hk).elim (B.new k) (fun h => Nat.le_trans B.fr.size h)))
                have HOP := hide OP; have H20 := hide (And.intro o20.d (And.intro (c20 True) (And.intro fe (And.intro ra20 (And.intro rn20 xd20)))))
                clear OP o20 c20 fe ra20 rn20 xd20 B
                go_wp2_with fail
                refine (unhide HOP).mono ?_
                clear HOP cd20
                rintro e w21 ⟨rfl, hh⟩
                obtain ⟨d20, c20, fe, ra20, rn20, xd20⟩ := unhide H20
                have f21 : Fr (fun _ => False) w20 w21 := hh ▸ (Fr.refl _ w20).alloc _
                have cd21 := (xd20.kept f21 (fun h => h)).c
                have rw21 : w21.heap[aw]? = some (.cells (arr 256 base) 43 (0, 0)) := ra20.kept f21 (fun h => h)
                have TL := tells_ok base (d20.keptF f21) c20
                rw [hag] at TL
                have HTL := hide TL; have F21 := hide (fe.trans f21)
                clear TL d20 c20 fe ra20 rn20 xd20 f21 hh H20
                go_wp2_with (refine wpList_load_rowG (by rfl) 43 _ rfl aw rfl 43 (arr 256 base) (0, 0) _ rw21 Try.underlying43 rfl (info_arr _) ?_)
                refine (unhide HTL).mono ?_
                clear HTL rw21 cd21
                rintro e w22 ⟨rfl, f22⟩
                have F22 := hide ((unhide F21).trans f22); have HAW := hide (awake_ok w22)
                clear f22
                go_wp2_with fail
                refine (unhide HAW).mono ?_
                clear HAW
                rintro e w23 ⟨rfl, f23⟩
                have F23 := hide f23
                clear f23
                go_wp2
                go_ret
                exact ⟨rfl, ((unhide F22).trans (unhide F23)).below (Nat.le_refl _) (fun _ h => h.elim)⟩
end Go.Proofs.Ytockkjkaopihjaa
