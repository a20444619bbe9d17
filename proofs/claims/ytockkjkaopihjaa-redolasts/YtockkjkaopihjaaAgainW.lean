/- RedoAgain: the walk. -/
import Derived.Test.YtockkjkaopihjaaClo
import Derived.Below
namespace Go.Proofs.Ytockkjkaopihjaa
open Go.RowKit

theorem agree_clean {g h : Nat → Int} (c : Clean 0 64 g h) : agree h g 256 = true := decide_eq_true (fun j _ h2 => c.out j (.inr (by omega)))
/-- A whole row read under a guard. -/
theorem wpList_load_rowG {P : Program} {ops : Array Oper} {rest : List Oper} {o : Oper} {a : Act} {w : World} {Q : Exit → Act → World → Prop} (hw : Region.wanted o (yielded ops a.tmps) = true) (ty : TypeId) (x : Operand) (ho : o.op = .load ty x)
    (g : Nat) (hx : a.eval x = .pointer (some ⟨g, 0, none⟩)) (t : TypeId) (cs : Array Value) (fr : Nat × Nat) (d : TypeDesc) (hg : w.heap[g]? = some (.cells cs t fr))
    (hu : P.underlying ty = some d) (hd : (match d with | .struct _ | .array _ _ => true | _ => false) = true) (hi : (P.info? ty).map (·.size) = some cs.size)
    (h : wpList P ops Q rest (a.put o.dst (.agg cs)) w) : wpList P ops Q (o :: rest) a w := by
  simp only [wpList, hw, if_true]
  exact .inl (wp_load_row ty x ho g hx t cs fr d hg hu hd hi h)

theorem On.fuse {w0 w w' : World} {b : Nat} {L0 L : Lay} {A A' : Ab} (h : On w0 b L0 w L A) (f : Fr (fun r => r = b) w w') (d : DevL w' b L A') : On w0 b L0 w' L A' :=
  ⟨d, h.fr.trans' f (fun k hk => .inl (by rw [hk]; exact .inl rfl)), h.sub⟩

/-- A device, a log on it and writes, in variables of their own. -/
structure Set6 (w : World) (b : Nat) (L : Lay) (lg bd bg bx : Nat) (xs : List (Int × Int)) (a : Option Addr) (cap : Nat) (w5 : World) : Prop where
  d : ∃ A, DevL w5 b L A ∧ Calm 32 False A 0 (fun _ => 0)
  log : LogAt w5 lg b 0 64
  nlg : ¬ foot b L lg
  xd : Box w5 bd (ptr b)
  nd : ¬ foot b L bd
  xg : Box w5 bg (ptr lg)
  ng : ¬ foot b L bg
  xx : Box w5 bx (.slice a xs.length cap)
  nx : ¬ foot b L bx
  ws : WrS w5 xs a
  nw : ∀ g o, a = some ⟨g, o, none⟩ → ¬ foot b L g ∧ g < w5.heap.size
  fr : Fr (fun _ => False) w w5
  new : ∀ k, foot b L k → w.heap.size ≤ k

set_option maxRecDepth 100000 in
set_option maxHeartbeats 2000000 in
theorem again_ok (a : Option Addr) (len cap : Nat) (fuse : Int) (ca : Option Addr) (clen ccap : Nat) (flip : Bool) (w : World) (zs : Nat → Int) (cs : Nat → Int) (hz : Nums w a len zs) (hlen : len ≤ maxLen) (hk : Nums w ca clen cs) (hklen : clen ≤ maxLen)
    (hcs : ∀ k, k < clen → cs k < 9223372036854775808) :
    Calls Try.prog 4 #[.slice a len cap, .int .i64 fuse, .slice ca clen ccap, .bool flip] w fun e w' => e = .returned (.bool true) ∧ Below w.heap.size w w' := by
  have HO := hide (law_open w); have HZ := hide hz; have HK := hide hk; have HLEN := hide hlen; have HCS := hide hcs
  unfold maxLen at hklen
  have m7 : bits .and .i64 fuse 255 = (msk fuse 255 : Int) := mask_i64 fuse 255 (by omega)
  have m7l := msk_le fuse 255
  generalize msk fuse 255 = fz at *
  clear hz hk hlen hcs
  go_enter Try.func4, Try.ntmps4
  go_wp2_with fail
  refine (unhide HO).mono ?_
  clear HO
  rintro e w1 ⟨b, lg, L, rfl, o1⟩
  have HO1 := hide o1
  clear o1
  go_wp2_with fail
  obtain ⟨w2, hw2⟩ : ∃ w2, (w1.alloc (.cells #[.pointer (some ⟨b, 0, none⟩)] 23)).alloc (.cells #[.pointer (some ⟨lg, 0, none⟩)] 24) = w2 := ⟨_, rfl⟩
  rw [hw2]
  have f12 : Fr (fun _ => False) w1 w2 := hw2 ▸ ((Fr.refl _ w1).alloc _).alloc _
  have z2 : w2.heap.size = w1.heap.size + 2 := by rw [← hw2]; simp
  have xd2 : Box w2 w1.heap.size (ptr b) := hw2 ▸ (Box.new w1 (ptr b) 23).alloc _
  have xg2 : Box w2 (w1.heap.size + 1) (ptr lg) := by
    have := Box.new (w1.alloc (.cells #[.pointer (some ⟨b, 0, none⟩)] 23)) (ptr lg) 24
    rw [hw2] at this
    simpa using this
  have o1 := unhide HO1
  have WR := writes_ok a len cap 7 w2 zs (fun k hk => let ⟨xb, xo, e, c⟩ := unhide HZ k hk; ⟨xb, xo, e, (o1.fr.trans f12).cell' c (fun h => h)⟩) (unhide HLEN)
  have HWR := hide WR; have H2 := hide (And.intro f12 (And.intro z2 (And.intro xd2 xg2)))
  clear WR hw2 f12 z2 xd2 xg2 o1
  refine (unhide HWR).mono ?_
  clear HWR
  rintro e w3 ⟨v, xs, rfl, wr3⟩
  obtain ⟨xa, xcap, rfl, ws3, in3⟩ := wr3.form
  obtain ⟨f12, z2, xd2, xg2⟩ := unhide H2
  have f23 := wr3.fr
  have bo : ∀ o, (w3.alloc o).cell? ⟨w1.heap.size, 0, none⟩ = some (ptr b) := fun o => (((xd2.kept f23 (fun h => h))).alloc o).c
  have H3 := hide (And.intro ws3 (And.intro in3 f23))
  clear wr3 ws3 in3 f12 z2 xd2 xg2 f23
  go_wp2_with fail
  obtain ⟨w4, hw4⟩ : ∃ w4, w3.alloc (.cells #[.slice xa xs.length xcap] 30) = w4 := ⟨_, rfl⟩
  rw [hw4]
  obtain ⟨f12, z2, xd2, xg2⟩ := unhide H2
  obtain ⟨ws3, in3, f23⟩ := unhide H3
  have o1 := unhide HO1
  have f34 : Fr (fun _ => False) w3 w4 := hw4 ▸ (Fr.refl _ w3).alloc _
  have f14 : Fr (fun _ => False) w1 w4 := (f12.trans f23).trans f34
  have f24 : Fr (fun _ => False) w2 w4 := f23.trans f34
  have xx4 : Box w4 w3.heap.size (.slice xa xs.length xcap) := hw4 ▸ Box.new w3 _ _
  have s23 := f23.size
  have s34 := f34.size
  have F5 := d_fuse (o1.d.keptF f14) (fresh_calm 32 True) fz (by omega)
  have nf : ∀ k, w1.heap.size ≤ k → ¬ foot b L k := fun k hk h => by have := o1.d.lt k h; omega
  have lb : b < w1.heap.size := o1.d.ltb
  have laid : ∀ w5, Fr (fun r => r = b) w4 w5 → DevL w5 b L { Ab.fresh 32 with fuse := (fz : Int) } → Calm 32 False { Ab.fresh 32 with fuse := (fz : Int) } 0 (fun _ => 0) → Set6 w b L lg w1.heap.size (w1.heap.size + 1) w3.heap.size xs xa xcap w5 := fun w5 f5 d5 c5 =>
    ⟨⟨_, d5, c5⟩, (o1.log.kept f14 (fun h => h)).kept f5 (fun e => o1.nlg (by rw [e]; exact .inl rfl)), o1.nlg, (xd2.kept f24 (fun h => h)).kept f5 (by omega), nf _ (by omega), (xg2.kept f24 (fun h => h)).kept f5 (by omega), nf _ (by omega), xx4.kept f5 (by omega), nf _ (by omega),
      (ws3.kept f34 (fun _ _ _ h => h)).kept f5 (fun g o e => by have := in3 g o e; omega), fun g o e => ⟨nf _ (by have := in3 g o e; omega), by have := in3 g o e; have := f5.size; omega⟩, (o1.fr.trans f14).trans' f5 (fun k hk => .inr (by have := o1.new b (.inl rfl); omega)), o1.new⟩
  have HF5 := hide F5; have HLD := @hide _ laid
  clear F5 laid nf lb xx4 s23 s34 f34 f14 f24 hw4 f12 z2 xd2 xg2 ws3 in3 f23 o1 bo H2 H3 HO1
  generalize w1.heap.size + 1 = bg at *
  generalize w1.heap.size = bd at *
  generalize w3.heap.size = bx at *
  refine (unhide HF5).mono ?_
  clear HF5
  rintro e w5 ⟨rfl, f5, d5, c5⟩
  have ld := unhide HLD w5 f5 d5 c5
  have HLD := hide ld
  obtain ⟨A0, d0, c0⟩ := ld.d
  have T := tell_commitRedoAgain (cap := xcap) d0 ld.log ld.nlg c0 (clean0 0 64) ld.ws (fun g o e => (ld.nw g o e).1) ld.xg ld.xx (by omega)
  have HT := hide T
  clear f5 d5 c5 ld d0 c0 T
  go_wp2_with fail
  refine (unhide HT).mono ?_
  clear HT
  intro e w6 hT
  obtain ⟨n, wh, base, ys, rfl, hwh, D, rel, hyl⟩ : ∃ (n : Int) (wh : Bool) (base : Nat → Int) (ys : List (Int × Int)), e = .returned (.int .i64 n) ∧ (n == 0) = wh ∧ (DM w5 b L w6 fun A' => Rest base ys (0 + 129) A') ∧ ((wh = true ∧ base = homed xs.reverse (fun _ => 0) ∧ ys = []) ∨ (wh = false ∧ base = (fun _ => 0) ∧ ys = xs)) ∧ ys.length ≤ 24 := by
    rcases hT with ⟨rfl, D⟩ | ⟨rfl, D⟩
    · exact ⟨0, true, _, [], rfl, rfl, D.mono fun A' ⟨f', c', l'⟩ => stand_calm c' (clean_stand l'), .inl ⟨rfl, rfl, rfl⟩, by simp⟩
    · exact ⟨1, false, _, xs, rfl, rfl, D, .inr ⟨rfl, rfl, rfl⟩, (unhide HLD).ws.len⟩
  have HREL := hide rel
  have ST : ∃ L1 A1, On w5 b L w6 L1 A1 ∧ Rest base ys (129 + 52 * (0 : Nat)) A1 := by
    obtain ⟨L1, A1, o, r⟩ := D.on
    exact ⟨L1, A1, o, r.more (by omega)⟩
  have HST := hide ST
  clear hT rel D ST
  go_wp2_with fail
  go_loopw [13] (fun i wr => ∃ k : Nat, k ≤ clen ∧ k ≤ 6 ∧ i = .int .i64 k ∧ ∃ L1 A1, On w5 b L wr L1 A1 ∧ Rest base ys (129 + 52 * k) A1) (fun i wr => 6 - (intOf i).toNat)
  case atStart => exact ⟨0, by omega, by omega, rfl, unhide HST⟩
  case round =>
    obtain ⟨k, hk1, hk2, rfl, L1, A1, o1, r1⟩ := hrel
    clear HST
    have ld := unhide HLD
    have cd := (ld.xd.kept o1.fr ld.nd).c
    by_cases hlt : k < clen ∧ k < 6
    · obtain ⟨hl1, hl2⟩ := hlt
      obtain ⟨xb, xo, rfl, hc⟩ := unhide HK k hl1
      have hxw : xb < w.heap.size := World.block_lt_of_cell? _ _ hc
      have P := fun fl => p_power_nil o1.d r1.1 r1.2.1 (by omega) fl
      have mk : bits .and .i64 (k : Int) 1 = (msk k 1 : Int) := mask_i64 k 1 (by omega)
      generalize msk (k : Int) 1 = mm at *
      have HP := @hide _ P; have HO1 := hide (And.intro o1 r1); have HC := hide hc
      clear P o1 r1 ld hc
      go_wp2_with fail
      refine (unhide HP _).mono ?_
      clear HP mk
      rintro e w7 ⟨rfl, D⟩
      obtain ⟨L7, A7, o7, h7, p7, c7⟩ := D.on
      obtain ⟨o1, r1⟩ := unhide HO1
      have ld := unhide HLD
      have o57 := o1.trans o7
      have st7 : Stand base ys h7 := r1.2.2 h7 p7
      have cd7 := (ld.xd.kept o57.fr ld.nd).c
      have cz : w7.cell? ⟨xb, xo + k, none⟩ = some (.int .i64 (cs k)) := o57.fr.cell' (ld.fr.cell' (unhide HC) (fun h => h)) (fun hf => by have : w.heap.size ≤ xb := ld.new _ hf; omega)
      have H7 := hide (And.intro o57 (And.intro (c7 True) st7))
      clear o1 r1 ld o57 st7 o7 p7 c7 D HO1 cd
      go_wp2_with fail
      refine region_tailP 5 (by kernel_rfl) (by kernel_rfl) ?_
      simp only [List.take_succ_cons, List.take_zero, List.drop_succ_cons, List.drop_zero]
      repeat (go_big_quiet_step (fail))
      refine wpQuiet_nil ?_
      rintro _ ⟨nq, rfl⟩
      obtain ⟨o57, c7, st7⟩ := unhide H7
      have oq := o57.drewN nq
      have F8 := d_fuse oq.d c7 (cs k) (unhide HCS k hl1)
      have HF8 := hide F8; have HQ := hide (And.intro oq st7)
      clear o57 c7 st7 oq F8 H7 cd7 cz
      go_wp2_with fail
      refine (unhide HF8).mono ?_
      clear HF8
      rintro e w8 ⟨rfl, f8, d8, c8⟩
      obtain ⟨oq, st7⟩ := unhide HQ
      have o8 := oq.fuse f8 d8
      have T := tell_openRedoAgain (bd := bd) d8 c8 st7 hyl ((unhide HLD).xd.kept o8.fr (unhide HLD).nd) (by omega)
      have HT := hide T; have HO8 := hide o8
      clear f8 d8 c8 oq st7 T o8 HQ
      go_wp2_with fail
      refine (unhide HT).mono ?_
      clear HT
      rintro e w9 ⟨⟨n9, rfl⟩, D⟩
      have st9 : ∃ L1 A1, On w5 b L w9 L1 A1 ∧ Rest base ys (129 + 52 * ((k + 1 : Nat) : Int)) A1 := by
        obtain ⟨L9, A9, o9, r9⟩ := D.on
        exact ⟨L9, A9, (unhide HO8).trans o9, r9.more (by omega)⟩
      have HS9 := hide st9
      clear D st9
      go_wp2
      exact ⟨⟨k + 1, by omega, by omega, by go_num, unhide HS9⟩, by simp [intOf]; omega⟩
    · have P := p_power_nil o1.d r1.1 r1.2.1 (by omega) false
      have HP := hide P; have HO1 := hide (And.intro o1 r1)
      clear P o1 r1 ld
      rcases (show clen ≤ k ∨ (k < clen ∧ 6 ≤ k) by omega) with h1 | ⟨h1, h2⟩
      all_goals
        go_wp2_with fail
        refine (unhide HP).mono ?_
        clear HP
        rintro e w7 ⟨rfl, D⟩
        obtain ⟨L7, A7, o7, h7, p7, c7⟩ := D.on
        obtain ⟨o1, r1⟩ := unhide HO1
        have ld := unhide HLD
        have o57 := o1.trans o7
        have cd7 := (ld.xd.kept o57.fr ld.nd).c
        have OP := open_stand o7.d (c7 True) (r1.2.2 h7 p7) hyl (by omega)
        have HOP := hide OP; have H7 := hide o57
        clear o1 r1 ld o57 OP o7 p7 c7 D HO1 cd
        go_wp2_with fail
        refine (unhide HOP).mono ?_
        clear HOP
        rintro e w8 (⟨rfl, lg8, L8, A8, h8, o8, nf8, c8, e8⟩ | ⟨rfl, D⟩)
        rotate_left
        · obtain ⟨_, _, _, ⟨h, _⟩, _⟩ := D
          exact absurd trivial h
        have ld := unhide HLD
        have o58 := (unhide H7).trans o8
        have xd8 := ld.xd.kept o58.fr ld.nd
        have xx8 := ld.xx.kept o58.fr ld.nx
        have ws8 := ld.ws.kept o58.fr (fun g o e => (ld.nw g o e).1)
        have fr8 : Fr (fun _ => False) w w8 := ld.fr.trans' o58.fr (fun k hk => .inr (ld.new k hk))
        have nfl : w7.heap.size < w8.heap.size := World.block_lt_of_cell? _ _ lg8.c0
        have v1 : ∀ o, (w8.alloc o).cell? ⟨bx, 0, none⟩ = some (.slice xa xs.length xcap) := fun o => (xx8.alloc o).c
        have H8 := hide (And.intro lg8 (And.intro o8 (And.intro nf8 (And.intro c8 e8)))); have nd8 := o58.other ld.xd.lt ld.nd
        have lt8 : ∀ k, foot b L8 k → w.heap.size ≤ k := fun k hk => (o58.sub k hk).elim (ld.new k) (fun h => Nat.le_trans ld.fr.size h)
        have HX8 := hide (And.intro xd8 (And.intro ws8 fr8)); have HLT := hide (And.intro nd8 lt8)
        clear ld o58 nd8 lt8 xd8 xx8 ws8 fr8 lg8 o8 nf8 c8 e8 cd7
        go_wp2_with (refine wpList_load_row rfl 43 _ rfl w8.heap.size rfl 43 Try.zeroCells43 (0, 0) _ (heap_alloc_new w8 _) Try.underlying43 rfl (by rw [zero_arr]; exact info_arr _) ?_)
        generalize hall : homed xs.reverse (fun _ => 0) = all at *
        rw [zero_arr]
        obtain ⟨w9, hw9⟩ : ∃ w9, w8.alloc (.cells (arr 256 fun _ => 0) 43) = w9 := ⟨_, rfl⟩
        rw [hw9]
        obtain ⟨xd8, ws8, fr8⟩ := unhide HX8
        have f89 : Fr (fun _ => False) w8 w9 := hw9 ▸ (Fr.refl _ w8).alloc _
        have an9 : ArrAt w9 w8.heap.size (fun _ => 0) := hw9 ▸ ArrAt.new w8 _
        have DN := done_ok w9 (fun _ => 0) xa xcap xs ws8.len ws8.out (fun k hk => by
          obtain ⟨g, e, _, t⟩ := ws8.at_ (by intro e; rw [e] at hk; simp at hk)
          exact ⟨g, 0, e, t.kept f89 (fun h => h)⟩)
        rw [hall] at DN
        have HDN := hide DN; have HALL := hide hall; have H9 := hide (And.intro f89 an9)
        clear DN f89 an9 hw9 hall xd8 ws8 fr8 v1
        refine (unhide HDN).mono ?_
        clear HDN
        rintro e w10 ⟨rfl, f10⟩
        obtain ⟨f89, an9⟩ := unhide H9
        obtain ⟨xd8, ws8, fr8⟩ := unhide HX8
        have f810 := f89.trans f10
        have xd10 := xd8.kept f810 (fun h => h)
        have an10 := an9.kept f10 (fun h => h)
        have fq : Fr (fun _ => False) w10 ((w10.alloc (.cells Try.zeroCells43 43)).setRow w10.heap.size (arr 256 all)) := ((Fr.refl (fun _ => False) w10).alloc _).trans' (Fr.setRow _ _ _) (fun k hk => .inr (by omega))
        have cdq := (xd10.kept fq (fun h => h)).c
        have HQ := hide (And.intro f810 (And.intro an10 (And.intro fq xd10)))
        clear f89 an9 xd8 ws8 fr8 f810 xd10 an10 fq f10 H9
        go_wp2_with (first | (refine wpList_store_row rfl 43 _ _ rfl w10.heap.size (arr 256 all) rfl rfl 43 Try.zeroCells43 (heap_alloc_new w10 _) (info_arr _) (by rw [zero_arr, arr_size, arr_size]) (arr_one _ _) ?_) | (refine wpList_load_row rfl 43 _ rfl w10.heap.size rfl 43 (arr 256 all) (0, 0) _ (setRow_heap _ _ _ _ _ _ (heap_alloc_new w10 _)) Try.underlying43 rfl (info_arr _) ?_))
        obtain ⟨w11, hw11⟩ : ∃ w11, (w10.alloc (.cells Try.zeroCells43 43)).setRow w10.heap.size (arr 256 all) = w11 := ⟨_, rfl⟩
        obtain ⟨f810, an10, fq, xd10⟩ := unhide HQ
        rw [hw11] at fq ⊢
        obtain ⟨lg8, o8, nf8, c8, e8⟩ := unhide H8
        have f811 := f810.trans fq
        have TL := tells_ok all (o8.d.keptF f811) c8
        have key : agree h8 all 256 = true ∨ (wh = false ∧ agree h8 (fun _ => 0) 256 = true) := by
          have hall := unhide HALL
          rcases unhide HREL with ⟨_, rfl, rfl⟩ | ⟨h, rfl, rfl⟩
          · exact .inl (agree_clean (e8.elim id id))
          · rcases e8 with e | e
            · exact .inr ⟨h, agree_clean e⟩
            · rw [hall] at e
              exact .inl (agree_clean e)
        have HTL := hide TL; have H11 := hide (And.intro f811 (And.intro (an10.kept fq (fun h => h)) (xd10.kept fq (fun h => h))))
        clear TL f811 f810 an10 fq xd10 lg8 o8 nf8 c8 e8 hw11 cdq HQ HREL HALL
        refine (unhide HTL).mono ?_
        clear HTL
        rintro e w12 ⟨rfl, f12⟩
        obtain ⟨f811, an11, xd11⟩ := unhide H11
        cases hag : agree h8 all 256
        · obtain ⟨hw0, hag0⟩ : wh = false ∧ agree h8 (fun _ => 0) 256 = true := key.resolve_left (by rw [hag]; simp)
          subst hw0
          have an12 : w12.heap[w8.heap.size]? = some (.cells (arr 256 fun _ => 0) 43 (0, 0)) := an11.kept f12 (fun h => h)
          have cd12 := (xd11.kept f12 (fun h => h)).c
          have TL := tells_ok (fun _ => 0) ((unhide H8).2.1.d.keptF (f811.trans f12)) (unhide H8).2.2.2.1
          rw [hag0] at TL
          have HTL := hide TL; have H12 := hide (f811.trans f12)
          clear TL f811 an11 xd11 f12 key H11
          go_wp2_with (refine wpList_load_rowG (by rfl) 43 _ rfl w8.heap.size rfl 43 (arr 256 fun _ => 0) (0, 0) _ an12 Try.underlying43 rfl (info_arr _) ?_)
          refine (unhide HTL).mono ?_
          clear HTL
          rintro e w13 ⟨rfl, f13⟩
          have HV := hide ((unhide H12).trans f13)
          clear f13 H12 an12 cd12
          go_wp2_with fail
          obtain ⟨w14, hw14⟩ : ∃ w14, w13.alloc (.cells #[.int .i64 200, .int .u64 5] 32) = w14 := ⟨_, rfl⟩
          rw [hw14]
          obtain ⟨lg8, o8, nf8, c8, e8⟩ := unhide H8
          obtain ⟨bb, cl8⟩ : ∃ bb, Clean 0 64 bb h8 := e8.elim (fun c => ⟨_, c⟩) (fun c => ⟨_, c⟩)
          have f14 : Fr (fun _ => False) w8 w14 := (unhide HV).trans (hw14 ▸ (Fr.refl _ w13).alloc _)
          have x14 : WrAt w14 w13.heap.size 0 [(200, 5)] := one_write _ _ _ _ 32 (by rw [← hw14]; exact heap_alloc_new w13 _)
          have CM := commit_ok (o8.d.keptF f14) (lg8.kept f14 (fun h => h)) nf8 c8 cl8 w13.heap.size 0 1 _ x14 (fun hf => by have := o8.d.lt _ hf; have := (unhide HV).size; omega) ⟨by simp, by intro x hx; simp at hx; subst hx; exact ⟨by omega, by omega, by omega⟩, by simp, by omega⟩ (by omega) (by omega) (by simp; omega)
          have HCM := hide CM; have H14 := hide f14
          clear CM f14 x14 hw14 lg8 o8 nf8 c8 e8 cl8
          refine (unhide HCM).mono ?_
          clear HCM
          rintro e w15 (⟨rfl, D⟩ | ⟨rfl, D⟩)
          rotate_left
          · obtain ⟨_, _, _, ⟨h, _⟩, _⟩ := D
            exact absurd trivial h
          obtain ⟨L15, A15, o15, f15, c15, cl15⟩ := D.on
          have xd15 := ((unhide HX8).1.kept (unhide H14) (fun h => h)).kept o15.fr (unhide HLT).1
          have cd15 := xd15.c
          have P := p_power_nil o15.d c15.n c15.st (by simp; omega) true
          have HP := hide P; have H15 := hide (And.intro o15 (And.intro c15 cl15)); have HD15 := hide (And.intro xd15 (o15.other ((unhide HX8).1.kept (unhide H14) (fun h => h)).lt (unhide HLT).1))
          clear P o15 c15 cl15 xd15 D
          go_wp2_with fail
          refine (unhide HP).mono ?_
          clear HP
          rintro e w16 ⟨rfl, D⟩
          obtain ⟨L16, A16, o16, h16, p16, c16⟩ := D.on
          obtain ⟨o15, c15, cl15⟩ := unhide H15
          have e16 := calm_poss c15 p16
          subst e16
          have xd16 := (unhide HD15).1.kept o16.fr (unhide HD15).2
          have cd16 := xd16.c
          have OP := open_fresh o16.d (c16 True).dead 0 64 (by omega) (by omega) (by rw [(c16 True).n]; omega) (by rw [(c16 True).now]; exact cl15.mark)
          have fe : Fr (fun _ => False) w w16 := ((unhide HX8).2.2.trans (unhide H14)).trans' (o15.trans o16).fr (fun k hk => .inr ((unhide HLT).2 k hk))
          have v5 : h16 200 = 5 := (cl15.out 200 (.inr (by omega))).trans (by simp [homed])
          have HOP := hide OP; have H16 := hide (And.intro o16.d (And.intro (c16 True) (And.intro v5 fe))); have HD16 := hide xd16
          clear OP o16 c16 v5 fe o15 c15 cl15 xd16 cd15 p16 D
          go_wp2_with fail
          refine (unhide HOP).mono ?_
          clear HOP
          rintro e w17 ⟨rfl, hh⟩
          obtain ⟨d16, c16, v5, fe⟩ := unhide H16
          have f17 : Fr (fun _ => False) w16 w17 := hh ▸ (Fr.refl _ w16).alloc _
          have cd17 := ((unhide HD16).kept f17 (fun h => h)).c
          have LD := d_load (d16.keptF f17) c16 200 (by omega)
          rw [v5] at LD
          have HL := hide LD; have HF17 := hide (fe.trans f17); have HAW := hide (awake_ok w17)
          clear LD d16 c16 v5 fe f17 hh cd16
          go_wp2_with fail
          refine (unhide HL).mono ?_
          clear HL
          rintro e w18 ⟨rfl, hh⟩
          replace hh := hh.symm
          subst hh
          go_wp2_with fail
          refine (unhide HAW).mono ?_
          clear HAW
          rintro e w19 ⟨rfl, f19⟩
          have HF19 := hide f19
          clear f19
          go_wp2
          go_ret
          exact ⟨rfl, ((unhide HF17).trans (unhide HF19)).below (Nat.le_refl _) (fun _ h => h.elim)⟩
        · have HV := hide (f811.trans f12)
          clear f811 an11 xd11 f12 key H11
          go_wp2_with fail
          obtain ⟨w14, hw14⟩ : ∃ w14, w12.alloc (.cells #[.int .i64 200, .int .u64 5] 32) = w14 := ⟨_, rfl⟩
          rw [hw14]
          obtain ⟨lg8, o8, nf8, c8, e8⟩ := unhide H8
          obtain ⟨bb, cl8⟩ : ∃ bb, Clean 0 64 bb h8 := e8.elim (fun c => ⟨_, c⟩) (fun c => ⟨_, c⟩)
          have f14 : Fr (fun _ => False) w8 w14 := (unhide HV).trans (hw14 ▸ (Fr.refl _ w12).alloc _)
          have x14 : WrAt w14 w12.heap.size 0 [(200, 5)] := one_write _ _ _ _ 32 (by rw [← hw14]; exact heap_alloc_new w12 _)
          have CM := commit_ok (o8.d.keptF f14) (lg8.kept f14 (fun h => h)) nf8 c8 cl8 w12.heap.size 0 1 _ x14 (fun hf => by have := o8.d.lt _ hf; have := (unhide HV).size; omega) ⟨by simp, by intro x hx; simp at hx; subst hx; exact ⟨by omega, by omega, by omega⟩, by simp, by omega⟩ (by omega) (by omega) (by simp; omega)
          have HCM := hide CM; have H14 := hide f14
          clear CM f14 x14 hw14 lg8 o8 nf8 c8 e8 cl8
          refine (unhide HCM).mono ?_
          clear HCM
          rintro e w15 (⟨rfl, D⟩ | ⟨rfl, D⟩)
          rotate_left
          · obtain ⟨_, _, _, ⟨h, _⟩, _⟩ := D
            exact absurd trivial h
          obtain ⟨L15, A15, o15, f15, c15, cl15⟩ := D.on
          have xd15 := ((unhide HX8).1.kept (unhide H14) (fun h => h)).kept o15.fr (unhide HLT).1
          have cd15 := xd15.c
          have P := p_power_nil o15.d c15.n c15.st (by simp; omega) true
          have HP := hide P; have H15 := hide (And.intro o15 (And.intro c15 cl15)); have HD15 := hide (And.intro xd15 (o15.other ((unhide HX8).1.kept (unhide H14) (fun h => h)).lt (unhide HLT).1))
          clear P o15 c15 cl15 xd15 D
          go_wp2_with fail
          refine (unhide HP).mono ?_
          clear HP
          rintro e w16 ⟨rfl, D⟩
          obtain ⟨L16, A16, o16, h16, p16, c16⟩ := D.on
          obtain ⟨o15, c15, cl15⟩ := unhide H15
          have e16 := calm_poss c15 p16
          subst e16
          have xd16 := (unhide HD15).1.kept o16.fr (unhide HD15).2
          have cd16 := xd16.c
          have OP := open_fresh o16.d (c16 True).dead 0 64 (by omega) (by omega) (by rw [(c16 True).n]; omega) (by rw [(c16 True).now]; exact cl15.mark)
          have fe : Fr (fun _ => False) w w16 := ((unhide HX8).2.2.trans (unhide H14)).trans' (o15.trans o16).fr (fun k hk => .inr ((unhide HLT).2 k hk))
          have v5 : h16 200 = 5 := (cl15.out 200 (.inr (by omega))).trans (by simp [homed])
          have HOP := hide OP; have H16 := hide (And.intro o16.d (And.intro (c16 True) (And.intro v5 fe))); have HD16 := hide xd16
          clear OP o16 c16 v5 fe o15 c15 cl15 xd16 cd15 p16 D
          go_wp2_with fail
          refine (unhide HOP).mono ?_
          clear HOP
          rintro e w17 ⟨rfl, hh⟩
          obtain ⟨d16, c16, v5, fe⟩ := unhide H16
          have f17 : Fr (fun _ => False) w16 w17 := hh ▸ (Fr.refl _ w16).alloc _
          have cd17 := ((unhide HD16).kept f17 (fun h => h)).c
          have LD := d_load (d16.keptF f17) c16 200 (by omega)
          rw [v5] at LD
          have HL := hide LD; have HF17 := hide (fe.trans f17); have HAW := hide (awake_ok w17)
          clear LD d16 c16 v5 fe f17 hh cd16
          go_wp2_with fail
          refine (unhide HL).mono ?_
          clear HL
          rintro e w18 ⟨rfl, hh⟩
          replace hh := hh.symm
          subst hh
          go_wp2_with fail
          refine (unhide HAW).mono ?_
          clear HAW
          rintro e w19 ⟨rfl, f19⟩
          have HF19 := hide f19
          clear f19
          go_wp2
          go_ret
          exact ⟨rfl, ((unhide HF17).trans (unhide HF19)).below (Nat.le_refl _) (fun _ h => h.elim)⟩
end Go.Proofs.Ytockkjkaopihjaa
