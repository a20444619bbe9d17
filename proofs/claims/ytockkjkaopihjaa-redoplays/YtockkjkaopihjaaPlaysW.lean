/- RedoPlays: the walk. -/
import Derived.Test.YtockkjkaopihjaaStn
import Derived.Test.YtockkjkaopihjaaIns
import Derived.Below
namespace Go.Proofs.Ytockkjkaopihjaa
open Go.RowKit

theorem agree_of {g h : Nat → Int} (c : Clean 0 64 g h) : agree h g 256 = true := decide_eq_true (fun j _ h2 => c.out j (.inr (by omega)))

/-- What the loop holds. -/
structure PlJ (w2 : World) (b : Nat) (L : Lay) (aw k : Nat) (base : Nat → Int) (wr : World) : Prop where
  dev : ∃ L1 A1 f, On w2 b L wr L1 A1 ∧ Calm 32 True A1 (129 * k) f ∧ Clean 0 64 base f ∧ ¬ foot b L1 aw
  ra : ArrAt wr aw base

set_option maxRecDepth 100000 in
set_option maxHeartbeats 4000000 in
theorem plays_ok (a : Option Addr) (len cap : Nat) (oa : Option Addr) (olen ocap : Nat) (w : World) (RA : Nat → Option Addr) (RL RC : Nat → Nat) (RZ : Nat → List Int) (os : Nat → Int)
    (hz : Rows2 w a len RA RL RC RZ) (hlen : len ≤ maxLen) (ho : Nums w oa olen os) (_holen : olen ≤ maxLen) :
    Calls Try.prog 6 #[.slice a len cap, .slice oa olen ocap] w fun e w' => e = .returned (.bool true) ∧ Below w.heap.size w w' := by
  have HO := hide (law_open w); have HZ := hide hz; have HOD := hide ho
  unfold maxLen at hlen
  clear hz ho
  go_enter Try.func6, Try.ntmps6
  go_wp2_with fail
  refine (unhide HO).mono ?_
  clear HO
  rintro e w1 ⟨b, lg, L, rfl, o1⟩
  have HO1 := hide o1; have HAW := hide (awake_ok w1)
  clear o1
  go_wp2_with fail
  refine (unhide HAW).mono ?_
  clear HAW
  rintro e w2 ⟨rfl, f2⟩
  have HF2 := hide f2
  clear f2
  go_wp2_with fail
  rw [zero_arr]
  have st0 : PlJ w2 b L w2.heap.size 0 (fun _ => 0) (w2.alloc (.cells (arr 256 fun _ => 0) 43)) := by
    have d := (unhide HO1).d.keptF (unhide HF2)
    exact ⟨⟨L, _, _, (On.start d).alloc _, fresh_calm 32 True, clean0 0 64, fun h => by have := d.lt _ h; omega⟩, ArrAt.new w2 _⟩
  have HS0 := hide st0
  clear st0
  go_loopw [8] (fun iv wr => ∃ (k : Nat) (base : Nat → Int), k ≤ len ∧ k ≤ 20 ∧ iv = .int .i64 k ∧ PlJ w2 b L w2.heap.size k base wr) (fun iv wr => 20 - (intOf iv).toNat)
  case atStart =>
    exact ⟨0, _, by omega, by omega, rfl, unhide HS0⟩
  case round =>
    obtain ⟨k, base, hk1, hk2, rfl, hj⟩ := hrel
    clear HS0
    generalize haw : w2.heap.size = aw at *
    by_cases hlt : k < len ∧ k < 20
    · obtain ⟨hl1, hl2⟩ := hlt
      obtain ⟨⟨xb, xo, rfl, hc⟩, hn, hnl⟩ := unhide HZ k hl1
      obtain ⟨L1, A1, f, o1, c1, cl1, na⟩ := hj.dev
      have oo := unhide HO1
      have fw2 : Fr (fun _ => False) w w2 := oo.fr.trans (unhide HF2)
      have ww : w.heap.size ≤ w2.heap.size := fw2.size
      have old : ∀ xb, xb < w.heap.size → ¬ foot b L xb := fun xb h hf => by have : w.heap.size ≤ xb := oo.new _ hf; omega
      have cz : wr.cell? ⟨xb, xo + k, none⟩ = some (.slice (RA k) (RL k) (RC k)) := o1.fr.cell' (fw2.cell' hc (fun h => h)) (old xb (World.block_lt_of_cell? _ _ hc))
      have WR := fun m => writes_ok (RA k) (RL k) (RC k) m wr (fun i => (RZ k).getD i 0) (fun i hi => let ⟨yb, yo, e, c⟩ := hn i hi; ⟨yb, yo, e, o1.fr.cell' (fw2.cell' c (fun h => h)) (old yb (World.block_lt_of_cell? _ _ c))⟩) hnl
      have HWR := @hide _ WR; have H1 := hide (And.intro o1 (And.intro c1 (And.intro cl1 na))); have HJ := hide hj; have HOLD := hide (And.intro fw2 old)
      clear WR o1 c1 cl1 na hj old hn hc hnl oo fw2
      go_wp2_with fail
      refine (unhide HWR _).mono ?_
      clear HWR cz
      rintro e w3 ⟨v, xs, rfl, wr3⟩
      have row := wr3.row
      have f3 := wr3.fr
      obtain ⟨xa, xcap, rfl, ws3, in3⟩ := wr3.form
      have hxl := ws3.len
      have H3 := hide (And.intro ws3 (And.intro in3 f3)); have HROW := hide row
      clear wr3 ws3 in3 f3 row
      rcases (show olen ≤ k ∨ k < olen by omega) with h0 | h0
      · clear HROW
        obtain ⟨ws3, in3, f3⟩ := unhide H3
        obtain ⟨o1, c1, cl1, na⟩ := unhide H1
        have oo := unhide HO1
        have log2 := oo.log.kept (unhide HF2) (fun h => h)
        have o3 := o1.quiet f3
        have C := commit_any (cap := xcap) o3.d (o3.log log2 oo.nlg) (o3.other (World.block_lt_of_cell? _ _ log2.c0) oo.nlg) c1 cl1 ws3 (fun g o e => o1.new (in3 g o e).1) (by omega)
        have HC := hide C
        clear ws3 in3 f3 o1 c1 cl1 na oo log2 o3 C
        generalize hnx : homed xs.reverse base = nxt at *
        have HNX := hide hnx
        clear hnx
        go_wp2_with fail
        refine (unhide HC).mono ?_
        clear HC
        rintro e w4 (⟨rfl, D⟩ | ⟨rfl, D⟩)
        rotate_left
        · obtain ⟨_, _, _, ⟨h, _⟩, _⟩ := D
          exact absurd trivial h
        obtain ⟨L4, A4, o4, f4, c4, cl4⟩ := D.on
        obtain ⟨ws3, in3, f3⟩ := unhide H3
        obtain ⟨o1, c1, cl1, na⟩ := unhide H1
        have ra3 := (unhide HJ).ra.kept f3 (fun h => h)
        have ra4 : w4.heap[aw]? = some (.cells (arr 256 base) 43 (0, 0)) := ra3.kept o4.fr na
        have ws4 := ws3.kept o4.fr (fun g o e => o1.new (in3 g o e).1)
        have DN := done_ok w4 base xa xcap xs ws4.len ws4.out (fun k hk => by
          obtain ⟨g, e, _, t⟩ := ws4.at_ (by intro e; rw [e] at hk; simp at hk)
          exact ⟨g, 0, e, t⟩)
        rw [unhide HNX] at DN
        have HDN := hide DN; have H4 := hide (And.intro ((o1.quiet f3).trans o4) (And.intro c4 (And.intro cl4 (o4.other ra3.lt na))))
        clear DN ws4 ra3 ws3 in3 f3 o1 c1 cl1 na o4 c4 cl4 D
        go_wp2_with (refine wpList_load_row rfl 43 _ rfl aw rfl 43 (arr 256 base) (0, 0) _ ra4 Try.underlying43 rfl (info_arr _) ?_)
        refine (unhide HDN).mono ?_
        clear HDN
        rintro e w5 ⟨rfl, f5⟩
        have ra5 : w5.heap[aw]? = some (.cells (arr 256 base) 43 (0, 0)) := ArrAt.kept (f := base) ra4 f5 (fun h => h)
        have HF5 := hide f5
        clear ra4 f5
        go_wp2_with (first | (refine wpList_store_row rfl 43 _ _ rfl aw (arr 256 nxt) rfl rfl 43 (arr 256 base) ra5 (info_arr _) (by rw [arr_size, arr_size]) (arr_one _ _) ?_) | (refine wpList_load_row rfl 43 _ rfl aw rfl 43 (arr 256 nxt) (0, 0) _ (setRow_heap _ _ _ _ _ _ ra5) Try.underlying43 rfl (info_arr _) ?_))
        obtain ⟨w6, hw6⟩ : ∃ w6, w5.setRow aw (arr 256 nxt) = w6 := ⟨_, rfl⟩
        rw [hw6]
        obtain ⟨o4, c4, cl4, na4⟩ := unhide H4
        have f6 : Fr (fun r => r = aw) w5 w6 := hw6 ▸ Fr.setRow _ _ _
        have o6 := (o4.quiet (unhide HF5)).turn f6 (fun r hr => by rw [hr]; exact na4) (fun r hr => by omega)
        have ra6 : ArrAt w6 aw nxt := hw6 ▸ setRow_heap w5 aw _ _ _ _ ra5
        have TL := tells_ok nxt o6.d c4
        rw [agree_of cl4] at TL
        have J := fun w7 (f7 : Fr (fun _ => False) w6 w7) => (⟨⟨L4, A4, f4, o6.quiet f7, c4.more (by omega), cl4, na4⟩, ra6.kept f7 (fun h => h)⟩ : PlJ w2 b L aw (k + 1) nxt w7)
        have HTL := hide TL; have HJ7 := @hide _ J
        clear TL J o4 c4 cl4 na4 f6 o6 ra6 hw6 ra5 H4
        refine (unhide HTL).mono ?_
        clear HTL
        rintro e w7 ⟨rfl, f7⟩
        have HJ8 := hide (unhide HJ7 w7 f7)
        clear f7
        go_wp2
        exact ⟨⟨k + 1, nxt, by omega, by omega, by go_num, unhide HJ8⟩, by simp [intOf]; omega⟩
      · have oc : ∃ xb xo, oa = some ⟨xb, xo, none⟩ ∧ w3.cell? ⟨xb, xo + k, none⟩ = some (.int .i64 (os k)) := by
          obtain ⟨yb, yo, e, c⟩ := unhide HOD k h0
          obtain ⟨fw2, old⟩ := unhide HOLD
          exact ⟨yb, yo, e, (unhide H3).2.2.cell' ((unhide H1).1.fr.cell' (fw2.cell' c (fun h => h)) (old yb (World.block_lt_of_cell? _ _ c))) (fun h => h)⟩
        obtain ⟨yb, yo, rfl, oc⟩ := oc
        rcases (show os k < 64 ∨ (64 ≤ os k ∧ 255 < os k) ∨ (64 ≤ os k ∧ os k ≤ 255) by omega) with h1 | ⟨h1, h2⟩ | ⟨h1, h2⟩
        · skip
          have hi := info_wr
          obtain ⟨i0, hi0⟩ : ∃ i, Try.prog.info? 32 = some i := by
            cases h : Try.prog.info? 32 with
            | none => rw [h] at hi; simp at hi
            | some i => exact ⟨i, rfl⟩
          rw [hi0] at hi
          simp only [Option.map_some, Option.some.injEq, Prod.mk.injEq] at hi
          have HI := hide (And.intro hi0 hi)
          clear hi0 hi
          go_wp2_with (at_builtin; refine wpList_append_own_at _ rfl _ _ 30 rfl wr.heap.size 32 i0 (.agg #[.int .i64 0, .int .u64 0]) 2 16 Try.underlying30 (unhide HI).1 (unhide HI).2.1 (unhide HI).2.2.1 (unhide HI).2.2.2 rfl (by decide) _ xs.length (wcells xs) rfl ((unhide HROW).alloc _) _ 1 1 [.int .i64 (os k), .int .u64 9] rfl rfl ?c1 ?c2 ?c3 ?c4 ?c5 ?_)
          case c1 => exact pair_news _ _ _ _
          case c2 => intro u hu; simp at hu; rcases hu with rfl | rfl <;> rfl
          case c3 => unfold maxLen; omega
          case c4 => omega
          case c5 => have := (unhide H3).2.2.size; simp; omega
          intro v' w4 hown hgrow _ _
          obtain ⟨g', cap', rfl⟩ := owns_form hown (by omega)
          obtain ⟨ws3, in3, f3⟩ := unhide H3
          obtain ⟨o1, c1, cl1, na⟩ := unhide H1
          have oo := unhide HO1
          have log2 := oo.log.kept (unhide HF2) (fun h => h)
          have row4 : w4.ownsRow wr.heap.size 32 2 (.slice (some ⟨g', 0, none⟩) (xs.length + 1) cap') (xs ++ [(os k, (9 : Int))]).length (wcells (xs ++ [(os k, (9 : Int))])) := by
            rw [List.length_append, wcells_app]; exact hown
          have wrs := owns_wr row4
          have lo : ∀ r, some r = (Value.slice xa xs.length xcap).ownBlock → wr.heap.size ≤ r := fun r hr => ((unhide HROW).lt r hr.symm).1
          have f34 : Fr (fun r => some r = (Value.slice xa xs.length xcap).ownBlock) w3 w4 := ((Fr.refl _ w3).alloc _).grown hgrow (fun j e => .inl e.symm)
          have o4 : On w2 b L w4 L1 A1 := (o1.quiet f3).turn f34 (fun r hr => o1.new (lo r hr)) (fun r hr => Nat.le_trans o1.fr.size (lo r hr))
          have ra4 : ArrAt w4 aw base := ((unhide HJ).ra.kept f3 (fun h => h)).kept f34 (fun e => by have := lo aw e; have := (unhide HJ).ra.lt; omega)
          have e1 : (xs ++ [(os k, (9 : Int))]).length = xs.length + 1 := by simp
          have C := commit_arg o4.d (o4.log log2 oo.nlg) g' 0 cap' (xs ++ [(os k, (9 : Int))]) wrs (by omega) (by omega) xs.length (by omega) (by
            rw [List.getD_eq_getElem?_getD, List.getElem?_append_right (Nat.le_refl _), c1.n]
            simp [outside]; omega) (fun i x hi hx => by
            rw [List.getElem?_append_left hi] at hx
            have := ws3.out x (List.mem_of_getElem? hx)
            rw [c1.n]
            exact ⟨by omega, by omega, by omega⟩)
          rw [e1] at C
          have HC := hide C; have H4 := hide (And.intro o4 (And.intro c1 (And.intro cl1 (And.intro na ra4))))
          clear C e1 ra4 o4 f34 lo wrs row4 log2 oo o1 c1 cl1 na ws3 in3 f3 hown hgrow
          go_wp2_with fail
          refine (unhide HC).mono ?_
          clear HC
          rintro e w5 ⟨rfl, f5⟩
          obtain ⟨o4, c1, cl1, na, ra4⟩ := unhide H4
          have ra5 : w5.heap[aw]? = some (.cells (arr 256 base) 43 (0, 0)) := ra4.kept f5 (fun h => h)
          have TL := tells_ok base (o4.d.keptF f5) c1
          rw [agree_of cl1] at TL
          have J := fun w7 (f7 : Fr (fun _ => False) w5 w7) => (⟨⟨L1, A1, f, (o4.quiet f5).quiet f7, c1.more (by omega), cl1, na⟩, (ra4.kept f5 (fun h => h)).kept f7 (fun h => h)⟩ : PlJ w2 b L aw (k + 1) base w7)
          have HTL := hide TL; have HJ7 := @hide _ J
          clear TL J o4 c1 cl1 na ra4 f5 H4
          go_wp2_with (refine wpList_load_row rfl 43 _ rfl aw rfl 43 (arr 256 base) (0, 0) _ ra5 Try.underlying43 rfl (info_arr _) ?_)
          refine (unhide HTL).mono ?_
          clear HTL
          rintro e w7 ⟨rfl, f7⟩
          have HJ8 := hide (unhide HJ7 w7 f7)
          clear f7
          go_wp2
          exact ⟨⟨k + 1, base, by omega, by omega, by go_num, unhide HJ8⟩, by simp [intOf]; omega⟩
        · skip
          have hi := info_wr
          obtain ⟨i0, hi0⟩ : ∃ i, Try.prog.info? 32 = some i := by
            cases h : Try.prog.info? 32 with
            | none => rw [h] at hi; simp at hi
            | some i => exact ⟨i, rfl⟩
          rw [hi0] at hi
          simp only [Option.map_some, Option.some.injEq, Prod.mk.injEq] at hi
          have HI := hide (And.intro hi0 hi)
          clear hi0 hi
          go_wp2_with (at_builtin; refine wpList_append_own_at _ rfl _ _ 30 rfl wr.heap.size 32 i0 (.agg #[.int .i64 0, .int .u64 0]) 2 16 Try.underlying30 (unhide HI).1 (unhide HI).2.1 (unhide HI).2.2.1 (unhide HI).2.2.2 rfl (by decide) _ xs.length (wcells xs) rfl ((unhide HROW).alloc _) _ 1 1 [.int .i64 (os k), .int .u64 9] rfl rfl ?c1 ?c2 ?c3 ?c4 ?c5 ?_)
          case c1 => exact pair_news _ _ _ _
          case c2 => intro u hu; simp at hu; rcases hu with rfl | rfl <;> rfl
          case c3 => unfold maxLen; omega
          case c4 => omega
          case c5 => have := (unhide H3).2.2.size; simp; omega
          intro v' w4 hown hgrow _ _
          obtain ⟨g', cap', rfl⟩ := owns_form hown (by omega)
          obtain ⟨ws3, in3, f3⟩ := unhide H3
          obtain ⟨o1, c1, cl1, na⟩ := unhide H1
          have oo := unhide HO1
          have log2 := oo.log.kept (unhide HF2) (fun h => h)
          have row4 : w4.ownsRow wr.heap.size 32 2 (.slice (some ⟨g', 0, none⟩) (xs.length + 1) cap') (xs ++ [(os k, (9 : Int))]).length (wcells (xs ++ [(os k, (9 : Int))])) := by
            rw [List.length_append, wcells_app]; exact hown
          have wrs := owns_wr row4
          have lo : ∀ r, some r = (Value.slice xa xs.length xcap).ownBlock → wr.heap.size ≤ r := fun r hr => ((unhide HROW).lt r hr.symm).1
          have f34 : Fr (fun r => some r = (Value.slice xa xs.length xcap).ownBlock) w3 w4 := ((Fr.refl _ w3).alloc _).grown hgrow (fun j e => .inl e.symm)
          have o4 : On w2 b L w4 L1 A1 := (o1.quiet f3).turn f34 (fun r hr => o1.new (lo r hr)) (fun r hr => Nat.le_trans o1.fr.size (lo r hr))
          have ra4 : ArrAt w4 aw base := ((unhide HJ).ra.kept f3 (fun h => h)).kept f34 (fun e => by have := lo aw e; have := (unhide HJ).ra.lt; omega)
          have e1 : (xs ++ [(os k, (9 : Int))]).length = xs.length + 1 := by simp
          have C := commit_arg o4.d (o4.log log2 oo.nlg) g' 0 cap' (xs ++ [(os k, (9 : Int))]) wrs (by omega) (by omega) xs.length (by omega) (by
            rw [List.getD_eq_getElem?_getD, List.getElem?_append_right (Nat.le_refl _), c1.n]
            simp [outside]; omega) (fun i x hi hx => by
            rw [List.getElem?_append_left hi] at hx
            have := ws3.out x (List.mem_of_getElem? hx)
            rw [c1.n]
            exact ⟨by omega, by omega, by omega⟩)
          rw [e1] at C
          have HC := hide C; have H4 := hide (And.intro o4 (And.intro c1 (And.intro cl1 (And.intro na ra4))))
          clear C e1 ra4 o4 f34 lo wrs row4 log2 oo o1 c1 cl1 na ws3 in3 f3 hown hgrow
          go_wp2_with fail
          refine (unhide HC).mono ?_
          clear HC
          rintro e w5 ⟨rfl, f5⟩
          obtain ⟨o4, c1, cl1, na, ra4⟩ := unhide H4
          have ra5 : w5.heap[aw]? = some (.cells (arr 256 base) 43 (0, 0)) := ra4.kept f5 (fun h => h)
          have TL := tells_ok base (o4.d.keptF f5) c1
          rw [agree_of cl1] at TL
          have J := fun w7 (f7 : Fr (fun _ => False) w5 w7) => (⟨⟨L1, A1, f, (o4.quiet f5).quiet f7, c1.more (by omega), cl1, na⟩, (ra4.kept f5 (fun h => h)).kept f7 (fun h => h)⟩ : PlJ w2 b L aw (k + 1) base w7)
          have HTL := hide TL; have HJ7 := @hide _ J
          clear TL J o4 c1 cl1 na ra4 f5 H4
          go_wp2_with (refine wpList_load_row rfl 43 _ rfl aw rfl 43 (arr 256 base) (0, 0) _ ra5 Try.underlying43 rfl (info_arr _) ?_)
          refine (unhide HTL).mono ?_
          clear HTL
          rintro e w7 ⟨rfl, f7⟩
          have HJ8 := hide (unhide HJ7 w7 f7)
          clear f7
          go_wp2
          exact ⟨⟨k + 1, base, by omega, by omega, by go_num, unhide HJ8⟩, by simp [intOf]; omega⟩
        · clear HROW
          obtain ⟨ws3, in3, f3⟩ := unhide H3
          obtain ⟨o1, c1, cl1, na⟩ := unhide H1
          have oo := unhide HO1
          have log2 := oo.log.kept (unhide HF2) (fun h => h)
          have o3 := o1.quiet f3
          have C := commit_any (cap := xcap) o3.d (o3.log log2 oo.nlg) (o3.other (World.block_lt_of_cell? _ _ log2.c0) oo.nlg) c1 cl1 ws3 (fun g o e => o1.new (in3 g o e).1) (by omega)
          have HC := hide C
          clear ws3 in3 f3 o1 c1 cl1 na oo log2 o3 C
          generalize hnx : homed xs.reverse base = nxt at *
          have HNX := hide hnx
          clear hnx
          go_wp2_with fail
          refine (unhide HC).mono ?_
          clear HC
          rintro e w4 (⟨rfl, D⟩ | ⟨rfl, D⟩)
          rotate_left
          · obtain ⟨_, _, _, ⟨h, _⟩, _⟩ := D
            exact absurd trivial h
          obtain ⟨L4, A4, o4, f4, c4, cl4⟩ := D.on
          obtain ⟨ws3, in3, f3⟩ := unhide H3
          obtain ⟨o1, c1, cl1, na⟩ := unhide H1
          have ra3 := (unhide HJ).ra.kept f3 (fun h => h)
          have ra4 : w4.heap[aw]? = some (.cells (arr 256 base) 43 (0, 0)) := ra3.kept o4.fr na
          have ws4 := ws3.kept o4.fr (fun g o e => o1.new (in3 g o e).1)
          have DN := done_ok w4 base xa xcap xs ws4.len ws4.out (fun k hk => by
            obtain ⟨g, e, _, t⟩ := ws4.at_ (by intro e; rw [e] at hk; simp at hk)
            exact ⟨g, 0, e, t⟩)
          rw [unhide HNX] at DN
          have HDN := hide DN; have H4 := hide (And.intro ((o1.quiet f3).trans o4) (And.intro c4 (And.intro cl4 (o4.other ra3.lt na))))
          clear DN ws4 ra3 ws3 in3 f3 o1 c1 cl1 na o4 c4 cl4 D
          go_wp2_with (refine wpList_load_row rfl 43 _ rfl aw rfl 43 (arr 256 base) (0, 0) _ ra4 Try.underlying43 rfl (info_arr _) ?_)
          refine (unhide HDN).mono ?_
          clear HDN
          rintro e w5 ⟨rfl, f5⟩
          have ra5 : w5.heap[aw]? = some (.cells (arr 256 base) 43 (0, 0)) := ArrAt.kept (f := base) ra4 f5 (fun h => h)
          have HF5 := hide f5
          clear ra4 f5
          go_wp2_with (first | (refine wpList_store_row rfl 43 _ _ rfl aw (arr 256 nxt) rfl rfl 43 (arr 256 base) ra5 (info_arr _) (by rw [arr_size, arr_size]) (arr_one _ _) ?_) | (refine wpList_load_row rfl 43 _ rfl aw rfl 43 (arr 256 nxt) (0, 0) _ (setRow_heap _ _ _ _ _ _ ra5) Try.underlying43 rfl (info_arr _) ?_))
          obtain ⟨w6, hw6⟩ : ∃ w6, w5.setRow aw (arr 256 nxt) = w6 := ⟨_, rfl⟩
          rw [hw6]
          obtain ⟨o4, c4, cl4, na4⟩ := unhide H4
          have f6 : Fr (fun r => r = aw) w5 w6 := hw6 ▸ Fr.setRow _ _ _
          have o6 := (o4.quiet (unhide HF5)).turn f6 (fun r hr => by rw [hr]; exact na4) (fun r hr => by omega)
          have ra6 : ArrAt w6 aw nxt := hw6 ▸ setRow_heap w5 aw _ _ _ _ ra5
          have TL := tells_ok nxt o6.d c4
          rw [agree_of cl4] at TL
          have J := fun w7 (f7 : Fr (fun _ => False) w6 w7) => (⟨⟨L4, A4, f4, o6.quiet f7, c4.more (by omega), cl4, na4⟩, ra6.kept f7 (fun h => h)⟩ : PlJ w2 b L aw (k + 1) nxt w7)
          have HTL := hide TL; have HJ7 := @hide _ J
          clear TL J o4 c4 cl4 na4 f6 o6 ra6 hw6 ra5 H4
          refine (unhide HTL).mono ?_
          clear HTL
          rintro e w7 ⟨rfl, f7⟩
          have HJ8 := hide (unhide HJ7 w7 f7)
          clear f7
          go_wp2
          exact ⟨⟨k + 1, nxt, by omega, by omega, by go_num, unhide HJ8⟩, by simp [intOf]; omega⟩
    · obtain ⟨L1, A1, f, o1, c1, cl1, na⟩ := hj.dev
      have P := p_power_nil o1.d c1.n c1.st (by omega) false
      have HP := hide P; have H1 := hide (And.intro o1 (And.intro c1 (And.intro cl1 na))); have HJ := hide hj
      clear P o1 c1 cl1 na hj
      rcases (show len ≤ k ∨ (k < len ∧ 20 ≤ k) by omega) with h1 | ⟨h1, h2⟩
      all_goals
        go_wp2_with fail
        refine (unhide HP).mono ?_
        clear HP
        rintro e w5 ⟨rfl, D⟩
        obtain ⟨L5, A5, o5, h5, p5, c5⟩ := D.on
        obtain ⟨o1, c1, cl1, na⟩ := unhide H1
        rw [calm_poss c1 p5] at c5
        have ra5 : w5.heap[aw]? = some (.cells (arr 256 base) 43 (0, 0)) := (unhide HJ).ra.kept o5.fr na
        have TL := tells_ok base o5.d (c5 True)
        rw [agree_of cl1] at TL
        have oo := unhide HO1
        have fe : Fr (fun _ => False) w w5 := (oo.fr.trans (unhide HF2)).trans' (o1.trans o5).fr (fun k hk => .inr (oo.new k hk))
        have HTL := hide TL; have HFE := hide fe
        clear TL fe oo o5 p5 c5 o1 c1 cl1 na D H1
        go_wp2_with (refine wpList_load_row rfl 43 _ rfl aw rfl 43 (arr 256 base) (0, 0) _ ra5 Try.underlying43 rfl (info_arr _) ?_)
        refine (unhide HTL).mono ?_
        clear HTL
        rintro e w6 ⟨rfl, f6⟩
        have HF6 := hide f6
        clear f6
        go_wp2
        go_ret
        exact ⟨rfl, ((unhide HFE).trans (unhide HF6)).below (Nat.le_refl _) (fun _ h => h.elim)⟩
end Go.Proofs.Ytockkjkaopihjaa
