/- TxLasts, walked. -/
import Derived.Test.YtamghkabclbkgaaLastsC
namespace Go.Proofs.Ytamghkabclbkgaa
open Go.RowKit

theorem arr_zero : arr 16 (fun _ => 0) = #[u64 0, u64 0, u64 0, u64 0, u64 0, u64 0, u64 0, u64 0, u64 0, u64 0, u64 0, u64 0, u64 0, u64 0, u64 0, u64 0] := by kernel_rfl
theorem ne_nil_stor (b : Nat) (w : World) : (binOp .neq 24 (ptr b) (.pointer none)).run Try.prog w = .ok (.bool true) w := by kernel_rfl
theorem ne_nil_nil (w : World) : (binOp .neq 24 (.pointer none) (.pointer none)).run Try.prog w = .ok (.bool false) w := by kernel_rfl
theorem arr_eq {f g : Nat → Int} (h : ∀ j, j < 16 → f j = g j) : arr 16 f = arr 16 g := by
  unfold arr
  congr 1
  refine List.map_congr_left fun j hj => ?_
  rw [h j (List.mem_range.1 hj)]

theorem Nums.still {w w' : World} {a : Option Addr} {len : Nat} {zs : Nat → Int} (h : Nums w a len zs) (f : Still w w') : Nums w' a len zs := fun k hk => by
  obtain ⟨xb, xo, e, c⟩ := h k hk
  exact ⟨xb, xo, e, f.cell' c (fun x => x)⟩

/-- A device that is new since w, beside two arrays of words. -/
structure Dv (w wr : World) (b g13 g14 : Nat) (L : Lay) (A : Ab) (u nx : Nat → Int) : Prop where
  d : DevL wr b L A
  fr : Still w wr
  new : ∀ k, foot b L k → w.heap.size ≤ k
  n13 : ¬ foot b L g13
  n14 : ¬ foot b L g14
  a13 : ArrAt wr g13 u
  a14 : ArrAt wr g14 nx

section
variable {w wr w' : World} {b g13 g14 N : Nat} {L L' : Lay} {A A' : Ab} {u nx base h : Nat → Int} {xs : List (Int × Int)} {s : Int}
theorem Dv.step (D : Dv w wr b g13 g14 L A u nx) (d' : DevL w' b L' A') (f : Fr (foot b L) wr w') (sub : ∀ k, foot b L' k → foot b L k ∨ wr.heap.size ≤ k) : Dv w w' b g13 g14 L' A' u nx :=
  ⟨d', D.fr.trans' f (fun k hk => .inr (D.new k hk)), fun k hk => (sub k hk).elim (D.new k) (fun x => Nat.le_trans D.fr.size x),
    fun x => (sub _ x).elim D.n13 (fun y => by have := D.a13.lt; omega), fun x => (sub _ x).elim D.n14 (fun y => by have := D.a14.lt; omega), D.a13.kept f D.n13, D.a14.kept f D.n14⟩
theorem Dv.dm {P : Ab → Prop} (D : Dv w wr b g13 g14 L A u nx) (m : DM wr b L w' P) : ∃ L' A', Dv w w' b g13 g14 L' A' u nx ∧ P A' := by
  obtain ⟨L', A', d, p, f, sub⟩ := m
  exact ⟨L', A', D.step d f sub, p⟩
theorem LogTorn.more {t : Int} (h : LogTorn N 0 12304 base xs s A) (hs : s ≤ t) : LogTorn N 0 12304 base xs t A := ⟨h.1, Int.le_trans h.2.1 hs, h.2.2⟩

/-- The power comes back to a device. -/
theorem dv_power (D : Dv w wr b g13 g14 L A u nx) (lt : LogTorn N 0 12304 base xs s A) (hs2 : s < 4294967296) (flip : Bool) (la : Option Addr) (len cap : Nat) (zs : Nat → Int) (hlen : len ≤ maxLen) (hl : Nums w la len zs) :
    Calls Try.prog 15 #[ptr b, .bool flip, .slice la len cap] wr fun e w' => e = .returned (.tuple #[]) ∧ ∃ L' A' h, Dv w w' b g13 g14 L' A' u nx ∧ (∀ free, Calm N free A' s h) ∧ Stand N base xs h := by
  refine (p_power D.d lt.1 lt.2.1 hs2 flip la len cap zs hlen (hl.still D.fr)).mono ?_
  rintro e w' ⟨rfl, m⟩
  obtain ⟨L', A', D', h, hp, c⟩ := D.dm m
  exact ⟨rfl, L', A', h, D', c, lt.2.2 h hp⟩

/-- The fuse is set. -/
theorem dv_fuse (D : Dv w wr b g13 g14 L A u nx) (c : Calm N True A s h) (k : Int) (hk : k < 9223372036854775808) :
    Calls Try.prog 28 #[ptr b, .int .i64 k] wr fun e w' => e = .returned (.tuple #[]) ∧ ∃ A', Dv w w' b g13 g14 L A' u nx ∧ Calm N False A' s h := by
  refine (d_fuse D.d c k hk).mono ?_
  rintro e w' ⟨rfl, fr, d, c'⟩
  exact ⟨rfl, _, D.step d (fr.mono (fun r hr => .inl (.inl hr))) (fun _ => .inl), c'⟩

/-- A store is opened on it, or the power goes. -/
theorem dv_open {free : Prop} (D : Dv w wr b g13 g14 L A u nx) (c : Calm N free A s h) (st : Stand N base xs h) (hxs : xs.length ≤ 6144) (hN : N * 8 = 12400 + 608) (hs : s + 12292 < 4294967296) :
    Calls Try.prog 16 #[ptr b] wr fun e w' => (∃ sb T A' h', e = .returned (.tuple #[ptr sb, .int .i64 0]) ∧ Dv w w' b g13 g14 T.L A' u nx ∧ StL w' sb b T 608 A' [] false ∧ Calm N free A' (s + 12292) h' ∧ Either base xs h') ∨
      (e = .returned (.tuple #[.pointer none, .int .i64 50]) ∧ ¬ free ∧ ∃ L' A', Dv w w' b g13 g14 L' A' u nx ∧ LogTorn N 0 12304 base xs (s + 12292) A') := by
  refine (tx_open (n := 608) D.d c st hxs hN (by omega) hs).mono ?_
  rintro e w' (⟨sb, rfl, _, op⟩ | ⟨rfl, m⟩)
  · obtain ⟨T, A', h', st', sub, c', ei⟩ := op.ex
    exact .inl ⟨sb, T, A', h', rfl, D.step st'.dev op.fr (fun k hk => sub k (.inl hk)), st', c', ei⟩
  · obtain ⟨L', A', D', hn, lt⟩ := D.dm m
    exact .inr ⟨rfl, hn, L', A', D', lt⟩

theorem Either.stand (e : Either base xs h) : Stand N base xs h := e.elim .inl (fun x => .inr (.inr x))
end

theorem Hold.grow {w0 w w' : World} {X Y : Nat → Prop} {sb b n : Nat} {T : Tay} {A : Ab} {P : List (Int × Int)} {dd : Bool} (h : Hold w0 X w sb b n T A P dd) (f : Still w w') (hY : ∀ k, Y k → X k ∨ (w.heap.size ≤ k ∧ k < w'.heap.size)) : Hold w0 Y w' sb b n T A P dd := by
  have h1 := h.still f
  refine ⟨h1.st, h1.fr, h1.new, fun k hk => ?_, fun k hk => ?_⟩
  · rcases hY k hk with hx | hx
    · exact h.ap k hx
    · exact fun ht => by have := h.st.lt _ ht; omega
  · rcases hY k hk with hx | hx
    · exact h1.xl k hx
    · exact ⟨Nat.le_trans h.fr.size hx.1, hx.2⟩

/-- Between two changes. -/
structure LaS (w : World) (bs g13 g14 sb b : Nat) (c : Nat) (wr : World) (T : Tay) (A : Ab) (N : Nat) (f base u nx : Nat → Int) : Prop where
  hN : N * 8 = 12400 + 608
  hd : Hold w (fun r => r = bs ∨ r = g13 ∨ r = g14) wr sb b 608 T A [] false
  c : Calm N False A (12292 + 30729 * (c : Int)) f
  cl : Clean 0 12304 base f
  bx : Box wr bs (ptr sb)
  a13 : ArrAt wr g13 u
  a14 : ArrAt wr g14 nx
  hu : ∀ j, j < 16 → base (12400 + j) = u j
  lt : bs < g13 ∧ g13 < g14

set_option maxRecDepth 100000 in
set_option maxHeartbeats 16000000 in
theorem lasts_ok (a0 : Option Addr) (len0 cap0 : Nat) (fu : Int) (flip : Bool) (a3 : Option Addr) (len3 cap3 : Nat) (a4 : Option Addr) (len4 cap4 : Nat) (w : World) (z : Nat → Op7) (hz : OpsAt w a0 len0 z) (hb : len0 * 24 ≤ 140737488351232) (hfu : fu < 9223372036854775808)
    (zk : Nat → Int) (hk : Nums w a3 len3 zk) (hl3 : len3 ≤ maxLen) (za : Nat → Int) (hza : Nums w a4 len4 za) (hl4 : len4 ≤ maxLen) (hzb : ∀ k, k < len4 → za k < 9223372036854775808) :
    Calls Try.prog 7 #[.slice a0 len0 cap0, .int .i64 fu, .bool flip, .slice a3 len3 cap3, .slice a4 len4 cap4] w fun e w' => e = .returned (.bool true) ∧ Below w.heap.size w w' := by
  have K : Calls Try.prog 9 #[.int .i64 13008] w _ := law_open 608 1626 (by omega) (by omega) (by omega) w
  have HK := hide K; have HZ := hide hz; have HKP := hide hk; have HL3 := hide hl3; have HZA := hide hza; have HZB := hide hzb
  have h1 := eq_nil_stor
  have h2 := mf
  have h3 := ne_nil_stor
  have h4 := ne_nil_nil
  have AW := awake_ok
  unfold maxLen at hl4
  clear K hz hk hl3 hza hzb
  go_enter Try.func7, Try.ntmps7
  go_wp2_with fail
  refine (unhide HK).mono ?_
  clear HK
  rintro e w1 ⟨b, sb, T, A, rfl, o⟩
  obtain ⟨N, f, hN, c, k⟩ := o.calm
  obtain ⟨W1, hW1⟩ : ∃ W1, w1.alloc (.cells #[ptr sb] 24) = W1 := ⟨_, rfl⟩
  obtain ⟨bs, hbs⟩ : ∃ bs, w1.heap.size = bs := ⟨_, rfl⟩
  have hd1 : Hold w (fun r => False ∨ r = bs) W1 sb b 608 T A [] false := by
    have := o.hold.more (.cells #[ptr sb] 24)
    rw [hW1, hbs] at this
    exact this
  have bx1 : Box W1 bs (ptr sb) := by
    have := Box.new w1 (ptr sb) 24
    rw [hW1, hbs] at this
    exact this
  have bc1 := bx1.c
  have FU : Calls Try.prog 28 #[ptr b, .int .i64 fu] W1 fun e w' => e = .returned (.tuple #[]) ∧ ∃ T' A', Onx W1 sb b T w' T' 608 A' [] false ∧ Calm N False A' 12292 f := by
    refine (d_fuse hd1.st.dev c fu hfu).mono ?_
    rintro e w' ⟨rfl, fr, d, c'⟩
    exact ⟨rfl, _, _, hd1.st.ondev ⟨d, fr.mono (fun r hr => .inl (.inl hr)), fun _ => .inl⟩ rfl, c'⟩
  have HFU := hide FU; have HH1 := hide hd1; have HB1 := hide bx1; have HKL := hide k
  clear FU hd1 bx1 o c k
  go_wp2_with fail
  refine (unhide HFU).mono ?_
  clear HFU
  rintro e w2 ⟨rfl, T2, A2, o2, c2⟩
  have hd2 := (unhide HH1).call o2
  have bx2 := (unhide HB1).kept o2.fr ((unhide HH1).ap _ (.inr rfl))
  obtain ⟨W3, hW3⟩ : ∃ W3, (w2.alloc (.cells (arr 16 fun _ => 0) 29)).alloc (.cells (arr 16 fun _ => 0) 29) = W3 := ⟨_, rfl⟩
  obtain ⟨g13, hg13⟩ : ∃ g13, w2.heap.size = g13 := ⟨_, rfl⟩
  have z2 : (w2.alloc (.cells (arr 16 fun _ => 0) 29)).heap.size = g13 + 1 := by rw [← hg13]; simp
  have S0 : LaS w bs g13 (g13 + 1) sb b 0 W3 T2 A2 N f (fun _ => 0) (fun _ => 0) (fun _ => 0) := by
    refine ⟨hN, hW3 ▸ ((hd2.more _).more _).sub (fun k hk => ?_), c2.more (by omega), unhide HKL, hW3 ▸ (bx2.alloc _).alloc _, ?_, ?_, fun j hj => rfl, ⟨by have := bx2.lt; omega, by omega⟩⟩
    · rcases hk with hk | hk | hk
      · exact .inl (.inl (.inr hk))
      · exact .inl (.inr (hk.trans hg13.symm))
      · exact .inr (hk.trans z2.symm)
    · have := (ArrAt.new w2 (fun _ => 0)).kept ((Fr.refl (fun _ => False) _).alloc (.cells (arr 16 fun _ => 0) 29)) (fun x => x)
      rw [hW3, hg13] at this
      exact this
    · have := ArrAt.new (w2.alloc (.cells (arr 16 fun _ => 0) 29)) (fun _ => 0)
      rw [hW3, z2] at this
      exact this
  have HS0 := hide S0; have HW3 := hide hW3
  clear S0 hd2 bx2 o2 c2 hW3 z2 HH1 HB1 HKL bc1
  go_wp2_with fail
  have hW' := unhide HW3
  rw [arr_zero] at hW'
  rw [hW']
  clear hW' hg13 hbs hW1 HW3
  go_loopw [15] (fun i wr => ∃ k c : Nat, k ≤ len0 ∧ c ≤ k ∧ c ≤ 60 ∧ i = .int .i64 k ∧ ∃ T A N f base u nx, LaS w bs g13 (g13 + 1) sb b c wr T A N f base u nx) (fun i wr => len0 - (intOf i).toNat)
  case atStart => exact ⟨0, 0, by omega, by omega, by omega, rfl, T2, A2, N, f, _, _, _, unhide HS0⟩
  case round =>
    clear HS0
    generalize wr = wq at *
    obtain ⟨k, c, hk1, hk2, hk3, rfl, T, A, N, f, base, u, nx, S⟩ := hrel
    by_cases hlt : k < len0 ∧ k < 60
    · obtain ⟨hl1, hl2⟩ := hlt
      have CH := change_ok a0 len0 cap0 k wq z ((unhide HZ).still S.hd.fr) hb hl1
      have HCH := hide CH; have HS := hide S
      clear CH S
      go_wp2_with fail
      refine (unhide HCH).mono ?_
      clear HCH
      rintro e w3 ⟨ls, en, nxt, v, rfl, ch⟩
      obtain ⟨av, vcap, hv, hcell⟩ := (LsAt.of ch.row).form
      obtain ⟨kd, ei, ev⟩ := en
      obtain ⟨e1, e2⟩ := ch.ends
      simp only [] at e1 e2
      have hnx1 := ch.more; have hnx2 := ch.most; have hfew := ch.few
      have S := unhide HS
      obtain ⟨lb, hlb⟩ : ∃ lb, w3.heap.size = lb := ⟨_, rfl⟩
      obtain ⟨W4, hW4⟩ : ∃ W4, (w3.alloc (.cells #[v] 22)).alloc (.cells #[.int .i64 kd, .int .i64 ei, .int .u64 ev] 31) = W4 := ⟨_, rfl⟩
      have z4 : W4.heap.size = lb + 2 := by rw [← hW4, ← hlb]; simp
      have f34 : Still w3 W4 := hW4 ▸ ((Fr.refl _ w3).alloc _).alloc _
      have fq4 : Still wq W4 := ch.fr.trans f34
      have szq : wq.heap.size ≤ lb := by rw [← hlb]; exact ch.fr.size
      have yb : ∀ r, v.ownBlock = some r → wq.heap.size ≤ r ∧ r < lb := fun r hr => by rw [← hlb]; exact ch.row.lt r hr
      have hd4 : Hold w (fun r => (r = bs ∨ r = g13 ∨ r = g13 + 1) ∨ r = lb ∨ v.ownBlock = some r) W4 sb b 608 T A [] false := by
        refine S.hd.grow fq4 (fun r hr => ?_)
        rcases hr with hr | rfl | hr
        · exact .inl hr
        · exact .inr ⟨by omega, by omega⟩
        · exact .inr ⟨(yb r hr).1, by have := (yb r hr).2; omega⟩
      have bl4 : Box W4 lb v := by
        have := (Box.new w3 v 22).alloc (.cells #[.int .i64 kd, .int .i64 ei, .int .u64 ev] 31)
        rw [hW4, hlb] at this
        exact this
      have oe4 : W4.heap[lb + 1]? = some (.cells #[.int .i64 kd, .int .i64 ei, .int .u64 ev] 31) := by
        have := heap_alloc_new (w3.alloc (.cells #[v] 22)) (.cells #[.int .i64 kd, .int .i64 ei, .int .u64 ev] 31)
        rw [hW4, show (w3.alloc (.cells #[v] 22)).heap.size = lb + 1 by rw [← hlb]; simp] at this
        exact this
      have lv4 := (LsAt.of ch.row).kept f34 (fun _ _ x => x)
      have S4 : LaS w bs g13 (g13 + 1) sb b c W4 T A N f base u nx := ⟨S.hN, hd4.sub (fun r hr => .inl hr), S.c, S.cl, S.bx.kept fq4 (fun x => x), S.a13.kept fq4 (fun x => x), S.a14.kept fq4 (fun x => x), S.hu, S.lt⟩
      have k4 := cell_of_obj oe4 0
      have g13lt := S.a13.lt; have g14lt := S.a14.lt
      have bslt := S.lt.1
      subst hv
      have HS4 := hide S4; have HH4 := hide hd4; have HBL4 := hide bl4; have HLV4 := hide lv4; have HYB := hide yb; have HN := hide S.hN
      clear S S4 hd4 bl4 oe4 lv4 ch hcell HS fq4 f34 yb
      by_cases hkd : kd = 1
      · subst hkd
        have r13 : W4.heap[g13]? = some (.cells (arr 16 u) 29 (0, 0)) := (unhide HS4).a13
        have r14 : W4.heap[g13 + 1]? = some (.cells (arr 16 nx) 29 (0, 0)) := (unhide HS4).a14
        obtain ⟨W5, hW5⟩ : ∃ W5, W4.setRow (g13 + 1) (arr 16 u) = W5 := ⟨_, rfl⟩
        have f45 : Fr (fun r => r = g13 + 1) W4 W5 := hW5 ▸ Fr.setRow _ _ _
        have a5 : ArrAt W5 (g13 + 1) (fun j => homed (puts (fun x => msk x.i 15) [] (ls.take 0)) base (12400 + j)) := by
          have := setRow_heap W4 (g13 + 1) (arr 16 nx) (arr 16 u) 29 (0, 0) r14
          rw [hW5] at this
          unfold ArrAt
          rw [this]
          congr 2
          exact arr_eq (fun j hj => ((unhide HS4).hu j hj).symm)
        have HF45 := hide f45; have HA5 := hide a5
        clear f45 a5
        go_wp2_with (first | (refine wpList_load_row rfl 29 _ rfl g13 rfl 29 (arr 16 u) (0, 0) _ r13 Try.underlying29 rfl (info_arr _) ?_) | (refine wpList_store_row rfl 29 _ _ rfl (g13 + 1) (arr 16 u) rfl rfl 29 (arr 16 nx) r14 (info_arr _) (by rw [arr_size, arr_size]) (arr_one _ _) ?_; rw [hW5]) | fail)
        clear r13 r14 hW5 k4
        go_loopw [19] (fun i wr => ∃ q : Nat, q ≤ ls.length ∧ i = .int .i64 q ∧ Fr (fun r => r = g13 + 1) W4 wr ∧ ArrAt wr (g13 + 1) (fun j => homed (puts (fun x => msk x.i 15) [] (ls.take q)) base (12400 + j))) (fun i wr => ls.length - (intOf i).toNat)
        case atStart => exact ⟨0, Nat.zero_le _, rfl, unhide HF45, unhide HA5⟩
        case round =>
          clear HF45 HA5
          obtain ⟨q, hq, rfl, fq, aq⟩ := hrel
          have cl := ((unhide HBL4).kept fq (by omega)).c
          by_cases hlt2 : q < ls.length
          · obtain ⟨x, hx⟩ : ∃ x, ls[q]? = some x := ⟨_, List.getElem?_eq_getElem hlt2⟩
            have lvq := (unhide HLV4).kept fq (fun r hr e => by have := (unhide HYB r hr).1; omega)
            obtain ⟨av', vcap', hve, hcell⟩ := lvq.form
            obtain ⟨rfl, rfl⟩ : av = av' ∧ vcap = vcap' := by injection hve with h1 _ h2; exact ⟨h1, h2⟩
            obtain ⟨g, rfl, _, _, c1, c2⟩ := hcell q x hx
            have pm := puts_more (fun x => msk x.i 15) [] ls q x hx
            have on := puts_once (fun x => msk x.i 15) (ls.take q) [] once_nil
            have m15 := mask15 x.i
            have l15 := msk_le x.i 15
            have q14 := aq.cell (msk x.i 15) (by omega)
            have y14 := aq.frozen (msk x.i 15)
            have ST : ∀ n, ArrAt ((wr.drewN n).setCell ⟨g13 + 1, msk x.i 15, none⟩ (.int .u64 x.v)) (g13 + 1) (fun j => homed (puts (fun x => msk x.i 15) [] (ls.take (q + 1))) base (12400 + j)) := fun n => by
              have := (aq.kept ((Fr.refl (fun _ => False) wr).drewN n) (fun x => x)).set (msk x.i 15) x.v
              unfold ArrAt at this ⊢
              rw [this]
              congr 2
              refine arr_eq (fun j hj => ?_)
              rw [pm, show (12400 : Int) + (msk x.i 15 : Nat) = ((12400 + msk x.i 15 : Nat) : Int) by omega, (homed_put on (12400 + msk x.i 15) x.v base).1]
              by_cases e : j = msk x.i 15
              · rw [e, upd_same, upd_same]
              · rw [upd_other _ _ e, upd_other _ _ (by omega)]
            have HST := @hide _ ST; have HFQ := hide fq
            clear ST fq aq pm on lvq hcell hve hx
            generalize msk x.i 15 = m at *
            generalize x.i = xi at *
            generalize x.v = xv at *
            go_wp2_with fail
            refine region_tailP 12 (by kernel_rfl) (by kernel_rfl) ?_
            simp only [List.take_succ_cons, List.take_zero, List.drop_succ_cons, List.drop_zero]
            repeat (go_big_quiet_step (first | fail))
            refine wpQuiet_nil ?_
            rintro _ ⟨nq, rfl⟩
            go_wp2
            exact ⟨⟨q + 1, by omega, by go_num, ((unhide HFQ).drewN nq).setCell (.inl rfl) _, unhide HST nq⟩, by simp [intOf]; omega⟩
          · obtain rfl : q = ls.length := by omega
            rw [List.take_length] at aq
            generalize wr = wd at *
            have S4 := unhide HS4
            have hdd := (unhide HH4).var fq (fun r hr => .inl (.inr (.inr hr)))
            have bxd := S4.bx.kept fq (by omega)
            have bld := (unhide HBL4).kept fq (by omega)
            have lvd := (unhide HLV4).kept fq (fun r hr e => by have := (unhide HYB r hr).1; omega)
            have a13d := S4.a13.kept fq (by omega)
            have bc := bxd.c
            have D1 := t_do (R := fun h P' => h = .well ∧ P' = puts (fun x => msk x.i 15) [] ls) hdd.st S4.c S4.cl (g := 34) (fi := #[]) (ca := #[ptr lb, ptr bs]) (fun w2 f2 => acts_of (fun _ _ => by kernel_rfl) ((lasts_c1 (hdd.st.still f2) S4.c.dead (lvd.kept f2 (fun _ _ x => x)) (by omega) (bld.kept f2 (fun x => x)) (bxd.kept f2 (fun x => x)) (hdd.ap _ (.inr (.inl rfl))) (hdd.ap _ (.inl (.inl rfl))) (fun r hr => hdd.ap _ (.inr (.inr hr)))).mono (by
              rintro e w3 ⟨rfl, T', o⟩
              exact ⟨.well, rfl, .inl rfl, T', _, o, rfl, rfl⟩))) (by omega)
            have HD1 := hide D1; have HHD := hide hdd; have HBX := hide bxd; have HA13 := hide a13d; have HA14 := hide aq; have HHU := hide S4.hu
            clear D1 hdd bxd bld lvd a13d aq S4 HS4 HH4 HBL4 HLV4 fq hlt2 hq
            go_wp2_with fail
            refine (unhide HD1).mono ?_
            clear HD1
            rintro e w6 (⟨P', ⟨_, rfl⟩, rfl, T6, A6, o6, f6, c6, k6⟩ | ⟨P', ⟨_, hP'⟩, rfl, T6, A6, o6, hg⟩ | ⟨i, P', ⟨x, _⟩, _⟩ | ⟨y, P', ⟨x, _⟩, _⟩)
            · have hd6 := ((unhide HHD).call o6).sub (Y := fun r => r = bs ∨ r = g13 ∨ r = g13 + 1) (fun r hr => .inl hr)
              have bx6 := (unhide HBX).kept o6.fr ((unhide HHD).ap _ (.inl (.inl rfl)))
              have a13 := (unhide HA13).kept o6.fr ((unhide HHD).ap _ (.inl (.inr (.inl rfl))))
              have a14 := (unhide HA14).kept o6.fr ((unhide HHD).ap _ (.inl (.inr (.inr rfl))))
              obtain ⟨n3, hn3⟩ : ∃ n3 : Nat → Int, (fun j => homed (puts (fun x => msk x.i 15) [] ls) base (12400 + j)) = n3 := ⟨_, rfl⟩
              rw [hn3] at a14
              have r13 : w6.heap[g13]? = some (.cells (arr 16 u) 29 (0, 0)) := a13
              have r14 : w6.heap[g13 + 1]? = some (.cells (arr 16 n3) 29 (0, 0)) := a14
              obtain ⟨W7, hW7⟩ : ∃ W7, w6.setRow g13 (arr 16 n3) = W7 := ⟨_, rfl⟩
              have f67 : Fr (fun r => r = g13) w6 W7 := hW7 ▸ Fr.setRow _ _ _
              have S7 : LaS w bs g13 (g13 + 1) sb b (c + 1) W7 T6 A6 N f6 (homed (puts (fun x => msk x.i 15) [] ls) base) n3 n3 :=
                ⟨unhide HN, hd6.var f67 (fun r hr => .inr (.inl hr)), c6.more (by omega), k6, bx6.kept f67 (by omega), hW7 ▸ setRow_heap _ _ _ _ _ _ r13, a14.kept f67 (by omega), fun j hj => by rw [← hn3], ⟨bslt, by omega⟩⟩
              have HS7 := hide S7
              clear S7 f67 a13 a14 hd6 bx6 o6 c6 k6 HHD HBX HA13 HA14 hn3 bc HHU
              go_wp2_with (first | (refine wpList_load_row rfl 29 _ rfl (g13 + 1) rfl 29 (arr 16 n3) (0, 0) _ r14 Try.underlying29 rfl (info_arr _) ?_) | (refine wpList_store_row rfl 29 _ _ rfl g13 (arr 16 n3) rfl rfl 29 (arr 16 u) r13 (info_arr _) (by rw [arr_size, arr_size]) (arr_one _ _) ?_; rw [hW7]; simp only [Act.put, List.setIfInBounds_toArray, List.set_cons_succ, List.set_cons_zero]) | fail)
              go_roundw
              case rel => exact ⟨nxt, c + 1, by omega, by omega, by omega, rfl, T6, A6, N, f6, _, n3, n3, unhide HS7⟩
              case measure => simp [intOf]; omega
            · have hN6 := unhide HN
              have hd6 := (unhide HHD).call o6
              have bx6 := (unhide HBX).kept o6.fr ((unhide HHD).ap _ (.inl (.inl rfl)))
              have a13 := (unhide HA13).kept o6.fr ((unhide HHD).ap _ (.inl (.inr (.inl rfl))))
              have a14 := (unhide HA14).kept o6.fr ((unhide HHD).ap _ (.inl (.inr (.inr rfl))))
              have hxs : P'.length ≤ 6144 := o6.st.few
              have once := o6.st.once
              obtain ⟨nX, hnX⟩ : ∃ nX : Nat → Int, (fun j => homed (puts (fun x => msk x.i 15) [] ls) base (12400 + j)) = nX := ⟨_, rfl⟩
              rw [hnX] at a14
              have D : Dv w w6 b g13 (g13 + 1) T6.L A6 u nX := ⟨hd6.st.dev, hd6.fr, fun k hk => hd6.new k (.inl hk), fun x => hd6.ap _ (.inl (.inr (.inl rfl))) (.inl x), fun x => hd6.ap _ (.inl (.inr (.inr rfl))) (.inl x), a13, a14⟩
              have LT : LogTorn N 0 12304 base P' 2000000 A6 := hg.2.more (by omega)
              have AG : ∀ h', Either base P' h' → (∀ j, j < 16 → h' (12400 + j) = u j) ∨ (∀ j, j < 16 → h' (12400 + j) = nX j) := fun h' e => by
                rcases e with e | e
                · exact .inl (fun j hj => by rw [← unhide HHU j hj]; exact e.out _ (by omega))
                · refine .inr (fun j hj => ?_)
                  rw [← hnX, ← hP', e.out _ (by omega), once_reverse once]
              have DO : ∀ fv, Calls Try.prog 20 #[ptr sb, fv] w6 _ := fun fv => t_do_dead (fv := fv) hd6.st
              have bc6 := bx6.c
              obtain ⟨xs, hxs0⟩ : ∃ xs, P' = xs := ⟨_, rfl⟩
              subst hxs0
              have HDO := @hide _ DO
              clear DO hd6 bx6 a13 a14 o6 once hnX hP' HHD HBX HA13 HA14 HHU bc hg
              cases hdead : A6.dead
              all_goals
                have DD := dead_any b A6.dead w6 D.d.c6
                rw [hdead] at DD
                have PW := dv_power D LT (by omega) flip a3 len3 cap3 zk (unhide HL3) (unhide HKP)
                have HDD := hide DD; have HPW := hide PW; have HAG := @hide _ AG
                clear DD PW D LT AG
                go_wp2_with (first | (go_at_call 35; refine (unhide HDD).mono ?_; rintro e w' ⟨rfl, hh⟩; replace hh := hh.symm; subst hh) | (go_at_call 20; refine (unhide HDO _).mono ?_; rintro e w' ⟨rfl, hh⟩; replace hh := hh.symm; subst hh) | fail)
                refine (unhide HPW).mono ?_
                clear HPW HDD
                rintro e w5 ⟨rfl, L5, A5, h5, D5, c5, st5⟩
                have HD5 := hide D5; have HC5 := @hide _ c5; have HST5 := hide st5
                clear D5 c5 st5
                go_wp2_with fail
                go_loopw [21] (fun i wr => ∃ q : Nat, q ≤ 3 ∧ q ≤ len4 ∧ i = .int .i64 q ∧ ∃ L A h, Dv w wr b g13 (g13 + 1) L A u nX ∧ (∀ free, Calm N free A (2000000 + 12292 * (q : Int)) h) ∧ Stand N base P' h) (fun i wr => 3 - (intOf i).toNat)
                case atStart => exact ⟨0, by omega, by omega, rfl, L5, A5, h5, unhide HD5, fun free => (unhide HC5 free).more (by omega), unhide HST5⟩
                case round =>
                  clear HD5 HC5 HST5
                  generalize wr = wq5 at *
                  obtain ⟨q, hq1, hq2, rfl, L6, A6, h6, D6, c6, st6⟩ := hrel
                  by_cases hlt5 : q < len4 ∧ q < 3
                  · obtain ⟨hq3, hq4⟩ := hlt5
                    obtain ⟨xb4, xo4, rfl, ca⟩ := unhide HZA q hq3
                    have cc := D6.fr.cell' ca (fun x => x)
                    have FU := dv_fuse D6 (c6 True) (za q) (unhide HZB q hq3)
                    have HFU := hide FU; have HST6 := hide st6
                    clear FU D6 c6 st6 ca
                    go_wp2_with fail
                    refine (unhide HFU).mono ?_
                    clear HFU cc
                    rintro e w7 ⟨rfl, A7, D7, c7⟩
                    have OP := dv_open D7 c7 (unhide HST6) hxs hN6 (by omega)
                    have HOP := hide OP
                    clear OP D7 c7 HST6
                    go_wp2_with fail
                    refine (unhide HOP).mono ?_
                    clear HOP
                    rintro e w8 (⟨sb8, T8, A8, h8, rfl, D8, -, c8, e8⟩ | ⟨rfl, -, L8, A8, D8, lt8⟩)
                    · have PW := dv_power D8 (stand_calm c8 (Either.stand e8)) (by omega) flip a3 len3 cap3 zk (unhide HL3) (unhide HKP)
                      have HPW := hide PW
                      clear PW D8 c8 e8
                      go_wp2_with fail
                      refine (unhide HPW).mono ?_
                      clear HPW
                      rintro e w9 ⟨rfl, L9, A9, h9, D9, c9, st9⟩
                      have HX := @hide _ (And.intro D9 (And.intro c9 st9))
                      clear D9 c9 st9
                      go_wp2
                      exact ⟨⟨q + 1, by omega, by omega, by go_num, L9, A9, h9, (unhide HX).1, fun free => ((unhide HX).2.1 free).more (by omega), (unhide HX).2.2⟩, by simp [intOf]; omega⟩
                    · have PW := dv_power D8 lt8 (by omega) flip a3 len3 cap3 zk (unhide HL3) (unhide HKP)
                      have HPW := hide PW
                      clear PW D8 lt8
                      go_wp2_with fail
                      refine (unhide HPW).mono ?_
                      clear HPW
                      rintro e w9 ⟨rfl, L9, A9, h9, D9, c9, st9⟩
                      have HX := @hide _ (And.intro D9 (And.intro c9 st9))
                      clear D9 c9 st9
                      go_wp2
                      exact ⟨⟨q + 1, by omega, by omega, by go_num, L9, A9, h9, (unhide HX).1, fun free => ((unhide HX).2.1 free).more (by omega), (unhide HX).2.2⟩, by simp [intOf]; omega⟩
                  · have OP := dv_open D6 (c6 True) st6 hxs hN6 (by omega)
                    have HOP := hide OP
                    clear OP D6 c6 st6
                    rcases (show len4 ≤ q ∨ (q < len4 ∧ 3 ≤ q) by omega) with hx5 | ⟨hx5, hx6⟩
                    all_goals
                      clear hlt5
                      go_wp2_with fail
                      refine (unhide HOP).mono ?_
                      clear HOP
                      rintro e w8 (⟨sb8, T8, A8, h8, rfl, D8, st8, c8, e8⟩ | ⟨_, hn, _⟩)
                      rotate_left
                      · exact absurd trivial hn
                      have ag := unhide HAG h8 e8
                      have TL1 := tells_ok u st8 c8.dead (by omega)
                      have TL2 : ∀ w9, Still w8 w9 → Calls Try.prog 13 #[ptr sb8, .agg (arr 16 nX)] w9 fun e w' => e = .returned (.bool (agree (says [] A8) nX 16)) ∧ Still w9 w' := fun w9 f9 => tells_ok nX (st8.still f9) c8.dead (by omega)
                      have ag2 : agree (says [] A8) u 16 = true ∨ agree (says [] A8) nX 16 = true := by
                        unfold agree says
                        simp only [decide_eq_true_eq]
                        refine ag.imp (fun H j hj => ?_) (fun H j hj => ?_)
                        · rw [homed_nil, c8.now]; exact H j hj
                        · rw [homed_nil, c8.now]; exact H j hj
                      have r13 : w8.heap[g13]? = some (.cells (arr 16 u) 29 (0, 0)) := D8.a13
                      have r14 : ∀ w9, Still w8 w9 → w9.heap[g13 + 1]? = some (.cells (arr 16 nX) 29 (0, 0)) := fun w9 f9 => D8.a14.kept f9 (fun x => x)
                      have HTL1 := hide TL1; have HTL2 := @hide _ TL2; have HR14 := @hide _ r14; have HFIN := hide D8.fr
                      clear TL1 TL2 r14 D8 st8 c8 e8 ag HAG
                      cases hu1 : agree (says [] A8) u 16
                      · have hu2 : agree (says [] A8) nX 16 = true := by
                          rcases ag2 with x | x
                          · rw [hu1] at x; cases x
                          · exact x
                        rw [hu1] at HTL1
                        rw [hu2] at HTL2
                        clear hu1 hu2 ag2
                        go_wp2_with (first | (refine wpList_load_rowG (by rfl) 29 _ rfl g13 rfl 29 (arr 16 u) (0, 0) _ r13 Try.underlying29 rfl (info_arr _) ?_) | (go_at_call 13; refine (unhide HTL1).mono ?_; rintro e w9 ⟨rfl, f9⟩; have HTL3 := hide (unhide HTL2 w9 f9); have r14 := unhide HR14 w9 f9; have HF9 := hide f9; clear f9 r13 HTL1) | (refine wpList_load_rowG (by rfl) 29 _ rfl (g13 + 1) rfl 29 (arr 16 nX) (0, 0) _ r14 Try.underlying29 rfl (info_arr _) ?_) | (go_at_call 13; refine (unhide HTL3).mono ?_; rintro e w10 ⟨rfl, f10⟩; have HF10 := hide f10; clear f10) | (go_at_call 17; refine (AW _).mono ?_; rintro e w11 ⟨rfl, f11⟩; have HF11 := hide f11; clear f11))
                        go_ret
                        exact ⟨rfl, ((((unhide HFIN).trans (unhide HF9)).trans (unhide HF10)).trans (unhide HF11)).below (Nat.le_refl _) (fun _ x => x.elim)⟩
                      · rw [hu1] at HTL1
                        clear hu1 ag2 HTL2 HR14
                        go_wp2_with (first | (refine wpList_load_rowG (by rfl) 29 _ rfl g13 rfl 29 (arr 16 u) (0, 0) _ r13 Try.underlying29 rfl (info_arr _) ?_) | (go_at_call 13; refine (unhide HTL1).mono ?_; rintro e w9 ⟨rfl, f9⟩; have HF9 := hide f9; clear f9) | (go_at_call 17; refine (AW _).mono ?_; rintro e w11 ⟨rfl, f11⟩; have HF11 := hide f11; clear f11))
                        go_ret
                        exact ⟨rfl, (((unhide HFIN).trans (unhide HF9)).trans (unhide HF11)).below (Nat.le_refl _) (fun _ x => x.elim)⟩
            · injection x with x; cases x
            · injection x with x; cases x
      · have hkd' : (kd != 1) = true := by simp; exact hkd
        clear hkd
        go_wp2
        exact ⟨⟨nxt, c, by omega, by omega, by omega, rfl, T, A, N, f, base, u, nx, unhide HS4⟩, by simp [intOf]; omega⟩
    · have hN6 := S.hN
      obtain ⟨nX, hnX⟩ : ∃ nX, nx = nX := ⟨_, rfl⟩
      obtain ⟨wX, hwX⟩ : ∃ wX, wq = wX := ⟨_, rfl⟩
      obtain ⟨AX, hAX⟩ : ∃ AX, A = AX := ⟨_, rfl⟩
      obtain ⟨xs, hxs0⟩ : ∃ xs : List (Int × Int), xs = [] := ⟨_, rfl⟩
      have hxs : xs.length ≤ 6144 := by rw [hxs0]; simp
      subst hnX hwX hAX
      have hdead : A.dead = false := S.c.dead
      have D : Dv w wq b g13 (g13 + 1) T.L A u nx := ⟨S.hd.st.dev, S.hd.fr, fun k hk => S.hd.new k (.inl hk), fun x => S.hd.ap _ (.inr (.inl rfl)) (.inl x), fun x => S.hd.ap _ (.inr (.inr rfl)) (.inl x), S.a13, S.a14⟩
      have LT : LogTorn N 0 12304 base xs 2000000 A := (stand_calm S.c (.inl S.cl)).more (by omega)
      have AG : ∀ h', Either base xs h' → (∀ j, j < 16 → h' (12400 + j) = u j) ∨ (∀ j, j < 16 → h' (12400 + j) = nx j) := fun h' e => .inl (fun j hj => by
        rw [← S.hu j hj]
        rcases e with e | e
        · exact e.out _ (by omega)
        · rw [hxs0, List.reverse_nil, homed_nil] at e
          exact e.out _ (by omega))
      clear S hxs0
      rcases (show len0 ≤ k ∨ (k < len0 ∧ 60 ≤ k) by omega) with hx1 | ⟨hx1, hx2⟩
      all_goals
        clear hlt
        have DD := dead_any b A.dead wq D.d.c6
        rw [hdead] at DD
        have PW := dv_power D LT (by omega) flip a3 len3 cap3 zk (unhide HL3) (unhide HKP)
        have HDD := hide DD; have HPW := hide PW; have HAG := @hide _ AG
        clear DD PW D LT AG
        go_wp2_with (first | (go_at_call 35; refine (unhide HDD).mono ?_; rintro e w' ⟨rfl, hh⟩; replace hh := hh.symm; subst hh) | fail)
        refine (unhide HPW).mono ?_
        clear HPW HDD
        rintro e w5 ⟨rfl, L5, A5, h5, D5, c5, st5⟩
        have HD5 := hide D5; have HC5 := @hide _ c5; have HST5 := hide st5
        clear D5 c5 st5
        go_wp2_with fail
        go_loopw [21] (fun i wr => ∃ q : Nat, q ≤ 3 ∧ q ≤ len4 ∧ i = .int .i64 q ∧ ∃ L A h, Dv w wr b g13 (g13 + 1) L A u nx ∧ (∀ free, Calm N free A (2000000 + 12292 * (q : Int)) h) ∧ Stand N base xs h) (fun i wr => 3 - (intOf i).toNat)
        case atStart => exact ⟨0, by omega, by omega, rfl, L5, A5, h5, unhide HD5, fun free => (unhide HC5 free).more (by omega), unhide HST5⟩
        case round =>
          clear HD5 HC5 HST5
          generalize wr = wq5 at *
          obtain ⟨q, hq1, hq2, rfl, L6, A6, h6, D6, c6, st6⟩ := hrel
          by_cases hlt5 : q < len4 ∧ q < 3
          · obtain ⟨hq3, hq4⟩ := hlt5
            obtain ⟨xb4, xo4, rfl, ca⟩ := unhide HZA q hq3
            have cc := D6.fr.cell' ca (fun x => x)
            have FU := dv_fuse D6 (c6 True) (za q) (unhide HZB q hq3)
            have HFU := hide FU; have HST6 := hide st6
            clear FU D6 c6 st6 ca
            go_wp2_with fail
            refine (unhide HFU).mono ?_
            clear HFU cc
            rintro e w7 ⟨rfl, A7, D7, c7⟩
            have OP := dv_open D7 c7 (unhide HST6) hxs hN6 (by omega)
            have HOP := hide OP
            clear OP D7 c7 HST6
            go_wp2_with fail
            refine (unhide HOP).mono ?_
            clear HOP
            rintro e w8 (⟨sb8, T8, A8, h8, rfl, D8, -, c8, e8⟩ | ⟨rfl, -, L8, A8, D8, lt8⟩)
            · have PW := dv_power D8 (stand_calm c8 (Either.stand e8)) (by omega) flip a3 len3 cap3 zk (unhide HL3) (unhide HKP)
              have HPW := hide PW
              clear PW D8 c8 e8
              go_wp2_with fail
              refine (unhide HPW).mono ?_
              clear HPW
              rintro e w9 ⟨rfl, L9, A9, h9, D9, c9, st9⟩
              have HX := @hide _ (And.intro D9 (And.intro c9 st9))
              clear D9 c9 st9
              go_wp2
              exact ⟨⟨q + 1, by omega, by omega, by go_num, L9, A9, h9, (unhide HX).1, fun free => ((unhide HX).2.1 free).more (by omega), (unhide HX).2.2⟩, by simp [intOf]; omega⟩
            · have PW := dv_power D8 lt8 (by omega) flip a3 len3 cap3 zk (unhide HL3) (unhide HKP)
              have HPW := hide PW
              clear PW D8 lt8
              go_wp2_with fail
              refine (unhide HPW).mono ?_
              clear HPW
              rintro e w9 ⟨rfl, L9, A9, h9, D9, c9, st9⟩
              have HX := @hide _ (And.intro D9 (And.intro c9 st9))
              clear D9 c9 st9
              go_wp2
              exact ⟨⟨q + 1, by omega, by omega, by go_num, L9, A9, h9, (unhide HX).1, fun free => ((unhide HX).2.1 free).more (by omega), (unhide HX).2.2⟩, by simp [intOf]; omega⟩
          · have OP := dv_open D6 (c6 True) st6 hxs hN6 (by omega)
            have HOP := hide OP
            clear OP D6 c6 st6
            rcases (show len4 ≤ q ∨ (q < len4 ∧ 3 ≤ q) by omega) with hx5 | ⟨hx5, hx6⟩
            all_goals
              clear hlt5
              go_wp2_with fail
              refine (unhide HOP).mono ?_
              clear HOP
              rintro e w8 (⟨sb8, T8, A8, h8, rfl, D8, st8, c8, e8⟩ | ⟨_, hn, _⟩)
              rotate_left
              · exact absurd trivial hn
              have ag := unhide HAG h8 e8
              have TL1 := tells_ok u st8 c8.dead (by omega)
              have TL2 : ∀ w9, Still w8 w9 → Calls Try.prog 13 #[ptr sb8, .agg (arr 16 nx)] w9 fun e w' => e = .returned (.bool (agree (says [] A8) nx 16)) ∧ Still w9 w' := fun w9 f9 => tells_ok nx (st8.still f9) c8.dead (by omega)
              have ag2 : agree (says [] A8) u 16 = true ∨ agree (says [] A8) nx 16 = true := by
                unfold agree says
                simp only [decide_eq_true_eq]
                refine ag.imp (fun H j hj => ?_) (fun H j hj => ?_)
                · rw [homed_nil, c8.now]; exact H j hj
                · rw [homed_nil, c8.now]; exact H j hj
              have r13 : w8.heap[g13]? = some (.cells (arr 16 u) 29 (0, 0)) := D8.a13
              have r14 : ∀ w9, Still w8 w9 → w9.heap[g13 + 1]? = some (.cells (arr 16 nx) 29 (0, 0)) := fun w9 f9 => D8.a14.kept f9 (fun x => x)
              have HTL1 := hide TL1; have HTL2 := @hide _ TL2; have HR14 := @hide _ r14; have HFIN := hide D8.fr
              clear TL1 TL2 r14 D8 st8 c8 e8 ag HAG
              cases hu1 : agree (says [] A8) u 16
              · have hu2 : agree (says [] A8) nx 16 = true := by
                  rcases ag2 with x | x
                  · rw [hu1] at x; cases x
                  · exact x
                rw [hu1] at HTL1
                rw [hu2] at HTL2
                clear hu1 hu2 ag2
                go_wp2_with (first | (refine wpList_load_rowG (by rfl) 29 _ rfl g13 rfl 29 (arr 16 u) (0, 0) _ r13 Try.underlying29 rfl (info_arr _) ?_) | (go_at_call 13; refine (unhide HTL1).mono ?_; rintro e w9 ⟨rfl, f9⟩; have HTL3 := hide (unhide HTL2 w9 f9); have r14 := unhide HR14 w9 f9; have HF9 := hide f9; clear f9 r13 HTL1) | (refine wpList_load_rowG (by rfl) 29 _ rfl (g13 + 1) rfl 29 (arr 16 nx) (0, 0) _ r14 Try.underlying29 rfl (info_arr _) ?_) | (go_at_call 13; refine (unhide HTL3).mono ?_; rintro e w10 ⟨rfl, f10⟩; have HF10 := hide f10; clear f10) | (go_at_call 17; refine (AW _).mono ?_; rintro e w11 ⟨rfl, f11⟩; have HF11 := hide f11; clear f11))
                go_ret
                exact ⟨rfl, ((((unhide HFIN).trans (unhide HF9)).trans (unhide HF10)).trans (unhide HF11)).below (Nat.le_refl _) (fun _ x => x.elim)⟩
              · rw [hu1] at HTL1
                clear hu1 ag2 HTL2 HR14
                go_wp2_with (first | (refine wpList_load_rowG (by rfl) 29 _ rfl g13 rfl 29 (arr 16 u) (0, 0) _ r13 Try.underlying29 rfl (info_arr _) ?_) | (go_at_call 13; refine (unhide HTL1).mono ?_; rintro e w9 ⟨rfl, f9⟩; have HF9 := hide f9; clear f9) | (go_at_call 17; refine (AW _).mono ?_; rintro e w11 ⟨rfl, f11⟩; have HF11 := hide f11; clear f11))
                go_ret
                exact ⟨rfl, (((unhide HFIN).trans (unhide HF9)).trans (unhide HF11)).below (Nat.le_refl _) (fun _ x => x.elim)⟩
end Go.Proofs.Ytamghkabclbkgaa
