/- TxPlays, walked. -/
import Derived.Test.YtamghkabclbkgaaPlaysT
namespace Go.Proofs.Ytamghkabclbkgaa
open Go.RowKit

theorem arr_zero : arr 16 (fun _ => 0) = #[u64 0, u64 0, u64 0, u64 0, u64 0, u64 0, u64 0, u64 0, u64 0, u64 0, u64 0, u64 0, u64 0, u64 0, u64 0, u64 0] := by kernel_rfl
theorem arr_eq {f g : Nat → Int} (h : ∀ j, j < 16 → f j = g j) : arr 16 f = arr 16 g := by
  unfold arr
  congr 1
  refine List.map_congr_left fun j hj => ?_
  rw [h j (List.mem_range.1 hj)]
theorem Hold.grow {w0 w w' : World} {X Y : Nat → Prop} {sb b n : Nat} {T : Tay} {A : Ab} {P : List (Int × Int)} {dd : Bool} (h : Hold w0 X w sb b n T A P dd) (f : Still w w') (hY : ∀ k, Y k → X k ∨ (w.heap.size ≤ k ∧ k < w'.heap.size)) : Hold w0 Y w' sb b n T A P dd := by
  have h1 := h.still f
  refine ⟨h1.st, h1.fr, h1.new, fun k hk => ?_, fun k hk => ?_⟩
  · rcases hY k hk with hx | hx
    · exact h.ap k hx
    · exact fun ht => by have := h.st.lt _ ht; omega
  · rcases hY k hk with hx | hx
    · exact h1.xl k hx
    · exact ⟨Nat.le_trans h.fr.size hx.1, hx.2⟩

/-- Between two changes. -/
structure PlS (w : World) (bs g5 sb b : Nat) (c : Nat) (wr : World) (T : Tay) (A : Ab) (N : Nat) (f base u : Nat → Int) : Prop where
  hN : N * 8 = 12400 + 608
  hd : Hold w (fun r => r = bs ∨ r = g5) wr sb b 608 T A [] false
  c : Calm N True A (12292 + 30729 * (c : Int)) f
  cl : Clean 0 12304 base f
  bx : Box wr bs (ptr sb)
  a5 : ArrAt wr g5 u
  hu : ∀ j, j < 16 → base (12400 + j) = u j
  lt : bs < g5

theorem PlS.agrees {w wr : World} {bs g5 sb b c : Nat} {T : Tay} {A : Ab} {N : Nat} {f base u : Nat → Int} (s : PlS w bs g5 sb b c wr T A N f base u) : agree (says [] A) u 16 = true := by
  unfold agree says
  simp only [decide_eq_true_eq]
  intro j hj
  rw [homed_nil, s.c.now, s.cl.out _ (by omega), s.hu j hj]

set_option maxRecDepth 100000 in
set_option maxHeartbeats 16000000 in
theorem plays_ok (a0 : Option Addr) (len0 cap0 : Nat) (w : World) (z : Nat → Op7) (hz : OpsAt w a0 len0 z) (hb : len0 * 24 ≤ 140737488351232) :
    Calls Try.prog 6 #[.slice a0 len0 cap0] w fun e w' => e = .returned (.bool true) ∧ Below w.heap.size w w' := by
  have K : Calls Try.prog 9 #[.int .i64 13008] w _ := law_open 608 1626 (by omega) (by omega) (by omega) w
  have HK := hide K; have HZ := hide hz
  have h1 := eq_nil_stor
  have h2 := mf
  have AW := awake_ok
  clear K hz
  go_enter Try.func6, Try.ntmps6
  go_wp2_with fail
  refine (unhide HK).mono ?_
  clear HK
  rintro e w1 ⟨b, sb, T, A, rfl, o⟩
  obtain ⟨N, f, hN, c, k⟩ := o.calm
  obtain ⟨W1, hW1⟩ : ∃ W1, w1.alloc (.cells #[ptr sb] 24) = W1 := ⟨_, rfl⟩
  obtain ⟨bs, hbs⟩ : ∃ bs, w1.heap.size = bs := ⟨_, rfl⟩
  have hd1 : Hold w (fun r => False ∨ r = bs) W1 sb b 608 T A [] false := by
    have := o.hold.more (.cells #[ptr sb] 24)
    rw [hW1, hbs] at this
    exact this
  have bx1 : Box W1 bs (ptr sb) := by
    have := Box.new w1 (ptr sb) 24
    rw [hW1, hbs] at this
    exact this
  have bc1 := bx1.c
  have AW1 := AW W1
  have HAW := hide AW1; have HH1 := hide hd1; have HB1 := hide bx1; have HKL := hide k; have HC := hide c
  clear AW1 hd1 bx1 o c k
  go_wp2_with fail
  refine (unhide HAW).mono ?_
  clear HAW
  rintro e w2 ⟨rfl, f2⟩
  have hd2 := (unhide HH1).still f2
  have bx2 := (unhide HB1).kept f2 (fun x => x)
  obtain ⟨W3, hW3⟩ : ∃ W3, w2.alloc (.cells (arr 16 fun _ => 0) 29) = W3 := ⟨_, rfl⟩
  obtain ⟨g5, hg5⟩ : ∃ g5, w2.heap.size = g5 := ⟨_, rfl⟩
  have S0 : PlS w bs g5 sb b 0 W3 T A N f (fun _ => 0) (fun _ => 0) := by
    refine ⟨hN, hW3 ▸ (hd2.more _).sub (fun k hk => ?_), (unhide HC).more (by omega), unhide HKL, hW3 ▸ bx2.alloc _, ?_, fun j hj => rfl, by have := bx2.lt; omega⟩
    · rcases hk with hk | hk
      · exact .inl (.inr hk)
      · exact .inr (hk.trans hg5.symm)
    · have := ArrAt.new w2 (fun _ => 0)
      rw [hW3, hg5] at this
      exact this
  have HS0 := hide S0; have HW3 := hide hW3
  clear S0 hd2 bx2 f2 hW3 HH1 HB1 HKL bc1 HC
  go_wp2_with fail
  have hW' := unhide HW3
  rw [arr_zero] at hW'
  rw [hW']
  clear hW' hg5 hbs hW1 HW3
  go_loopw [6] (fun i wr => ∃ k c : Nat, k ≤ len0 ∧ c ≤ k ∧ c ≤ 60 ∧ i = .int .i64 k ∧ ∃ T A N f base u, PlS w bs g5 sb b c wr T A N f base u) (fun i wr => len0 - (intOf i).toNat)
  case atStart => exact ⟨0, 0, by omega, by omega, by omega, rfl, T, A, N, f, _, _, unhide HS0⟩
  case round =>
    clear HS0
    generalize wr = wq at *
    obtain ⟨k, c, hk1, hk2, hk3, rfl, T, A, N, f, base, u, S⟩ := hrel
    by_cases hlt : k < len0 ∧ k < 60
    · obtain ⟨hl1, hl2⟩ := hlt
      have CH := change_ok a0 len0 cap0 k wq z ((unhide HZ).still S.hd.fr) hb hl1
      have HCH := hide CH; have HS := hide S
      clear CH S
      go_wp2_with fail
      refine (unhide HCH).mono ?_
      clear HCH
      rintro e w3 ⟨ls, en, nxt, v, rfl, ch⟩
      obtain ⟨av, vcap, hv, hcell⟩ := (LsAt.of ch.row).form
      obtain ⟨kd, ei, ev⟩ := en
      have hnx1 := ch.more; have hnx2 := ch.most; have hfew := ch.few
      have S := unhide HS
      obtain ⟨lb, hlb⟩ : ∃ lb, w3.heap.size = lb := ⟨_, rfl⟩
      obtain ⟨Wa, hWa⟩ : ∃ Wa, ((w3.alloc (.cells #[v] 22)).alloc (.cells #[.int .i64 kd, .int .i64 ei, .int .u64 ev] 31)).alloc (.cells #[.int .i64 0] 36) = Wa := ⟨_, rfl⟩
      have zl : (w3.alloc (.cells #[v] 22)).heap.size = lb + 1 := by rw [← hlb]; simp
      have zm : ((w3.alloc (.cells #[v] 22)).alloc (.cells #[.int .i64 kd, .int .i64 ei, .int .u64 ev] 31)).heap.size = lb + 2 := by rw [← hlb]; simp
      have za : Wa.heap.size = lb + 3 := by rw [← hWa, ← hlb]; simp
      have f3a : Still w3 Wa := hWa ▸ (((Fr.refl _ w3).alloc _).alloc _).alloc _
      have fqa : Still wq Wa := ch.fr.trans f3a
      have szq : wq.heap.size ≤ lb := by rw [← hlb]; exact ch.fr.size
      have yb : ∀ r, v.ownBlock = some r → wq.heap.size ≤ r ∧ r < lb := fun r hr => by rw [← hlb]; exact ch.row.lt r hr
      obtain ⟨Wb, hWb⟩ : ∃ Wb, Wa.alloc (.cells (arr 16 fun _ => 0) 29) = Wb := ⟨_, rfl⟩
      have fab : Still Wa Wb := hWb ▸ (Fr.refl _ Wa).alloc _
      have zb : Wb.heap.size = lb + 4 := by rw [← hWb]; simp [za]
      have r5a : Wa.heap[g5]? = some (.cells (arr 16 u) 29 (0, 0)) := S.a5.kept fqa (fun x => x)
      have r11 : Wb.heap[lb + 3]? = some (.cells (arr 16 fun _ => 0) 29 (0, 0)) := by
        have := heap_alloc_new Wa (.cells (arr 16 fun _ => 0) 29)
        rw [hWb, za] at this
        exact this
      obtain ⟨Wc, hWc⟩ : ∃ Wc, Wb.setRow (lb + 3) (arr 16 u) = Wc := ⟨_, rfl⟩
      have fbc : Fr (fun r => r = lb + 3) Wb Wc := hWc ▸ Fr.setRow _ _ _
      have fac : Still Wa Wc := fab.trans' fbc (fun r hr => .inr (by omega))
      have fqc : Still wq Wc := fqa.trans fac
      have zc : lb + 4 ≤ Wc.heap.size := by rw [← zb]; exact fbc.size
      have a11 : ArrAt Wc (lb + 3) (fun j => homed (puts ixn [] (ls.take 0)) base (12400 + j)) := by
        have := setRow_heap Wb (lb + 3) (arr 16 fun _ => 0) (arr 16 u) 29 (0, 0) r11
        rw [hWc] at this
        unfold ArrAt
        rw [this]
        congr 2
        exact arr_eq (fun j hj => (S.hu j hj).symm)
      have hdc : Hold w (fun r => (r = bs ∨ r = g5) ∨ r = lb ∨ r = lb + 1 ∨ r = lb + 2 ∨ r = lb + 3 ∨ v.ownBlock = some r) Wc sb b 608 T A [] false := by
        refine S.hd.grow fqc (fun r hr => ?_)
        rcases hr with hr | hr | hr | hr | hr | hr
        · exact .inl hr
        · exact .inr ⟨by omega, by omega⟩
        · exact .inr ⟨by omega, by omega⟩
        · exact .inr ⟨by omega, by omega⟩
        · exact .inr ⟨by omega, by omega⟩
        · exact .inr ⟨(yb r hr).1, by have := (yb r hr).2; omega⟩
      have blc : Box Wc lb v := by
        have := ((Box.new w3 v 22).alloc (.cells #[.int .i64 kd, .int .i64 ei, .int .u64 ev] 31)).alloc (.cells #[.int .i64 0] 36)
        rw [hWa, hlb] at this
        exact this.kept fac (fun x => x)
      have oec : Wc.heap[lb + 1]? = some (.cells #[.int .i64 kd, .int .i64 ei, .int .u64 ev] 31) := by
        have := ((Fr.refl (fun _ => False) _).alloc (.cells #[.int .i64 0] 36)).obj (heap_alloc_new (w3.alloc (.cells #[v] 22)) (.cells #[.int .i64 kd, .int .i64 ei, .int .u64 ev] 31)) (fun x => x)
        rw [hWa, zl] at this
        exact fac.obj this (fun x => x)
      have bxc : Box Wc (lb + 2) (.int .i64 0) := by
        have := Box.new ((w3.alloc (.cells #[v] 22)).alloc (.cells #[.int .i64 kd, .int .i64 ei, .int .u64 ev] 31)) (.int .i64 0) 36
        rw [hWa, zm] at this
        exact this.kept fac (fun x => x)
      have lvc := ((LsAt.of ch.row).kept f3a (fun _ _ x => x)).kept fac (fun _ _ x => x)
      have bsc := S.bx.kept fqc (fun x => x)
      have a5c := S.a5.kept fqc (fun x => x)
      have g5lt := S.a5.lt
      have bslt := S.lt
      have TD := plays_told hdc.st S.c S.cl lvc (by omega) blc bsc bxc oec (hdc.ap _ (.inr (.inl rfl))) (hdc.ap _ (.inl (.inl rfl))) (fun r hr => hdc.ap _ (.inr (.inr (.inr (.inr (.inr hr)))))) (hdc.ap _ (.inr (.inr (.inl rfl)))) (hdc.ap _ (.inr (.inr (.inr (.inl rfl))))) (by omega)
      have HTD := hide TD; have HHC := hide hdc; have HBL := hide blc; have HOE := hide oec; have HLV := hide lvc; have HBS := hide bsc; have HA5 := hide a5c; have HA11 := hide a11; have HYB := hide yb
      have HN := hide S.hN; have HCL := hide S.cl; have HHU := hide S.hu; have HC := hide S.c; have HWB := hide hWb
      rw [arr_zero] at hWb r11
      subst hv
      clear TD hdc blc oec lvc bsc a5c a11 yb S HS ch hcell bxc fbc fac fqc fab fqa f3a zl zm zb
      go_wp2_with (first | (refine wpList_load_row rfl 29 _ rfl g5 rfl 29 (arr 16 u) (0, 0) _ r5a Try.underlying29 rfl (info_arr _) ?_) | (refine wpList_store_row rfl 29 _ _ rfl (lb + 3) (arr 16 u) rfl rfl 29 _ r11 (info_arr _) (by rw [arr_size]; rfl) (arr_one _ _) ?_; rw [hWc]) | fail)
      refine (unhide HTD).mono ?_
      clear HTD r5a r11 hWc hWb HWB
      rintro e w5 ⟨how, T5, A5, r5, rfl, out, fo⟩
      have hdc := unhide HHC
      have hd5 := hdc.out (.inr (.inr (.inr (.inl rfl)))) out
      have bs5 := (unhide HBS).kept out.fr (fun x => x.elim (hdc.ap _ (.inl (.inl rfl))) (fun y => by omega))
      have a55 := (unhide HA5).kept out.fr (fun x => x.elim (hdc.ap _ (.inl (.inr rfl))) (fun y => by omega))
      have bl5 := (unhide HBL).kept out.fr (fun x => x.elim (hdc.ap _ (.inr (.inl rfl))) (fun y => by omega))
      have oe5 := out.fr.obj (unhide HOE) (fun x => x.elim (hdc.ap _ (.inr (.inr (.inl rfl)))) (fun y => by omega))
      have a115 := (unhide HA11).kept out.fr (fun x => x.elim (hdc.ap _ (.inr (.inr (.inr (.inr (.inl rfl)))))) (fun y => by omega))
      have lv5 := (unhide HLV).kept out.fr (fun r hr x => x.elim (hdc.ap _ (.inr (.inr (.inr (.inr (.inr hr)))))) (fun y => by have := (unhide HYB r hr).2; omega))
      have xb5 := out.bx
      have HH5 := hide hd5; have HBS5 := hide bs5; have HA55 := hide a55; have HBL5 := hide bl5; have HOE5 := hide oe5; have HA115 := hide a115; have HLV5 := hide lv5; have HXB5 := hide xb5; have HFO := hide fo
      clear hdc hd5 bs5 a55 bl5 oe5 a115 lv5 xb5 fo out HHC HBS HA5 HBL HOE HA11 HLV hWa
      go_wp2_with fail
      go_loopw [12, 14] (fun bd i wr => ∃ (q : Nat) (d : Bool), q ≤ ls.length ∧ bd = .bool d ∧ i = .int .i64 q ∧ Fr (fun r => r = lb + 3) w5 wr ∧ ((d = false ∧ (∀ x ∈ ls.take q, ¬ off x) ∧ ArrAt wr (lb + 3) (fun j => homed (puts ixn [] (ls.take q)) base (12400 + j))) ∨ (d = true ∧ ∃ x ∈ ls, off x))) (fun bd i wr => ls.length - (intOf i).toNat)
      case atStart => exact ⟨0, false, Nat.zero_le _, rfl, rfl, Fr.refl _ _, .inl ⟨rfl, by simp, unhide HA115⟩⟩
      case round =>
        clear HA115
        obtain ⟨q, d, hq, rfl, rfl, fq, hcase⟩ := hrel
        have cl := ((unhide HBL5).kept fq (by omega)).c
        rcases (show (q < ls.length ∧ d = false) ∨ (d = true) ∨ (ls.length ≤ q ∧ d = false) by cases d <;> simp <;> omega) with ⟨hlt2, rfl⟩ | rfl | ⟨hge, rfl⟩
        · obtain ⟨hno, aq⟩ : (∀ x ∈ ls.take q, ¬ off x) ∧ ArrAt wr (lb + 3) (fun j => homed (puts ixn [] (ls.take q)) base (12400 + j)) := by
            rcases hcase with ⟨_, h3, h4⟩ | ⟨h3, _⟩
            · exact ⟨h3, h4⟩
            · cases h3
          clear hcase
          obtain ⟨x, hx⟩ : ∃ x, ls[q]? = some x := ⟨_, List.getElem?_eq_getElem hlt2⟩
          have lvq := (unhide HLV5).kept fq (fun r hr e => by have := (unhide HYB r hr).2; omega)
          obtain ⟨av', vcap', hve, hcell⟩ := lvq.form
          obtain ⟨rfl, rfl⟩ : av = av' ∧ vcap = vcap' := by injection hve with h1 _ h2; exact ⟨h1, h2⟩
          obtain ⟨g, rfl, _, _, c1, c2⟩ := hcell q x hx
          have hmem : x ∈ ls := List.mem_of_getElem? hx
          by_cases hof : off x
          · have HM := hide (⟨x, hmem, hof⟩ : ∃ x ∈ ls, off x); have HFQ := hide fq
            have hof2 : x.i < 0 ∨ 608 ≤ x.i := hof
            clear hno aq lvq hcell hve hx hmem hof fq c2
            generalize x.i = xi at *
            rcases hof2 with hi | hi
            · go_wp2
              exact ⟨⟨q + 1, true, by omega, rfl, by go_num, unhide HFQ, .inr ⟨rfl, unhide HM⟩⟩, by simp [intOf]; omega⟩
            · have hi2 : ¬ xi < 0 := by omega
              go_wp2
              exact ⟨⟨q + 1, true, by omega, rfl, by go_num, unhide HFQ, .inr ⟨rfl, unhide HM⟩⟩, by simp [intOf]; omega⟩
          · have hxi : x.i = (ixn x : Int) := by unfold off at hof; unfold ixn; omega
            have hxl : ixn x < 608 := by unfold off at hof; unfold ixn; omega
            have hno2 : ∀ y ∈ ls.take (q + 1), ¬ off y := fun y hy => by
              rw [List.take_add_one, hx] at hy
              rcases List.mem_append.1 hy with h1 | h1
              · exact hno y h1
              · have : y = x := by simpa using h1
                rw [this]; exact hof
            have pm := puts_more ixn [] ls q x hx
            have on := puts_once ixn (ls.take q) [] once_nil
            have hom := (homed_put on (12400 + ixn x) x.v base).1
            rw [show ((12400 + ixn x : Nat) : Int) = 12400 + (ixn x : Int) by omega, ← pm] at hom
            rw [hxi] at c1
            by_cases h16 : ixn x < 16
            · have q11 := aq.cell (ixn x) h16
              have y11 := aq.frozen (ixn x)
              have ST : ∀ n, ArrAt ((wr.drewN n).setCell ⟨lb + 3, ixn x, none⟩ (.int .u64 x.v)) (lb + 3) (fun j => homed (puts ixn [] (ls.take (q + 1))) base (12400 + j)) := fun n => by
                have := (aq.kept ((Fr.refl (fun _ => False) wr).drewN n) (fun x => x)).set (ixn x) x.v
                unfold ArrAt at this ⊢
                rw [this]
                congr 2
                refine arr_eq (fun j hj => ?_)
                rw [hom]
                by_cases e : j = ixn x
                · rw [e, upd_same, upd_same]
                · rw [upd_other _ _ e, upd_other _ _ (by omega)]
              have HST := @hide _ ST; have HFQ := hide fq; have HN2 := hide hno2
              clear ST fq aq pm on lvq hcell hve hx hom hno hno2 hof hmem hxi
              generalize ixn x = m at *
              generalize x.v = xv at *
              go_wp2_with fail
              refine region_tailP 11 (by kernel_rfl) (by kernel_rfl) ?_
              simp only [List.take_succ_cons, List.take_zero, List.drop_succ_cons, List.drop_zero]
              repeat (go_big_quiet_step (first | fail))
              refine wpQuiet_nil ?_
              rintro _ ⟨nq, rfl⟩
              go_wp2
              exact ⟨⟨q + 1, false, by omega, rfl, by go_num, ((unhide HFQ).drewN nq).setCell (.inl rfl) _, .inl ⟨rfl, unhide HN2, unhide HST nq⟩⟩, by simp [intOf]; omega⟩
            · have ST : ArrAt wr (lb + 3) (fun j => homed (puts ixn [] (ls.take (q + 1))) base (12400 + j)) := by
                unfold ArrAt at aq ⊢
                rw [aq]
                congr 2
                refine arr_eq (fun j hj => ?_)
                rw [hom, upd_other _ _ (by omega)]
              have HST := hide ST; have HFQ := hide fq; have HN2 := hide hno2
              have h16' : 16 ≤ ixn x := by omega
              clear ST fq aq pm on lvq hcell hve hx hom hno hno2 hof hmem hxi c2 h16
              generalize ixn x = m at *
              go_wp2
              exact ⟨⟨q + 1, false, by omega, rfl, by go_num, unhide HFQ, .inl ⟨rfl, unhide HN2, unhide HST⟩⟩, by simp [intOf]; omega⟩
        · have hbad : ∃ x ∈ ls, off x := by
            rcases hcase with ⟨h3, _⟩ | ⟨_, h3⟩
            · cases h3
            · exact h3
          have h4 : how = 0 ∧ r5 = 1 ∧ A5 = A := by
            obtain ⟨x, hx1, hx2⟩ := hbad
            rcases unhide HFO with ⟨_, h1, h2, h3⟩ | ⟨h1, _⟩ | ⟨h1, _⟩ | ⟨h1, _⟩
            · exact ⟨h1, h2, h3⟩
            · exact absurd hx2 (h1 x hx1)
            · exact absurd hx2 (h1 x hx1)
            · exact absurd hx2 (h1 x hx1)
          obtain ⟨rfl, rfl, rfl⟩ := h4
          have hdw := (unhide HH5).var fq (fun r hr => .inr (.inr (.inr (.inr (.inl hr)))))
          have bsw := (unhide HBS5).kept fq (by omega)
          have a5w := (unhide HA55).kept fq (by omega)
          have oew := fq.obj (unhide HOE5) (by omega)
          have xbw := (unhide HXB5).kept fq (by omega)
          have sc := bsw.c
          have xc : wr.cell? ⟨lb + 1 + 1, 0, none⟩ = some (.int .i64 _) := xbw.c
          have k0 := cell_of_obj oew 0
          have k2 := cell_of_obj oew 2
          have S8 : PlS w bs g5 sb b (c + 1) wr T5 A5 N f base u := ⟨unhide HN, hdw.sub (fun r hr => .inl hr), (unhide HC).more (by omega), unhide HCL, bsw, a5w, unhide HHU, bslt⟩
          clear hdw bsw a5w oew xbw hcase hbad fq HFO HH5 HBS5 HA55 HBL5 HOE5 HLV5 HXB5 HYB HCL HHU HC
          rcases (show q < ls.length ∨ ls.length ≤ q by omega) with hx1 | hx1
          all_goals
            have TL := tells_ok u S8.hd.st S8.c.dead (by omega)
            rw [S8.agrees] at TL
            have bc8 := S8.bx.c
            have r58 : wr.heap[g5]? = some (.cells (arr 16 u) 29 (0, 0)) := S8.a5
            have HTL := hide TL; have HS8 := hide S8
            clear TL S8
            go_wp2_with (first | (refine wpList_load_row rfl 29 _ rfl g5 rfl 29 (arr 16 u) (0, 0) _ r58 Try.underlying29 rfl (info_arr _) ?_) | fail)
            refine (unhide HTL).mono ?_
            clear HTL r58 cl sc xc k0 k2
            rintro e w9 ⟨rfl, f9⟩
            have S8 := unhide HS8
            have hd9 := S8.hd.still f9
            have bx9 := S8.bx.kept f9 (fun x => x)
            have bc9 := bx9.c
            have S9 : PlS w bs g5 sb b (c + 1) w9 T5 A5 N f base u := ⟨S8.hN, hd9, S8.c, S8.cl, bx9, S8.a5.kept f9 (fun x => x), S8.hu, S8.lt⟩
            have PD : Calls Try.prog 14 #[ptr sb] w9 fun e w' => e = .returned (.int .i64 0) ∧ w' = w9 := t_pending hd9.st
            have HPD := hide PD; have HS9 := hide S9
            clear PD S8 S9 hd9 bx9 f9 HS8 bc8
            go_wp2_with (go_at_call 14; refine (unhide HPD).mono ?_; rintro e w' ⟨rfl, hh⟩; replace hh := hh.symm; subst hh)
            go_roundw
            case rel => exact ⟨nxt, c + 1, by omega, by omega, by omega, rfl, T5, A5, N, f, base, u, unhide HS9⟩
            case measure => simp [intOf]; omega
        · obtain ⟨hno, aq⟩ : (∀ x ∈ ls, ¬ off x) ∧ ArrAt wr (lb + 3) (fun j => homed (puts ixn [] ls) base (12400 + j)) := by
            rcases hcase with ⟨_, h3, h4⟩ | ⟨h3, _⟩
            · rw [List.take_of_length_le hge] at h3 h4
              exact ⟨h3, h4⟩
            · cases h3
          clear hcase
          have hdw := (unhide HH5).var fq (fun r hr => .inr (.inr (.inr (.inr (.inl hr)))))
          have bsw := (unhide HBS5).kept fq (by omega)
          have a5w := (unhide HA55).kept fq (by omega)
          have oew := fq.obj (unhide HOE5) (by omega)
          have xbw := (unhide HXB5).kept fq (by omega)
          have sc := bsw.c
          have xc : wr.cell? ⟨lb + 1 + 1, 0, none⟩ = some (.int .i64 _) := xbw.c
          have k0 := cell_of_obj oew 0
          have k2 := cell_of_obj oew 2
          rcases unhide HFO with ⟨⟨x, hx1, hx2⟩, _⟩ | ⟨_, rfl, rfl, rfl, rfl⟩ | ⟨_, rfl, rfl, rfl⟩ | ⟨_, hk2', hk3', rfl, rfl, f8, c8, k8⟩
          · exact absurd hx2 (hno x hx1)
          · have S8 : PlS w bs g5 sb b (c + 1) wr T5 A5 N f base u := ⟨unhide HN, hdw.sub (fun r hr => .inl hr), (unhide HC).more (by omega), unhide HCL, bsw, a5w, unhide HHU, bslt⟩
            have ml := mask_low8 ev
            have ll := low8_le ev
            have wz : IntKind.i64.wrap ((low8 ev : Nat) : Int) = (low8 ev : Int) := (wrap_small _ (by omega) (by omega)).1
            clear hdw bsw a5w oew xbw hno aq fq HFO HH5 HBS5 HA55 HBL5 HOE5 HLV5 HXB5 HYB HCL HHU HC
            have TL := tells_ok u S8.hd.st S8.c.dead (by omega)
            rw [S8.agrees] at TL
            have bc8 := S8.bx.c
            have r58 : wr.heap[g5]? = some (.cells (arr 16 u) 29 (0, 0)) := S8.a5
            have HTL := hide TL; have HS8 := hide S8
            clear TL S8
            go_wp2_with (first | (refine wpList_load_row rfl 29 _ rfl g5 rfl 29 (arr 16 u) (0, 0) _ r58 Try.underlying29 rfl (info_arr _) ?_) | fail)
            refine (unhide HTL).mono ?_
            clear HTL r58 cl sc xc k0 k2
            rintro e w9 ⟨rfl, f9⟩
            have S8 := unhide HS8
            have hd9 := S8.hd.still f9
            have bx9 := S8.bx.kept f9 (fun x => x)
            have bc9 := bx9.c
            have S9 : PlS w bs g5 sb b (c + 1) w9 T5 A5 N f base u := ⟨S8.hN, hd9, S8.c, S8.cl, bx9, S8.a5.kept f9 (fun x => x), S8.hu, S8.lt⟩
            have PD : Calls Try.prog 14 #[ptr sb] w9 fun e w' => e = .returned (.int .i64 0) ∧ w' = w9 := t_pending hd9.st
            have HPD := hide PD; have HS9 := hide S9
            clear PD S8 S9 hd9 bx9 f9 HS8 bc8
            go_wp2_with (go_at_call 14; refine (unhide HPD).mono ?_; rintro e w' ⟨rfl, hh⟩; replace hh := hh.symm; subst hh)
            go_roundw
            case rel => exact ⟨nxt, c + 1, by omega, by omega, by omega, rfl, T5, A5, N, f, base, u, unhide HS9⟩
            case measure => simp [intOf]; omega
          · have S8 : PlS w bs g5 sb b (c + 1) wr T5 A5 N f base u := ⟨unhide HN, hdw.sub (fun r hr => .inl hr), (unhide HC).more (by omega), unhide HCL, bsw, a5w, unhide HHU, bslt⟩
            clear hdw bsw a5w oew xbw hno aq fq HFO HH5 HBS5 HA55 HBL5 HOE5 HLV5 HXB5 HYB HCL HHU HC
            have TL := tells_ok u S8.hd.st S8.c.dead (by omega)
            rw [S8.agrees] at TL
            have bc8 := S8.bx.c
            have r58 : wr.heap[g5]? = some (.cells (arr 16 u) 29 (0, 0)) := S8.a5
            have HTL := hide TL; have HS8 := hide S8
            clear TL S8
            go_wp2_with (first | (refine wpList_load_row rfl 29 _ rfl g5 rfl 29 (arr 16 u) (0, 0) _ r58 Try.underlying29 rfl (info_arr _) ?_) | fail)
            refine (unhide HTL).mono ?_
            clear HTL r58 cl sc xc k0 k2
            rintro e w9 ⟨rfl, f9⟩
            have S8 := unhide HS8
            have hd9 := S8.hd.still f9
            have bx9 := S8.bx.kept f9 (fun x => x)
            have bc9 := bx9.c
            have S9 : PlS w bs g5 sb b (c + 1) w9 T5 A5 N f base u := ⟨S8.hN, hd9, S8.c, S8.cl, bx9, S8.a5.kept f9 (fun x => x), S8.hu, S8.lt⟩
            have PD : Calls Try.prog 14 #[ptr sb] w9 fun e w' => e = .returned (.int .i64 0) ∧ w' = w9 := t_pending hd9.st
            have HPD := hide PD; have HS9 := hide S9
            clear PD S8 S9 hd9 bx9 f9 HS8 bc8
            go_wp2_with (go_at_call 14; refine (unhide HPD).mono ?_; rintro e w' ⟨rfl, hh⟩; replace hh := hh.symm; subst hh)
            go_roundw
            case rel => exact ⟨nxt, c + 1, by omega, by omega, by omega, rfl, T5, A5, N, f, base, u, unhide HS9⟩
            case measure => simp [intOf]; omega
          · obtain ⟨n3, hn3⟩ : ∃ n3 : Nat → Int, (fun j => homed (puts ixn [] ls) base (12400 + j)) = n3 := ⟨_, rfl⟩
            rw [hn3] at aq
            have r11 : wr.heap[lb + 3]? = some (.cells (arr 16 n3) 29 (0, 0)) := aq
            have r5w : wr.heap[g5]? = some (.cells (arr 16 u) 29 (0, 0)) := a5w
            obtain ⟨w8, hw8⟩ : ∃ w8, wr.setRow g5 (arr 16 n3) = w8 := ⟨_, rfl⟩
            have f8w : Fr (fun r => r = g5) wr w8 := hw8 ▸ Fr.setRow _ _ _
            have S8 : PlS w bs g5 sb b (c + 1) w8 T5 A5 N f8 (homed (puts ixn [] ls) base) n3 :=
              ⟨unhide HN, (hdw.var f8w (fun r hr => .inl (.inr hr))).sub (fun r hr => .inl hr), c8.more (by omega), k8, bsw.kept f8w (by omega), hw8 ▸ setRow_heap _ _ _ _ _ _ r5w, fun j hj => by rw [← hn3], bslt⟩
            have b2 : (kd == 2) = false := by simp; exact hk2'
            have b3 : (kd == 3) = false := by simp; exact hk3'
            clear hdw bsw a5w oew xbw hno aq fq HFO HH5 HBS5 HA55 HBL5 HOE5 HLV5 HXB5 HYB HCL HHU HC hn3 f8w hk2' hk3' c8 k8
            have TL := tells_ok n3 S8.hd.st S8.c.dead (by omega)
            rw [S8.agrees] at TL
            have bc8 := S8.bx.c
            have r58 : w8.heap[g5]? = some (.cells (arr 16 n3) 29 (0, 0)) := S8.a5
            have HTL := hide TL; have HS8 := hide S8
            clear TL S8
            go_wp2_with (first | (refine wpList_load_row rfl 29 _ rfl (lb + 3) rfl 29 (arr 16 n3) (0, 0) _ r11 Try.underlying29 rfl (info_arr _) ?_) | (refine wpList_store_row rfl 29 _ _ rfl g5 (arr 16 n3) rfl rfl 29 (arr 16 u) r5w (info_arr _) (by rw [arr_size, arr_size]) (arr_one _ _) ?_; rw [hw8]) | (refine wpList_load_row rfl 29 _ rfl g5 rfl 29 (arr 16 n3) (0, 0) _ r58 Try.underlying29 rfl (info_arr _) ?_) | fail)
            refine (unhide HTL).mono ?_
            clear HTL r58 cl sc xc k0 k2
            rintro e w9 ⟨rfl, f9⟩
            have S8 := unhide HS8
            have hd9 := S8.hd.still f9
            have bx9 := S8.bx.kept f9 (fun x => x)
            have bc9 := bx9.c
            have S9 : PlS w bs g5 sb b (c + 1) w9 T5 A5 N f8 (homed (puts ixn [] ls) base) n3 := ⟨S8.hN, hd9, S8.c, S8.cl, bx9, S8.a5.kept f9 (fun x => x), S8.hu, S8.lt⟩
            have PD : Calls Try.prog 14 #[ptr sb] w9 fun e w' => e = .returned (.int .i64 0) ∧ w' = w9 := t_pending hd9.st
            have HPD := hide PD; have HS9 := hide S9
            clear PD S8 S9 hd9 bx9 f9 HS8 bc8
            go_wp2_with (go_at_call 14; refine (unhide HPD).mono ?_; rintro e w' ⟨rfl, hh⟩; replace hh := hh.symm; subst hh)
            go_roundw
            case rel => exact ⟨nxt, c + 1, by omega, by omega, by omega, rfl, T5, A5, N, f8, (homed (puts ixn [] ls) base), n3, unhide HS9⟩
            case measure => simp [intOf]; omega
    · have HF := hide S.hd.fr
      clear S
      rcases (show len0 ≤ k ∨ (k < len0 ∧ 60 ≤ k) by omega) with hx1 | ⟨hx1, hx2⟩
      all_goals
        clear hlt
        go_wp2
        go_ret
        exact ⟨rfl, (unhide HF).below (Nat.le_refl _) (fun _ x => x.elim)⟩
end Go.Proofs.Ytamghkabclbkgaa
