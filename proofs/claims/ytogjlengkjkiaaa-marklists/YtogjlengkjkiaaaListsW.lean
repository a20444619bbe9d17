/- MarkLists. -/
import Derived.Test.YtogjlengkjkiaaaOr
import Derived.Test.YtogjlengkjkiaaaCn
namespace Go.Proofs.Ytogjlengkjkiaaa
open Go.RowKit

theorem rd_nums {w : World} {a : Option Addr} {n : Nat} {z : Nat → Int} (h : Nums w a n z) : Rd w a ((List.range n).map z) := fun i hi => by
  have hi' : i < n := by simpa using hi
  obtain ⟨b, o, e, c⟩ := h i hi'
  exact ⟨b, o, e, by simpa [hi'] using c⟩
theorem cnt_step (l : List Int) (x : Int) {k : Nat} (hk : k < l.length) : ((l.take (k + 1)).count x : Int) = (l.take k).count x + if l.getD k 0 = x then 1 else 0 := by
  rw [take_one l hk, List.count_append]
  by_cases e : l.getD k 0 = x
  · rw [if_pos e]; simp only [List.count_singleton, e]; simp
  · rw [if_neg e]; simp only [List.count_singleton, beq_iff_eq]; rw [if_neg e]; simp
/-- What the law holds at last. -/
structure LB (w : World) (lp lq lx lc : List Int) (p g q wi on xv cv : Value) : Prop where
  p : Rv w p lp
  g : Rv w g lp
  q : Rv w q lq
  wi : Rv w wi lq
  on : Rv w on lx
  x : Rv w xv lx
  c : Rv w cv lc
theorem LB.still {w w' : World} {lp lq lx lc : List Int} {p g q wi on xv cv : Value} (h : LB w lp lq lx lc p g q wi on xv cv) (f : Still w w') : LB w' lp lq lx lc p g q wi on xv cv :=
  ⟨h.p.still f, h.g.still f, h.q.still f, h.wi.still f, h.on.still f, h.x.still f, h.c.still f⟩
theorem still_trans {a b c : World} (h : Still a b) (k : Still b c) : Still a c := h.trans' k fun _ x => x.elim

set_option maxRecDepth 100000 in
set_option maxHeartbeats 4000000 in
theorem lists_ok (a b : Option Addr) (la ca lb cb : Nat) (W : World) (za zb : Nat → Int) (ha : Nums W a la za) (hb : Nums W b lb zb) :
    Calls Try.prog 6 #[.slice a la ca, .slice b lb cb] W fun e w' => e = .returned (.bool true) ∧ Below W.heap.size W w' := by
  have ra := rd_nums ha
  have rb := rd_nums hb
  obtain ⟨l, hl⟩ : ∃ l, (List.range la).map za = l := ⟨_, rfl⟩
  obtain ⟨m, hm⟩ : ∃ m, (List.range lb).map zb = m := ⟨_, rfl⟩
  have hla : la = l.length := by rw [← hl]; simp
  have hlb : lb = m.length := by rw [← hm]; simp
  rw [hl] at ra
  rw [hm] at rb
  have HRA := hide ra; have HRB := hide rb; have HLA := hide hla; have HLB := hide hlb
  clear ha hb ra rb hl hm hla hlb
  by_cases h1 : 100 < la
  · have h1' : (100 : Int) < la := by omega
    go_enter Try.func6, Try.ntmps6
    go_wp2_with fail
    refine (awake_ok W).mono ?_
    rintro e w1 ⟨rfl, f1⟩
    go_wp2
    go_ret
    exact ⟨rfl, f1.bel⟩
  have h1' : ¬ (100 : Int) < la := by omega
  by_cases h2 : 100 < lb
  · have h2' : (100 : Int) < lb := by omega
    go_enter Try.func6, Try.ntmps6
    go_wp2_with fail
    refine (awake_ok W).mono ?_
    rintro e w1 ⟨rfl, f1⟩
    go_wp2
    go_ret
    exact ⟨rfl, f1.bel⟩
  have h2' : ¬ (100 : Int) < lb := by omega
  have OX := order_ok a la ca l W (unhide HRA) (unhide HLA) (by omega)
  have OY := fun w f => order_ok b lb cb m w ((unhide HRB).still (w' := w) f) (unhide HLB) (by omega)
  have HOY := @hide _ OY
  have hxl := asc_len l
  have hyl := asc_len m
  have xlt := asc_lt l
  have ylt := asc_lt m
  have HXY := hide (And.intro xlt ylt)
  have CZ := fun w f => count_ok a la ca l w (unhide HLA) (by omega) ((unhide HRA).still (w' := w) f)
  have ON := fun w f => once_ok a la ca l w (unhide HLA) (by omega) ((unhide HRA).still (w' := w) f)
  have HCZ := @hide _ CZ; have HON := @hide _ ON
  rw [← unhide HLA] at hxl
  rw [← unhide HLB] at hyl
  clear OY CZ ON xlt ylt
  go_enter Try.func6, Try.ntmps6
  go_wp2_with fail
  refine OX.mono ?_
  rintro e w1 ⟨xv, rfl, ox, f1⟩
  have OY := unhide HOY w1 f1
  obtain ⟨xa, xc, rfl⟩ := rows_form ox
  have HX := hide (And.intro ox.rv f1)
  clear OX ox f1 HOY
  generalize asc l = x at *
  obtain ⟨xn, hxn⟩ : ∃ n, x.length = n := ⟨_, rfl⟩
  have HXN := hide hxn
  rw [hxn] at hxl HX ⊢
  clear hxn
  go_wp2_with fail
  refine OY.mono ?_
  rintro e w2 ⟨yv, rfl, oy, f2⟩
  obtain ⟨ya, yc, rfl⟩ := rows_form oy
  generalize asc m = y at *
  have HY := hide (And.intro ((unhide HX).1.still f2) (And.intro oy.rv (still_trans (unhide HX).2 f2)))
  clear OY oy f2
  obtain ⟨yn, hyn⟩ : ∃ n, y.length = n := ⟨_, rfl⟩
  have HYN := hide hyn
  rw [hyn] at hyl HY ⊢
  clear hyn
  have hxm : x.length ≤ 1000000 := by have := unhide HXN; omega
  have hym : y.length ≤ 1000000 := by have := unhide HYN; omega
  go_wp2_with fail
  go_loopw [7, 9] (fun v i wr => ∃ (k : Nat) (sa : Option Addr) (sn sc : Nat), i = iv k ∧ v = .slice sa sn sc ∧ Hid (k ≤ xn ∧ Own wr w2.heap.size (.slice sa sn sc) (wo (x.take k) y) ∧ sn = (wo (x.take k) y).length ∧ Still w2 wr)) (fun v i wr => xn - (RowKit.intOf i).toNat)
  case atStart => exact ⟨0, none, 0, 0, rfl, rfl, hide ⟨Nat.zero_le _, by simpa [wo] using Own.nil _ _, by simp [wo], Fr.refl _ _⟩⟩
  case round =>
    obtain ⟨k, sa, sn, sc, rfl, rfl, HI⟩ := hrel
    have hk := (unhide HI).1
    by_cases hlt : k < xn
    · have hlt' : (k : Int) < xn := by omega
      have hkx : k < x.length := by have := unhide HXN; omega
      have rv := ((unhide HY).2.1).still (unhide HI).2.2.2
      obtain ⟨za', zc', ez, hzc, hzr⟩ := ((unhide HY).1).still (unhide HI).2.2.2
      injection ez with ez1 ez2 ez3
      obtain ⟨xb, xo, ex, cx⟩ := hzr k hkx
      rw [← ez1] at ex
      subst ex
      have hst := wo_step x y hkx
      clear ez1 ez2 ez3 hzc hzr
      generalize hz : x.getD k 0 = z at *
      clear hz
      by_cases hin : z ∈ y
      · have hb : y.contains z = true := by simpa using hin
        rw [if_pos hin] at hst
        have HST := hide hst
        clear hst hin
        go_wp2_with (first | (go_at_call 10; refine (has_vb _ _ _ _ _ (by assumption) (by assumption) (by assumption)).mono ?_; rintro e w9 ⟨rfl, he⟩; replace he := he.symm; subst he) | fail)
        obtain ⟨i1, i2, i3, i4⟩ := unhide HI
        exact ⟨⟨k + 1, sa, sn, sc, by go_num, rfl, hide ⟨by omega, by rw [unhide HST]; exact i2, by rw [unhide HST]; exact i3, i4⟩⟩, by simp [RowKit.intOf]; omega⟩
      · have hb : y.contains z = false := by simpa using hin
        rw [if_neg hin] at hst
        clear hin
        obtain ⟨i1, i2, i3, i4⟩ := unhide HI
        obtain ⟨pa, pq, u2, hap, o2, f2, -, hnn⟩ := Own.more Try.underlying22 wr w2.heap.size _ _ sn i2 i3 z (by have h := wo_len (x.take k) y; simp only [List.length_take] at h; omega) i4.size
        rw [← hst] at o2 hnn
        have f3 : Still w2 u2 := i4.trans' f2 (fun g hg => .inr (i2.lt g hg).1)
        have HE := hide (And.intro o2 (And.intro hnn f3)); have HAP := hide hap
        clear i1 i2 i3 i4 hap o2 f2 hnn f3 hst
        go_wp2_with (first | (go_at_call 10; refine (has_vb _ _ _ _ _ (by assumption) (by assumption) (by assumption)).mono ?_; rintro e w9 ⟨rfl, he⟩; replace he := he.symm; subst he) | (at_builtin; refine wpList_append_run rfl (.tmp 46) (.tmp 51) 22 rfl _ _ rfl rfl _ u2 (unhide HAP) ?_) | fail)
        obtain ⟨o2, hnn, f3⟩ := unhide HE
        exact ⟨⟨k + 1, _, _, _, by go_num, rfl, hide ⟨by omega, o2, hnn, f3⟩⟩, by simp [RowKit.intOf]; omega⟩
    · have hlt' : ¬ (k : Int) < xn := by omega
      have HG := hide (show Own wr w2.heap.size (.slice sa sn sc) (wo x y) ∧ Still w2 wr from ⟨by have := (unhide HI).2.1; rwa [List.take_of_length_le (by have := unhide HXN; omega)] at this, (unhide HI).2.2.2⟩)
      clear HI hk hlt
      obtain ⟨gv, hgv⟩ : ∃ v, Value.slice sa sn sc = v := ⟨_, rfl⟩
      rw [hgv] at HG ⊢
      clear hgv
      generalize hw3 : wr = w3 at *
      clear hw3
      go_wp2_with fail
      go_loopw [8, 10] (fun v i wr => ∃ (k : Nat) (sa : Option Addr) (sn sc : Nat), i = iv k ∧ v = .slice sa sn sc ∧ Hid (k ≤ yn ∧ Own wr w3.heap.size (.slice sa sn sc) (wo (y.take k) x) ∧ sn = (wo (y.take k) x).length ∧ Still w3 wr)) (fun v i wr => yn - (RowKit.intOf i).toNat)
      case atStart => exact ⟨0, none, 0, 0, rfl, rfl, hide ⟨Nat.zero_le _, by simpa [wo] using Own.nil _ _, by simp [wo], Fr.refl _ _⟩⟩
      case round =>
        obtain ⟨k, sa, sn, sc, rfl, rfl, HI⟩ := hrel
        have hk := (unhide HI).1
        by_cases hlt : k < yn
        · have hlt' : (k : Int) < yn := by omega
          have hkx : k < y.length := by have := unhide HYN; omega
          have rv := (((unhide HY).1.still (unhide HG).2)).still (unhide HI).2.2.2
          obtain ⟨za', zc', ez, hzc, hzr⟩ := (((unhide HY).2.1.still (unhide HG).2)).still (unhide HI).2.2.2
          injection ez with ez1 ez2 ez3
          obtain ⟨xb, xo, ex, cx⟩ := hzr k hkx
          rw [← ez1] at ex
          subst ex
          have hst := wo_step y x hkx
          clear ez1 ez2 ez3 hzc hzr
          generalize hz : y.getD k 0 = z at *
          clear hz
          by_cases hin : z ∈ x
          · have hb : x.contains z = true := by simpa using hin
            rw [if_pos hin] at hst
            have HST := hide hst
            clear hst hin
            go_wp2_with (first | (go_at_call 10; refine (has_vb _ _ _ _ _ (by assumption) (by assumption) (by assumption)).mono ?_; rintro e w9 ⟨rfl, he⟩; replace he := he.symm; subst he) | fail)
            obtain ⟨i1, i2, i3, i4⟩ := unhide HI
            exact ⟨⟨k + 1, sa, sn, sc, by go_num, rfl, hide ⟨by omega, by rw [unhide HST]; exact i2, by rw [unhide HST]; exact i3, i4⟩⟩, by simp [RowKit.intOf]; omega⟩
          · have hb : x.contains z = false := by simpa using hin
            rw [if_neg hin] at hst
            clear hin
            obtain ⟨i1, i2, i3, i4⟩ := unhide HI
            obtain ⟨pa, pq, u2, hap, o2, f2, -, hnn⟩ := Own.more Try.underlying22 wr w3.heap.size _ _ sn i2 i3 z (by have h := wo_len (y.take k) x; simp only [List.length_take] at h; omega) i4.size
            rw [← hst] at o2 hnn
            have f3 : Still w3 u2 := i4.trans' f2 (fun g hg => .inr (i2.lt g hg).1)
            have HE := hide (And.intro o2 (And.intro hnn f3)); have HAP := hide hap
            clear i1 i2 i3 i4 hap o2 f2 hnn f3 hst
            go_wp2_with (first | (go_at_call 10; refine (has_vb _ _ _ _ _ (by assumption) (by assumption) (by assumption)).mono ?_; rintro e w9 ⟨rfl, he⟩; replace he := he.symm; subst he) | (at_builtin; refine wpList_append_run rfl (.tmp 66) (.tmp 71) 22 rfl _ _ rfl rfl _ u2 (unhide HAP) ?_) | fail)
            obtain ⟨o2, hnn, f3⟩ := unhide HE
            exact ⟨⟨k + 1, _, _, _, by go_num, rfl, hide ⟨by omega, o2, hnn, f3⟩⟩, by simp [RowKit.intOf]; omega⟩
        · have hlt' : ¬ (k : Int) < yn := by omega
          have HW := hide (show Own wr w3.heap.size (.slice sa sn sc) (wo y x) ∧ Still w3 wr from ⟨by have := (unhide HI).2.1; rwa [List.take_of_length_le (by have := unhide HYN; omega)] at this, (unhide HI).2.2.2⟩)
          clear HI hk hlt
          obtain ⟨wv, hwv⟩ : ∃ v, Value.slice sa sn sc = v := ⟨_, rfl⟩
          rw [hwv] at HW ⊢
          clear hwv
          generalize hw4 : wr = w4 at *
          clear hw4
          have f24 := still_trans (unhide HG).2 (unhide HW).2
          have rx4 := (unhide HY).1.still f24
          have ry4 := (unhide HY).2.1.still f24
          have SP := split_v _ _ x y w4 rx4 ry4 (by have := unhide HXN; omega) (by have := unhide HYN; omega) (unhide HXY).1 (unhide HXY).2
          have H4 := hide (And.intro rx4 (And.intro ((unhide HG).1.rv.still (unhide HW).2) (And.intro (unhide HW).1.rv (still_trans (unhide HY).2.2 f24))))
          have HSP := hide SP
          clear f24 rx4 ry4 SP HG HW HY HX
          go_wp2_with fail
          refine (unhide HSP).mono ?_
          rintro e w5 ⟨pv, qv, rfl, op, oq, f5⟩
          have HO1 := hide (unhide HON w5 (still_trans (unhide H4).2.2.2 f5))
          have H5 := hide (And.intro ((unhide H4).1.still f5) (And.intro ((unhide H4).2.1.still f5) (And.intro ((unhide H4).2.2.1.still f5) (And.intro op.rv (And.intro oq.rv (still_trans (unhide H4).2.2.2 f5))))))
          clear op oq f5 HSP H4 HON
          go_wp2_with fail
          refine (unhide HO1).mono ?_
          rintro e w6 ⟨onv, rfl, oon, f6⟩
          obtain ⟨rx, rg, rw', rp, rq, f05⟩ := unhide H5
          have hLB := fun (w : World) (cv : Value) (lc : List Int) (f : Still w6 w) (rc : Rv w cv lc) => (show LB w (wo x y) (wo y x) x lc pv gv qv wv onv (.slice xa xn xc) cv from ⟨(rp.still f6).still f, (rg.still f6).still f, (rq.still f6).still f, (rw'.still f6).still f, oon.rv.still f, (rx.still f6).still f, rc⟩)
          have HLB2 := @hide _ hLB
          have H6 := hide (And.intro (rx.still f6) (still_trans f05 f6))
          clear rx rg rw' rp rq f05 hLB oon f6 HO1 H5
          rw [unhide HXN]
          obtain ⟨okb, hok⟩ : ∃ b, decide (xn = la) = b := ⟨_, rfl⟩
          rw [hok]
          have HOK := hide hok
          clear hok
          go_wp2_with fail
          go_loopw [15, 16] (fun v i wr => ∃ (k : Nat) (sa : Option Addr) (sn sc : Nat), i = iv k ∧ v = .slice sa sn sc ∧ Hid (k ≤ xn ∧ Own wr w6.heap.size (.slice sa sn sc) ((x.take k).map fun v => (l.count v : Int)) ∧ sn = ((x.take k).map fun v => (l.count v : Int)).length ∧ Still w6 wr)) (fun v i wr => xn - (RowKit.intOf i).toNat)
          case atStart => exact ⟨0, none, 0, 0, rfl, rfl, hide ⟨Nat.zero_le _, by simpa using Own.nil _ _, by simp, Fr.refl _ _⟩⟩
          case round =>
            obtain ⟨k, ta, tn, tc, rfl, rfl, HI⟩ := hrel
            have hk := (unhide HI).1
            by_cases hlt : k < xn
            · have hlt' : (k : Int) < xn := by omega
              have hkx : k < x.length := by have := unhide HXN; omega
              obtain ⟨za', zc', ez, hzc, hzr⟩ := (unhide H6).1.still (unhide HI).2.2.2
              injection ez with ez1 ez2 ez3
              obtain ⟨xb, xo, ex, cx0⟩ := hzr k hkx
              rw [← ez1] at ex
              subst ex
              have ht := take_one x hkx
              clear ez1 ez2 ez3 hzc hzr
              generalize hz : x.getD k 0 = z at *
              have HTK := hide ht
              clear hz ht
              obtain ⟨w7, hw7⟩ : ∃ w7, wr = w7 := ⟨_, rfl⟩
              rw [hw7] at HI cx0 ⊢
              clear hw7
              have cx : ∀ q, (w7.drewN q).cell? ⟨xb, xo + k, none⟩ = some (.int .i64 z) := fun _ => cx0
              clear cx0
              go_wp2_with fail
              go_loopw [17, 18] (fun vn vj wq => ∃ j q : Nat, vj = iv j ∧ vn = iv ((l.take j).count z : Nat) ∧ wq = w7.drewN q ∧ j ≤ la) (fun vn vj wq => la - (RowKit.intOf vj).toNat)
              case atStart => exact ⟨0, 0, rfl, by simp, rfl, Nat.zero_le _⟩
              case round =>
                obtain ⟨j, q, rfl, rfl, rfl, hj⟩ := hrel
                by_cases hjl : j < la
                · have hjl' : (j : Int) < la := by omega
                  have hjl2 : j < l.length := by have := unhide HLA; omega
                  obtain ⟨ab, ao, ea, ca0⟩ := (unhide HRA).still (still_trans (unhide H6).2 (unhide HI).2.2.2) j hjl2
                  subst ea
                  have ca' : ∀ q, (w7.drewN q).cell? ⟨ab, ao + j, none⟩ = some (.int .i64 (l.getD j 0)) := fun _ => ca0
                  have hcs := cnt_step l z hjl2
                  have hcb : (l.take j).count z ≤ j := Nat.le_trans List.count_le_length (by simp; omega)
                  generalize hcn : (l.take j).count z = cn at *
                  have HCN := hide hcn
                  have hw9 : wrap64 ((cn : Int) + 1) = cn + 1 := by unfold wrap64; omega
                  clear ca0 hcn
                  by_cases he : l.getD j 0 = z
                  · rw [if_pos he] at hcs
                    have he' : (l.getD j 0 == z) = true := by simp only [beq_iff_eq]; exact he
                    have HCS := hide hcs
                    clear he hcs
                    generalize l.getD j 0 = u at *
                    go_wp2_with fail
                    go_quiet (fail)
                    rw [drew_add]
                    go_wp2
                    exact ⟨⟨j + 1, q + nq, by go_num, by rw [unhide HCS, hw9], rfl, by omega⟩, by simp [RowKit.intOf]; omega⟩
                  · rw [if_neg he] at hcs
                    have he' : (l.getD j 0 == z) = false := by simp only [beq_eq_false_iff_ne]; exact he
                    have HCS := hide hcs
                    clear he hcs
                    generalize l.getD j 0 = u at *
                    go_wp2_with fail
                    go_quiet (fail)
                    rw [drew_add]
                    go_wp2
                    exact ⟨⟨j + 1, q + nq, by go_num, by rw [unhide HCS, Int.add_zero], rfl, by omega⟩, by simp [RowKit.intOf]; omega⟩
                · have hjl' : ¬ (j : Int) < la := by omega
                  have hall : (l.take j).count z = l.count z := by rw [List.take_of_length_le (by have := unhide HLA; omega)]
                  rw [hall]
                  have hst : (x.take (k + 1)).map (fun v => (l.count v : Int)) = ((x.take k).map fun v => (l.count v : Int)) ++ [(l.count z : Int)] := by rw [unhide HTK, List.map_append]; rfl
                  obtain ⟨i1, i2, i3, i4⟩ := unhide HI
                  have fq : Still w7 (w7.drewN q) := (Fr.refl _ w7).drewN q
                  obtain ⟨pa, pq, u2, hap, o2, f2, -, hnn⟩ := Own.more Try.underlying22 (w7.drewN q) w6.heap.size _ _ tn (i2.still fq (fun _ _ x => x)) i3 (l.count z : Int) (by simp only [List.length_map, List.length_take] at i3; omega) i4.size
                  rw [← hst] at o2 hnn
                  have f3 : Still w6 u2 := (still_trans i4 fq).trans' f2 (fun g hg => .inr (i2.lt g hg).1)
                  have HE := hide (And.intro o2 (And.intro hnn f3)); have HAP := hide hap
                  clear i1 i2 i3 i4 hap o2 f2 hnn f3 hst hall fq
                  generalize l.count z = cz' at *
                  go_wp2_with (first | (at_builtin; refine wpList_append_run rfl (.tmp 107) (.tmp 109) 22 rfl _ _ rfl rfl _ u2 (unhide HAP) ?_) | fail)
                  obtain ⟨o2, hnn, f3⟩ := unhide HE
                  exact ⟨⟨k + 1, _, _, _, by go_num, rfl, hide ⟨by omega, o2, hnn, f3⟩⟩, by simp [RowKit.intOf]; omega⟩
            · have hlt' : ¬ (k : Int) < xn := by omega
              have HC := hide (show Own wr w6.heap.size (.slice ta tn tc) (x.map fun v => (l.count v : Int)) ∧ Still w6 wr from ⟨by have := (unhide HI).2.1; rwa [List.take_of_length_le (by have := unhide HXN; omega)] at this, (unhide HI).2.2.2⟩)
              clear HI hk hlt
              obtain ⟨cv, hcv⟩ : ∃ v, Value.slice ta tn tc = v := ⟨_, rfl⟩
              rw [hcv] at HC ⊢
              clear hcv
              generalize hw8 : wr = w8 at *
              clear hw8
              have HL0 := hide (And.intro (unhide HLB2 w8 cv _ (unhide HC).2 (unhide HC).1.rv) (still_trans (unhide H6).2 (unhide HC).2))
              have hwl1 : (wo x y).length ≤ 1000000 := Nat.le_trans (wo_len _ _) hxm
              have hwl2 : (wo y x).length ≤ 1000000 := Nat.le_trans (wo_len _ _) hym
              have hml : (x.map fun v => (l.count v : Int)).length ≤ 1000000 := by simpa using hxm
              obtain ⟨oa, oc, hov, -, -⟩ := (unhide HL0).1.on
              rw [unhide HXN] at hov
              subst hov
              clear HLB2 H6 HC
              have hl1 : okb = true → xn = la := fun h => by have := unhide HOK; rw [h] at this; simpa using this
              have hl2 : okb = false → xn ≠ la := fun h => by have := unhide HOK; rw [h] at this; simpa using this
              cases okb with
              | true =>
                have hne : ((xn : Int) != la) = false := by rw [hl1 rfl]; simp
                have heq : ((xn : Int) == la) = true := by rw [hl1 rfl]; simp
                clear hl1 hl2 HOK
                have S1 := same_vb _ _ _ _ true w8 (unhide HL0).1.p (unhide HL0).1.g hwl1 (by simp)
                go_wp2_with fail
                refine S1.mono ?_
                rintro e w9 ⟨rfl, f1⟩
                have HL1 := hide (And.intro ((unhide HL0).1.still f1) (still_trans (unhide HL0).2 f1))
                clear S1 f1 HL0
                have S2 := same_vb _ _ _ _ true w9 (unhide HL1).1.q (unhide HL1).1.wi hwl2 (by simp)
                go_wp2_with fail
                refine S2.mono ?_
                rintro e w10 ⟨rfl, f2⟩
                have HL2 := hide (And.intro ((unhide HL1).1.still f2) (still_trans (unhide HL1).2 f2))
                clear S2 f2 HL1
                have CZ := unhide HCZ w10 (unhide HL2).2
                go_wp2_with fail
                refine CZ.mono ?_
                rintro e w11 ⟨czv, rfl, oz, f3⟩
                have HL3 := hide (And.intro ((unhide HL2).1.still f3) (still_trans (unhide HL2).2 f3))
                have S4 := same_v _ _ _ _ w11 oz.rv (unhide HL3).1.c hml
                clear CZ oz f3 HL2
                have hdd : decide ((x.map fun v => (l.count v : Int)) = x.map fun v => (l.count v : Int)) = true := by simp
                rw [hdd] at S4
                clear hdd
                go_wp2_with fail
                refine S4.mono ?_
                rintro e w12 ⟨rfl, f4⟩
                have HL4 := hide (And.intro ((unhide HL3).1.still f4) (still_trans (unhide HL3).2 f4))
                clear S4 f4 HL3
                have S5 := same_vb _ _ _ _ true w12 (unhide HL4).1.on (unhide HL4).1.x hxm (by simp)
                go_wp2_with fail
                refine S5.mono ?_
                rintro e w13 ⟨rfl, f5⟩
                have HL5 := hide (And.intro ((unhide HL4).1.still f5) (still_trans (unhide HL4).2 f5))
                clear S5 f5 HL4
                have AW := awake_ok w13
                go_wp2_with fail
                refine AW.mono ?_
                rintro e wz ⟨rfl, fz⟩
                have FZ := hide (still_trans (unhide HL5).2 fz)
                clear AW fz HL5
                go_wp2
                go_ret
                exact ⟨rfl, (unhide FZ).bel⟩
              | false =>
                have hne : ((xn : Int) != la) = true := by have := hl2 rfl; simp; omega
                have heq : ((xn : Int) == la) = false := by have := hl2 rfl; simp; omega
                clear hl1 hl2 HOK
                have S1 := same_vb _ _ _ _ true w8 (unhide HL0).1.p (unhide HL0).1.g hwl1 (by simp)
                go_wp2_with fail
                refine S1.mono ?_
                rintro e w9 ⟨rfl, f1⟩
                have HL1 := hide (And.intro ((unhide HL0).1.still f1) (still_trans (unhide HL0).2 f1))
                clear S1 f1 HL0
                have S2 := same_vb _ _ _ _ true w9 (unhide HL1).1.q (unhide HL1).1.wi hwl2 (by simp)
                go_wp2_with fail
                refine S2.mono ?_
                rintro e w10 ⟨rfl, f2⟩
                have HL2 := hide (And.intro ((unhide HL1).1.still f2) (still_trans (unhide HL1).2 f2))
                clear S2 f2 HL1
                have CZ := unhide HCZ w10 (unhide HL2).2
                go_wp2_with fail
                refine CZ.mono ?_
                rintro e w11 ⟨czv, rfl, oz, f3⟩
                have HL3 := hide (And.intro ((unhide HL2).1.still f3) (still_trans (unhide HL2).2 f3))
                have S4 := same_v _ _ _ _ w11 oz.rv (unhide HL3).1.c hml
                clear CZ oz f3 HL2
                have hdd : decide ((x.map fun v => (l.count v : Int)) = x.map fun v => (l.count v : Int)) = true := by simp
                rw [hdd] at S4
                clear hdd
                go_wp2_with fail
                refine S4.mono ?_
                rintro e w12 ⟨rfl, f4⟩
                have HL4 := hide (And.intro ((unhide HL3).1.still f4) (still_trans (unhide HL3).2 f4))
                clear S4 f4 HL3
                by_cases hz : xn = 0
                · have hz' : ((xn : Int) == 0) = true := by simp [hz]
                  clear hz
                  have AW := awake_ok w12
                  go_wp2_with fail
                  refine AW.mono ?_
                  rintro e wz ⟨rfl, fz⟩
                  have FZ := hide (still_trans (unhide HL4).2 fz)
                  clear AW fz HL4
                  go_wp2
                  go_ret
                  exact ⟨rfl, (unhide FZ).bel⟩
                · have hz' : ((xn : Int) == 0) = false := by simp; omega
                  clear hz
                  have S5 := same_vb _ _ _ _ true w12 (unhide HL4).1.on (unhide HL4).1.x hxm (by simp)
                  go_wp2_with fail
                  refine S5.mono ?_
                  rintro e w13 ⟨rfl, f5⟩
                  have HL5 := hide (And.intro ((unhide HL4).1.still f5) (still_trans (unhide HL4).2 f5))
                  clear S5 f5 HL4
                  have AW := awake_ok w13
                  go_wp2_with fail
                  refine AW.mono ?_
                  rintro e wz ⟨rfl, fz⟩
                  have FZ := hide (still_trans (unhide HL5).2 fz)
                  clear AW fz HL5
                  go_wp2
                  go_ret
                  exact ⟨rfl, (unhide FZ).bel⟩
end Go.Proofs.Ytogjlengkjkiaaa
