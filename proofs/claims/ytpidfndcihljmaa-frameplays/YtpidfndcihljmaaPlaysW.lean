/- FramePlays. -/
import Derived.Test.YtpidfndcihljmaaRg
import Derived.Test.YtpidfndcihljmaaIn17
import Derived.Test.YtpidfndcihljmaaYk
namespace Go.Proofs.Ytpidfndcihljmaa
open Go.RowKit

/-- A Framer beside the document's own, both made since W, in the same state. -/
structure Py (W w : World) (f : Nat) (g : Option Nat) (b : Nat) (l : List UInt8) (lv : Bool) (sk N : Nat) : Prop where
  fs : Fs W w f g l lv sk N
  rf : Rf w b l sk lv
  good : Good l lv sk
  bf : b ≠ f
  bg : g ≠ some b
  bge : W.heap.size ≤ b
theorem Py.blt {W w : World} {f : Nat} {g : Option Nat} {b : Nat} {l : List UInt8} {lv : Bool} {sk N : Nat} (h : Py W w f g b l lv sk N) : b < w.heap.size := (Array.getElem?_eq_some_iff.1 h.rf).1
/-- A call of the one, then the same call of the other. -/
theorem Py.both {W w w1 w2 : World} {f : Nat} {g g1 : Option Nat} {b : Nat} {l l1 : List UInt8} {lv lv1 : Bool} {sk N sk1 N1 : Nat} (h : Py W w f g b l lv sk N) (x : Fx w w1 f g l1 lv1 sk1 N1 g1) (r : Rf w2 b l1 sk1 lv1) (fr : Fr (fun k => k = b) w1 w2) (hg : Good l1 lv1 sk1) : Py W w2 f g1 b l1 lv1 sk1 N1 := by
  have h1 := h.fs.step x
  have hb1 : g1 ≠ some b := fun e => by
    rcases x.ng b e with e2 | e2
    · exact h.bg e2
    · have := h.blt; omega
  exact ⟨⟨h1.fm.on fr (fun e => h.bf e.symm) (fun k e e2 => hb1 (e2 ▸ e)), h1.st.trans' fr (fun k e => .inr (e ▸ h.bge)), h1.fge, h1.gge⟩, r, hg, h.bf, hb1, h.bge⟩
theorem Py.rf1 {W w w1 : World} {f : Nat} {g g1 : Option Nat} {b : Nat} {l l1 : List UInt8} {lv lv1 : Bool} {sk N sk1 N1 : Nat} (h : Py W w f g b l lv sk N) (x : Fx w w1 f g l1 lv1 sk1 N1 g1) : Rf w1 b l sk lv :=
  h.rf.on x.fr (fun e => by rcases e with e | e; exact h.bf e; exact h.bg e)
theorem Py.still {W w w1 : World} {f : Nat} {g : Option Nat} {b : Nat} {l : List UInt8} {lv : Bool} {sk N : Nat} (h : Py W w f g b l lv sk N) (s : Still w w1) : Py W w1 f g b l lv sk N :=
  ⟨h.fs.still s, h.rf.on s (fun e => e), h.good, h.bf, h.bg, h.bge⟩
theorem Py.drewN {W w : World} {f : Nat} {g : Option Nat} {b : Nat} {l : List UInt8} {lv : Bool} {sk N : Nat} (h : Py W w f g b l lv sk N) (q : Nat) : Py W (w.drewN q) f g b l lv sk N := h.still ((Fr.refl _ w).drewN q)
theorem Py.more {W w : World} {f : Nat} {g : Option Nat} {b : Nat} {l : List UInt8} {lv : Bool} {sk N N' : Nat} (h : Py W w f g b l lv sk N) (hN : N ≤ N') : Py W w f g b l lv sk N' :=
  ⟨⟨h.fs.fm.more hN, h.fs.st, h.fs.fge, h.fs.gge⟩, h.rf, h.good, h.bf, h.bg, h.bge⟩
/-- A block beside them has turned. -/
theorem Py.aside {W w w1 : World} {f : Nat} {g : Option Nat} {b ob : Nat} {l : List UInt8} {lv : Bool} {sk N : Nat} (h : Py W w f g b l lv sk N) (s : Fr (fun j => j = ob) w w1) (hof : ob ≠ f) (hob : ob ≠ b) (hog : g ≠ some ob) (hW : W.heap.size ≤ ob) : Py W w1 f g b l lv sk N :=
  ⟨⟨h.fs.fm.on s (fun e => hof e.symm) (fun _k e e2 => hog (e2 ▸ e)), h.fs.st.trans' s (fun _j e => .inr (e ▸ hW)), h.fs.fge, h.fs.gge⟩, h.rf.on s (fun e => hob e.symm), h.good, h.bf, h.bg, h.bge⟩
theorem line_good (l : List UInt8) (lv : Bool) (sk : Nat) (h : Good l lv sk) : Good (lineR l lv).2.1 (lineR l lv).2.2 sk := by
  rcases nl_split l with hn | ⟨a, r, rfl, ha, _⟩
  · rw [lineR_none l lv hn]
    by_cases h8 : 258 ≤ l.length
    · rw [if_pos h8]; exact ⟨fun _ => rfl, fun _ => rfl⟩
    · rw [if_neg h8]; exact h
  · rw [lineR_app a r lv ha]
    exact ⟨fun e => by have := h.1 e; simp at this, fun e => by have := h.2 e; simp at this⟩
theorem pay_good (l : List UInt8) (lv : Bool) (sk k : Nat) (h : Good l lv sk) : Good (l.drop k) lv sk := ⟨fun e => by rw [h.1 e]; simp, fun e => by rw [h.2 e]; simp⟩
set_option maxRecDepth 100000 in
set_option maxHeartbeats 8000000 in
theorem plays_ok (a : Option Addr) (len cap : Nat) (z : Nat → Op17) (W : World) (hZ : OpsAt W a len z) (hlm : len ≤ maxLen) : Calls Try.prog 6 #[.slice a len cap] W fun e w' => e = .returned (.bool true) ∧ Below W.heap.size W w' := by
  have HZ := hide hZ
  have hlm2 : len ≤ 9223372036854775807 := by unfold maxLen at hlm; omega
  clear hZ hlm
  go_enter Try.func6, Try.ntmps6
  go_wp2_with fail
  refine (new_ok W).mono ?_
  rintro e w1 ⟨rfl, m1, s1⟩
  have F1 := Fs.new (Fr.refl _ W) s1 m1
  have hfb : W.heap.size < w1.heap.size := F1.fm.lt.1
  have hP : Py W (w1.alloc (.cells #[.string ⟨#[]⟩, .int .i64 0, .bool false] 41)) W.heap.size none w1.heap.size [] false 0 0 :=
    ⟨F1.still ((Fr.refl _ w1).alloc _), heap_alloc_new w1 _, ⟨fun _ => rfl, fun _ => rfl⟩, by omega, (fun e => by cases e), by omega⟩
  have HP := hide hP
  generalize hb : w1.heap.size = b at *
  generalize hf : W.heap.size = f at *
  clear m1 s1 F1 hP
  go_wp2_with fail
  refine (awake_ok _).mono ?_
  rintro e w2 ⟨rfl, s2⟩
  have HP2 := hide ((unhide HP).still s2)
  clear HP s2
  go_wp2_with fail
  go_loopw [5] (fun i wr => ∃ (k : Nat) (l : List UInt8) (lv : Bool) (sk : Nat) (g : Option Nat), i = iv k ∧ Hid (k ≤ 60 ∧ sk ≤ 1099511627776 * k ∧ Py W wr f g b l lv sk (3000 * k))) (fun i wr => 60 - (RowKit.intOf i).toNat)
  case atStart => exact ⟨0, [], false, 0, none, rfl, hide ⟨by omega, by omega, unhide HP2⟩⟩
  case round =>
    obtain ⟨k, l, lv, sk, g, rfl, HI⟩ := hrel
    have hk60 := (unhide HI).1
    have hsk := (unhide HI).2.1
    by_cases h1 : k < len
    · have h1' : (k : Int) < len := by omega
      by_cases h2 : k < 60
      · have h2' : (k : Int) < 60 := by omega
        obtain ⟨⟨xb, xo, e, d0, d1, d2⟩, hsl, hdl⟩ := unhide HZ k h1
        subst e
        have hst := (unhide HI).2.2.fs.st
        have d0 := hst.cell' d0 (fun x => x)
        have d1 := hst.cell' d1 (fun x => x)
        have d2 := hst.cell' d2 (fun x => x)
        generalize hz : z k = op at *
        obtain ⟨kd, n, da, dl, dc, dm⟩ := op
        simp only at d0 d1 d2 hsl hdl
        clear hst
        obtain ⟨w3, hw3⟩ : ∃ w3, w3 = wr.alloc (.cells #[.int .i64 kd, .int .i64 n, .slice da dl dc] 43) := ⟨_, rfl⟩
        obtain ⟨ob, hob⟩ : ∃ ob, wr.heap.size = ob := ⟨_, rfl⟩
        have hP := (unhide HI).2.2
        have s3 : Still wr w3 := by rw [hw3]; exact (Fr.refl _ wr).alloc _
        have o3 : w3.heap[ob]? = some (.cells #[.int .i64 kd, .int .i64 n, .slice da dl dc] 43) := by rw [hw3, ← hob]; exact heap_alloc_new wr _
        have hobf : f < ob := by rw [← hob]; exact hP.fs.fm.lt.1
        have hobb : b < ob := by rw [← hob]; exact hP.blt
        have hobg : ∀ j, g = some j → j < ob := fun j e => by rw [← hob]; exact hP.fs.fm.lt.2 j e
        have HP3 := hide (hP.still s3)
        have hob3 : ob < w3.heap.size := (Array.getElem?_eq_some_iff.1 o3).1
        have HO := hide o3
        have HW3 := hide hw3
        have HSL := hide hsl
        have hdl2 : dl ≤ 9223372036854775807 := by unfold maxLen at hdl; omega
        clear hP s3 o3 hw3 hsl hdl HI
        go_upto_region 9 with fail
        rw [← unhide HW3]
        clear d0 d1 d2 HW3
        have d0 : w3.cell? ⟨ob, 0, none⟩ = some (.int .i64 kd) := cell_of_obj (unhide HO) 0
        have d1 : w3.cell? ⟨ob, 1, none⟩ = some (.int .i64 n) := cell_of_obj (unhide HO) 1
        have d2 : w3.cell? ⟨ob, 2, none⟩ = some (.slice da dl dc) := cell_of_obj (unhide HO) 2
        by_cases k0 : kd = 0
        · have k0' : (kd == 0) = true := by simp [k0]
          clear k0
          by_cases h3 : (3000 : Int) < dl
          · go_wp2_with fail
            go_ret
            have h9 := (unhide HP3).fs.st
            exact ⟨rfl, h9.below (by omega) (fun _ h => h.elim)⟩
          · have h3' : dl ≤ 3000 := by omega
            obtain ⟨w4, hw4⟩ : ∃ w4, w4 = w3.alloc (.cells #[] 5) := ⟨_, rfl⟩
            obtain ⟨nb, hnb⟩ : ∃ nb, w3.heap.size = nb := ⟨_, rfl⟩
            have s4 : Still w3 w4 := by rw [hw4]; exact (Fr.refl _ w3).alloc _
            have own4 : Own w4 nb (.slice (some ⟨nb, 0, none⟩) 0 0) [] := by rw [hw4, ← hnb]; exact Own.built w3 [] 0 rfl (by decide)
            have sl4 : Sl w4 da dl dc dm := ((unhide HSL).still (unhide HP3).fs.st).still s4
            obtain ⟨v', w5, hap, o5, r5, b5⟩ := run_cat w4 nb _ [] own4 da dl dc dm sl4.rd sl4.len (fun e => by have := sl4.nil e; have := sl4.le; omega) (by have := sl4.len; simp; omega) (by have := s4.size; omega)
            rw [List.nil_append] at o5
            obtain ⟨oa, oc, rfl, sl5, bl5, fo5⟩ := o5.sl2
            rw [← sl4.len] at sl5 hap o5
            have s5 : Still w3 w5 := s4.trans' r5 (fun j e => .inr (by
              have : nb = j := by simpa [Value.ownBlock] using e
              omega))
            have P5 := (unhide HP3).still s5
            have hoc := sl5.le
            have KF := hide (feed_ok P5.fs.fm oa dl oc dm sl5 (by omega) (by omega) (fun x e h0 => by have := (bl5 x e).1; omega) (fun _ => fo5))
            have HAP := hide hap
            have HP5 := hide P5
            have HO5 := hide o5
            have HW4 := hide hw4
            have HBL := hide bl5
            have HD2 := hide (s5.obj (unhide HO) (fun e => e))
            have HDL := hide sl4.len
            have hnbo : ob < nb := by omega
            clear hw4 s4 own4 sl4 hap o5 r5 b5 sl5 bl5 fo5 s5 P5
            go_upto_region 18 with fail
            go_wp2_with (at_builtin; rw [← unhide HW4]; refine wpList_append_run rfl (.tmp 62) (.tmp 64) 26 rfl _ _ rfl rfl _ w5 (unhide HAP) ?_)
            refine (unhide KF).mono ?_
            rintro e w6 ⟨rfl, g6, x6⟩
            have hng6 : ∀ j, g6 = some j → g = some j ∨ w5.heap.size ≤ j := x6.ng
            have HX6 := hide x6
            have d26 : w6.cell? ⟨ob, 2, none⟩ = some (.slice da dl dc) := cell_of_obj (x6.fr.obj (unhide HD2) (fun e => by rcases e with e | e; omega; have := hobg _ e; omega)) 2
            have st6 : Still W w6 := ((unhide HP5).fs.step x6).st
            have hcv := conv_rd w6 da dl dc dm (unhide HDL) ((unhide HSL).still st6).rd
            obtain ⟨hdf, hgd⟩ := drop_feed l lv sk dm (unhide HP5).good
            have KR := hide (rfeed_ok ((unhide HP5).rf1 x6) dm (by have := (unhide HP5).fs.fm.len; have := unhide HDL; omega) (by omega))
            rw [hdf] at KR
            have HGD := hide hgd
            have hskf : (feedR l lv sk dm).2.2 ≤ sk := by
              unfold feedR
              split
              · split <;> simp
              · simp
            clear KF x6 hdf hgd st6 HAP
            obtain ⟨FR, hFR⟩ : ∃ FR, feedR l lv sk dm = FR := ⟨_, rfl⟩
            rw [hFR] at HX6 KR HGD hskf
            clear hFR
            obtain ⟨l1, lv1, sk1⟩ := FR
            simp only at hskf
            go_wp2_with fail
            refine (unhide KR).mono ?_
            rintro e w7 ⟨rfl, r7, f7⟩
            have HP7 := hide ((unhide HP5).both (unhide HX6) r7 f7 (unhide HGD))
            have own7 : Own w7 nb (.slice oa dl oc) dm := by
              have o5 := unhide HO5
              have o6 : Own w6 nb (.slice oa dl oc) dm := o5.still (unhide HX6).fr (fun j e => by
                have hj := (o5.lt j e).1
                intro h; rcases h with h | h
                · omega
                · have := hobg _ h; omega)
              exact o6.still f7 (fun j e h => by
                have hj := (o6.lt j e).1
                omega)
            have HO7 := hide own7
            have hg6 : ∀ j, (Value.slice oa dl oc).ownBlock = some j → g6 ≠ some j := fun j e e2 => by
              have o5 := unhide HO5
              rcases hng6 j e2 with h | h
              · have := hobg _ h
                have := (o5.lt j e).1
                omega
              · have := (o5.lt j e).2; omega
            have HG6 := hide hg6
            clear KR r7 f7 own7 hg6 hng6 hcv d26 HP5 HX6 HO5
            go_wp2_with fail
            go_loopw [9] (fun i wq => ∃ (t : Nat) (L : List UInt8), i = iv t ∧ Hid (t ≤ dl ∧ L.length = dl ∧ Own wq nb (.slice oa dl oc) L ∧ Py W wq f g6 b l1 lv1 sk1 (3000 * k + dl))) (fun i wq => dl - (RowKit.intOf i).toNat)
            case atStart => exact ⟨0, dm, rfl, hide ⟨by omega, (unhide HDL).symm, unhide HO7, unhide HP7⟩⟩
            case round =>
              obtain ⟨t, L, rfl, HI⟩ := hrel
              obtain ⟨j1, j2, j3, j4⟩ := unhide HI
              by_cases htl : t < dl
              · have htl' : (t : Int) < dl := by omega
                obtain ⟨oa2, oc2, e, sl8, bl8, fo8⟩ := j3.sl2
                rw [j2] at e
                cases e
                obtain ⟨xb, xo, e, c0⟩ := sl8.rd t (by omega)
                subst e
                have hxo : xo = 0 := by
                  rcases j3.form with ⟨e, _⟩ | ⟨gg, cc, e, _⟩
                  · cases e
                  · cases e; rfl
                subst hxo
                rw [Nat.zero_add] at c0
                have z0 := j3.at.2.2.2.2.2 t
                obtain ⟨x, hx⟩ : ∃ x, L.getD t 0 = x := ⟨_, rfl⟩
                rw [hx] at c0
                have HJ := hide (And.intro j2 (And.intro j3 j4))
                have hxb := j3.at.2.2.1
                clear HI j2 j3 j4 sl8 bl8 fo8 hx
                go_wp2_with fail
                obtain ⟨q2, q3, q4⟩ := unhide HJ
                have e8 : Value.int .u8 (((x.toNat : Int) + 1) % 256) = bv (x + 1) := by simp [bv, UInt8.toNat_add]
                rw [e8]
                exact ⟨⟨t + 1, L.set t (x + 1), by go_num, hide ⟨by omega, by rw [List.length_set]; exact q2, q3.set t (x + 1), q4.aside ((Fr.refl (fun j => j = xb) wr).setCell (.inl rfl) _) (by omega) (by omega) (unhide HG6 xb rfl) (by omega)⟩⟩, by simp [RowKit.intOf]; omega⟩
              · have htl' : ¬ (t : Int) < dl := by omega
                have HP9 := hide j4
                clear HI j2 j3 j4
                have hlN : l1.length ≤ 100000000 := by have := (unhide HP9).fs.fm.len; omega
                have KW := hide (fun q => waiting_ok ((unhide HP9).fs.fm.drewN q) (by omega))
                have b0 : ∀ q, (wr.drewN q).cell? ⟨b, 0, none⟩ = some (sv l1) := fun _ => (unhide HP9).rf.cells.1
                obtain ⟨wl, hwl⟩ : ∃ wl, l1.length = wl := ⟨_, rfl⟩
                have hszl : (bs l1).size = wl := by rw [bs_size]; exact hwl
                rw [hwl] at KW hlN
                clear hwl
                go_upto_region 33 with fail
                go_quiet (first | (go_at_call 13; exact Calls.quiet_of (unhide KW _)))
                go_wp2_with fail
                exact ⟨⟨k + 1, l1, lv1, sk1, g6, by go_num, hide ⟨by omega, by omega, ((unhide HP9).drewN _).more (by omega)⟩⟩, by simp [RowKit.intOf]; omega⟩
        · have k0' : (kd == 0) = false := by simp [k0]
          clear k0
          by_cases k1 : kd = 1
          · have k1' : (kd == 1) = true := by simp [k1]
            clear k1
            have KL := hide (line_ok (unhide HP3).fs.fm (by omega))
            go_wp2_with fail
            refine (unhide KL).mono ?_
            rintro e w4 ⟨rfl, g4, x4⟩
            have HX := hide x4
            have KR := hide (rline_ok ((unhide HP3).rf1 x4) (by have := (unhide HP3).fs.fm.len; omega) (by omega) (unhide HP3).good)
            have HGD := hide (line_good l lv sk (unhide HP3).good)
            clear KL x4
            obtain ⟨LR, hLR⟩ : ∃ LR, lineR l lv = LR := ⟨_, rfl⟩
            rw [hLR] at KR HX HGD ⊢
            clear hLR
            obtain ⟨⟨s, ok, c⟩, l1, lv1⟩ := LR
            go_wp2_with fail
            refine (unhide KR).mono ?_
            rintro e w5 ⟨rfl, r5, f5⟩
            have HP9 := hide ((unhide HP3).both (unhide HX) r5 f5 (unhide HGD))
            clear KR r5 f5
            have hlN : l1.length ≤ 100000000 := by have := (unhide HP9).fs.fm.len; omega
            have KW := hide (fun q => waiting_ok ((unhide HP9).fs.fm.drewN q) (by omega))
            have b0 : ∀ q, (w5.drewN q).cell? ⟨b, 0, none⟩ = some (sv l1) := fun _ => (unhide HP9).rf.cells.1
            obtain ⟨wl, hwl⟩ : ∃ wl, l1.length = wl := ⟨_, rfl⟩
            have hszl : (bs l1).size = wl := by rw [bs_size]; exact hwl
            rw [hwl] at KW hlN
            clear hwl
            go_upto_region 33 with fail
            go_quiet (first | (go_at_call 13; exact Calls.quiet_of (unhide KW _)))
            go_wp2_with fail
            exact ⟨⟨k + 1, l1, lv1, sk, g4, by go_num, hide ⟨by omega, by omega, ((unhide HP9).drewN _).more (by omega)⟩⟩, by simp [RowKit.intOf]; omega⟩
          · have k1' : (kd == 1) = false := by simp [k1]
            clear k1
            by_cases k2 : kd = 2
            · have k2' : (kd == 2) = true := by simp [k2]
              clear k2
              have KP := hide (payload_ok (unhide HP3).fs.fm (by omega) n)
              by_cases hln : l.length ≤ n.toNat
              · have HLN := hide hln
                clear hln
                go_wp2_with fail
                refine (unhide KP).mono ?_
                rintro e w4 ⟨p1, _⟩
                obtain ⟨rfl, x4⟩ := p1 (unhide HLN)
                have HX := hide x4
                have KR := hide (rpayload_ok ((unhide HP3).rf1 x4) n (by have := (unhide HP3).fs.fm.len; omega) (by omega) (unhide HP3).good)
                have d14 : w4.cell? ⟨ob, 1, none⟩ = some (.int .i64 n) := cell_of_obj (x4.fr.obj (unhide HO) (fun e => by rcases e with e | e; omega; have := hobg _ e; omega)) 1
                clear KP x4 p1
                go_wp2_with fail
                refine (unhide KR).mono ?_
                rintro e w5 ⟨p1, _, f5⟩
                obtain ⟨rfl, r5⟩ := p1 (unhide HLN)
                have HP9 := hide ((unhide HP3).both (unhide HX) r5 f5 (unhide HP3).good)
                have hcv := conv_rd w5 none 0 0 [] rfl (Rd.nil _ _)
                clear KR r5 f5 p1
                have hlN : l.length ≤ 100000000 := by have := (unhide HP9).fs.fm.len; omega
                have KW := hide (fun q => waiting_ok ((unhide HP9).fs.fm.drewN q) (by omega))
                have b0 : ∀ q, (w5.drewN q).cell? ⟨b, 0, none⟩ = some (sv l) := fun _ => (unhide HP9).rf.cells.1
                obtain ⟨wl, hwl⟩ : ∃ wl, l.length = wl := ⟨_, rfl⟩
                have hszl : (bs l).size = wl := by rw [bs_size]; exact hwl
                rw [hwl] at KW hlN
                clear hwl
                go_upto_region 33 with fail
                go_quiet (first | (go_at_call 13; exact Calls.quiet_of (unhide KW _)))
                go_wp2_with fail
                exact ⟨⟨k + 1, l, lv, sk, g, by go_num, hide ⟨by omega, by omega, ((unhide HP9).drewN _).more (by omega)⟩⟩, by simp [RowKit.intOf]; omega⟩
              · have HLN := hide (show n.toNat < l.length by omega)
                clear hln
                go_wp2_with fail
                refine (unhide KP).mono ?_
                rintro e w4 ⟨_, p1⟩
                obtain ⟨pa, pc, g4, rfl, rd4, x4, bl4⟩ := p1 (unhide HLN)
                have HX := hide x4
                have KR := hide (rpayload_ok ((unhide HP3).rf1 x4) n (by have := (unhide HP3).fs.fm.len; omega) (by omega) (unhide HP3).good)
                have d14 : w4.cell? ⟨ob, 1, none⟩ = some (.int .i64 n) := cell_of_obj (x4.fr.obj (unhide HO) (fun e => by rcases e with e | e; omega; have := hobg _ e; omega)) 1
                have HRD := hide (And.intro rd4 bl4)
                clear KP x4 p1 rd4 bl4
                go_wp2_with fail
                refine (unhide KR).mono ?_
                rintro e w5 ⟨_, p1, f5⟩
                obtain ⟨rfl, r5⟩ := p1 (unhide HLN)
                have HP9 := hide ((unhide HP3).both (unhide HX) r5 f5 (pay_good l lv sk _ (unhide HP3).good))
                have hcv := conv_rd w5 pa n.toNat pc (l.take n.toNat) (by rw [List.length_take]; have := unhide HLN; omega) ((unhide HRD).1.on f5 (fun b9 o9 e h => by have := (unhide HRD).2 b9 o9 e; omega))
                clear KR r5 f5 p1
                generalize l.take n.toNat = V at *
                obtain ⟨l1, hl1⟩ : ∃ l1, l.drop (plN l n.toNat) = l1 := ⟨_, rfl⟩
                rw [hl1] at HP9
                have hlN : l1.length ≤ 100000000 := by have := (unhide HP9).fs.fm.len; omega
                have KW := hide (fun q => waiting_ok ((unhide HP9).fs.fm.drewN q) (by omega))
                have b0 : ∀ q, (w5.drewN q).cell? ⟨b, 0, none⟩ = some (sv l1) := fun _ => (unhide HP9).rf.cells.1
                obtain ⟨wl, hwl⟩ : ∃ wl, l1.length = wl := ⟨_, rfl⟩
                have hszl : (bs l1).size = wl := by rw [bs_size]; exact hwl
                rw [hwl] at KW hlN
                clear hwl
                go_upto_region 33 with fail
                go_quiet (first | (go_at_call 13; exact Calls.quiet_of (unhide KW _)))
                go_wp2_with fail
                exact ⟨⟨k + 1, l1, lv, sk, g4, by go_num, hide ⟨by omega, by omega, ((unhide HP9).drewN _).more (by omega)⟩⟩, by simp [RowKit.intOf]; omega⟩
            · have k2' : (kd == 2) = false := by simp [k2]
              clear k2
              by_cases hbig : (1099511627776 : Int) < n
              · go_wp2_with fail
                go_ret
                have h9 := (unhide HP3).fs.st
                exact ⟨rfl, h9.below (by omega) (fun _ h => h.elim)⟩
              · have KS := hide (skip_ok (unhide HP3).fs.fm (by omega) n (by omega))
                go_wp2_with fail
                refine (unhide KS).mono ?_
                rintro e w4 ⟨rfl, g4, x4⟩
                have HX := hide x4
                obtain ⟨hds, hgd⟩ := drop_skip l lv sk n.toNat (unhide HP3).good
                have KR := hide (rskip_ok ((unhide HP3).rf1 x4) n (by have := (unhide HP3).fs.fm.len; omega) (by omega) (by omega))
                rw [hds] at KR
                have HGD := hide hgd
                have d14 : w4.cell? ⟨ob, 1, none⟩ = some (.int .i64 n) := cell_of_obj (x4.fr.obj (unhide HO) (fun e => by rcases e with e | e; omega; have := hobg _ e; omega)) 1
                have hsk4 : sk + (n.toNat - l.length) ≤ 1099511627776 * (k + 1) := by omega
                clear KS x4 hds hgd
                generalize l.drop n.toNat = l1 at *
                generalize sk + (n.toNat - l.length) = sk1 at *
                go_wp2_with fail
                refine (unhide KR).mono ?_
                rintro e w5 ⟨rfl, r5, f5⟩
                have HP9 := hide ((unhide HP3).both (unhide HX) r5 f5 (unhide HGD))
                clear KR r5 f5
                have hlN : l1.length ≤ 100000000 := by have := (unhide HP9).fs.fm.len; omega
                have KW := hide (fun q => waiting_ok ((unhide HP9).fs.fm.drewN q) (by omega))
                have b0 : ∀ q, (w5.drewN q).cell? ⟨b, 0, none⟩ = some (sv l1) := fun _ => (unhide HP9).rf.cells.1
                obtain ⟨wl, hwl⟩ : ∃ wl, l1.length = wl := ⟨_, rfl⟩
                have hszl : (bs l1).size = wl := by rw [bs_size]; exact hwl
                rw [hwl] at KW hlN
                clear hwl
                go_upto_region 33 with fail
                go_quiet (first | (go_at_call 13; exact Calls.quiet_of (unhide KW _)))
                go_wp2_with fail
                exact ⟨⟨k + 1, l1, lv, sk1, g4, by go_num, hide ⟨by omega, by omega, ((unhide HP9).drewN _).more (by omega)⟩⟩, by simp [RowKit.intOf]; omega⟩
      · have h2' : ¬ (k : Int) < 60 := by omega
        have hst := (unhide HI).2.2.fs.st
        have HST := hide hst
        clear hst
        go_wp2_with fail
        go_ret
        exact ⟨rfl, (unhide HST).below (by omega) (fun _ h => h.elim)⟩
    · have h1' : ¬ (k : Int) < len := by omega
      have hst := (unhide HI).2.2.fs.st
      have HST := hide hst
      clear hst
      go_wp2_with fail
      go_ret
      exact ⟨rfl, (unhide HST).below (by omega) (fun _ h => h.elim)⟩
end Go.Proofs.Ytpidfndcihljmaa
