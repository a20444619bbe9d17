/- MarkParts. -/
import Derived.Test.YtogjlengkjkiaaaLv
import Derived.Test.YtogjlengkjkiaaaIn
namespace Go.Proofs.Ytogjlengkjkiaaa
open Go.RowKit

/-- The places of what is true, ahead of n. -/
def idx (zs : Nat → Bool) : Nat → List Int
  | 0 => []
  | n + 1 => if zs n then idx zs n ++ [(n : Int)] else idx zs n
theorem idx_lt (zs : Nat → Bool) : ∀ n, ∀ x ∈ idx zs n, x < (n : Int)
  | 0, x, h => by simp [idx] at h
  | n + 1, x, h => by
    unfold idx at h
    split at h
    · rcases List.mem_append.1 h with h | h
      · have := idx_lt zs n x h; omega
      · simp at h; omega
    · have := idx_lt zs n x h; omega
theorem idx_rise (zs : Nat → Bool) : ∀ n, (idx zs n).Pairwise (· < ·)
  | 0 => by simp [idx]
  | n + 1 => by
    unfold idx
    split
    · rw [List.pairwise_append]
      exact ⟨idx_rise zs n, by simp, fun x hx y hy => by simp at hy; have := idx_lt zs n x hx; omega⟩
    · exact idx_rise zs n
theorem idx_len (zs : Nat → Bool) : ∀ n, (idx zs n).length ≤ n
  | 0 => by simp [idx]
  | n + 1 => by
    unfold idx
    have := idx_len zs n
    split
    · simp; omega
    · omega

set_option maxRecDepth 100000 in
set_option maxHeartbeats 4000000 in
theorem parts_ok (a b : Option Addr) (la ca lb cb : Nat) (W : World) (za zb : Nat → Bool) (ha : Bools W a la za) (hb : Bools W b lb zb) :
    Calls Try.prog 4 #[.slice a la ca, .slice b lb cb] W fun e w' => e = .returned (.bool true) ∧ Below W.heap.size W w' := by
  have HA := hide ha; have HB := hide hb
  clear ha hb
  go_enter Try.func4, Try.ntmps4
  go_wp2
  go_loopw [5, 7] (fun v i wr => ∃ (k : Nat) (sa : Option Addr) (sn sc : Nat), i = iv k ∧ v = .slice sa sn sc ∧ Hid (k ≤ 50 ∧ k ≤ la ∧ Own wr W.heap.size (.slice sa sn sc) (idx za k) ∧ sn = (idx za k).length ∧ Still W wr)) (fun v i wr => la - (RowKit.intOf i).toNat)
  case atStart => exact ⟨0, none, 0, 0, rfl, rfl, hide ⟨by omega, by omega, Own.nil _ _, rfl, Fr.refl _ _⟩⟩
  case round =>
    obtain ⟨k, sa, sn, sc, rfl, rfl, HI⟩ := hrel
    have hk := (unhide HI).1
    have hka := (unhide HI).2.1
    by_cases hlt : k < la
    · have hlt' : (k : Int) < la := by omega
      by_cases h50 : k < 50
      · have h50' : (k : Int) < 50 := by omega
        obtain ⟨xb, xo, rfl, c0⟩ := unhide HA k hlt
        have c := (unhide HI).2.2.2.2.cell' c0 (fun x => x)
        clear c0
        cases hz : za k with
        | false =>
          rw [hz] at c
          have HZ := hide hz
          clear hz
          go_wp2
          obtain ⟨i1, i2, i3, i4, i5⟩ := unhide HI
          have e : idx za (k + 1) = idx za k := by show (if za k then _ else _) = _; rw [unhide HZ]; rfl
          exact ⟨⟨k + 1, sa, sn, sc, by go_num, rfl, hide ⟨by omega, by omega, by rw [e]; exact i3, by rw [e]; exact i4, i5⟩⟩, by simp [RowKit.intOf]; omega⟩
        | true =>
          rw [hz] at c
          have e : idx za (k + 1) = idx za k ++ [(k : Int)] := by
            show (if za k then _ else _) = _
            rw [hz]; rfl
          obtain ⟨i1, i2, i3, i4, i5⟩ := unhide HI
          obtain ⟨pa, pq, w2, hap, o2, f2, hb2, hnn⟩ := Own.more Try.underlying22 wr W.heap.size _ _ sn i3 i4 (k : Int) (by have := idx_len za k; omega) i5.size
          rw [← e] at o2 hnn
          have f3 : Still W w2 := i5.trans' f2 (fun g hg => .inr (i3.lt g hg).1)
          have HE := hide (And.intro o2 (And.intro f3 hnn)); have HAP := hide hap
          clear hz e i1 i2 i3 i4 i5 hap o2 f2 hb2 hnn f3
          go_wp2_with (first | (at_builtin; refine wpList_append_run rfl (.tmp 28) (.tmp 30) 22 rfl _ _ rfl rfl _ w2 (unhide HAP) ?_) | fail)
          obtain ⟨o2, f3, hnn⟩ := unhide HE
          exact ⟨⟨k + 1, _, _, _, by go_num, rfl, hide ⟨by omega, by omega, o2, hnn, f3⟩⟩, by simp [RowKit.intOf]; omega⟩
      · have h50' : ¬ (k : Int) < 50 := by omega
        have HX := hide (And.intro (unhide HI).2.2.1 (And.intro (unhide HI).2.2.2.1 (unhide HI).2.2.2.2))
        have HKX := hide hk
        clear HI hka hlt
        generalize k = kx at *
        generalize wr = wx at *
        go_wp2
        go_loopw [6, 8] (fun v i wr => ∃ (k : Nat) (sb : Option Addr) (sm sd : Nat), i = iv k ∧ v = .slice sb sm sd ∧ Hid (k ≤ 50 ∧ k ≤ lb ∧ Own wr wx.heap.size (.slice sb sm sd) (idx zb k) ∧ sm = (idx zb k).length ∧ Still wx wr)) (fun v i wr => lb - (RowKit.intOf i).toNat)
        case atStart => exact ⟨0, none, 0, 0, rfl, rfl, hide ⟨by omega, by omega, Own.nil _ _, rfl, Fr.refl _ _⟩⟩
        case round =>
          obtain ⟨k, sb, sm, sd, rfl, rfl, HI⟩ := hrel
          have hk := (unhide HI).1
          have hka := (unhide HI).2.1
          by_cases hlt : k < lb
          · have hlt' : (k : Int) < lb := by omega
            by_cases h50 : k < 50
            · have h50' : (k : Int) < 50 := by omega
              obtain ⟨xb, xo, rfl, c0⟩ := unhide HB k hlt
              have c := (unhide HI).2.2.2.2.cell' ((unhide HX).2.2.cell' c0 (fun x => x)) (fun x => x)
              clear c0
              cases hz : zb k with
              | false =>
                rw [hz] at c
                have HZ := hide hz
                clear hz
                go_wp2
                obtain ⟨i1, i2, i3, i4, i5⟩ := unhide HI
                have e : idx zb (k + 1) = idx zb k := by show (if zb k then _ else _) = _; rw [unhide HZ]; rfl
                exact ⟨⟨k + 1, sb, sm, sd, by go_num, rfl, hide ⟨by omega, by omega, by rw [e]; exact i3, by rw [e]; exact i4, i5⟩⟩, by simp [RowKit.intOf]; omega⟩
              | true =>
                rw [hz] at c
                have e : idx zb (k + 1) = idx zb k ++ [(k : Int)] := by
                  show (if zb k then _ else _) = _
                  rw [hz]; rfl
                obtain ⟨i1, i2, i3, i4, i5⟩ := unhide HI
                obtain ⟨pa, pq, w2, hap, o2, f2, hb2, hnn⟩ := Own.more Try.underlying22 wr wx.heap.size _ _ sm i3 i4 (k : Int) (by have := idx_len zb k; omega) i5.size
                rw [← e] at o2 hnn
                have f3 : Still wx w2 := i5.trans' f2 (fun g hg => .inr (i3.lt g hg).1)
                have HE := hide (And.intro o2 (And.intro f3 hnn)); have HBP := hide hap
                clear hz e i1 i2 i3 i4 i5 hap o2 f2 hb2 hnn f3
                go_wp2_with (first | (at_builtin; refine wpList_append_run rfl (.tmp 46) (.tmp 48) 22 rfl _ _ rfl rfl _ w2 (unhide HBP) ?_) | fail)
                obtain ⟨o2, f3, hnn⟩ := unhide HE
                exact ⟨⟨k + 1, _, _, _, by go_num, rfl, hide ⟨by omega, by omega, o2, hnn, f3⟩⟩, by simp [RowKit.intOf]; omega⟩
            · have h50' : ¬ (k : Int) < 50 := by omega
              have HY := hide (And.intro (unhide HI).2.2.1 (And.intro (unhide HI).2.2.2.1 (unhide HI).2.2.2.2))
              have HKY := hide hk
              clear HI
              generalize k = ky at *
              have hx1 := (unhide HX).1; have hx2 := (unhide HX).2.1; have hx3 := (unhide HX).2.2
              have hy1 := (unhide HY).1; have hy2 := (unhide HY).2.1; have hy3 := (unhide HY).2.2
              have hkx : (idx za kx).length ≤ 50 := Nat.le_trans (idx_len za kx) (by have := unhide HKX; omega)
              have hky : (idx zb ky).length ≤ 50 := Nat.le_trans (idx_len zb ky) (by have := unhide HKY; omega)
              have rx := (hx1.still hy3 (fun _ _ x => x)).rv
              have ry := hy1.rv
              have px := idx_rise za kx
              have py := idx_rise zb ky
              have xlt := idx_lt za kx
              have ylt := idx_lt zb ky
              generalize idx za kx = lx at *
              generalize idx zb ky = ly at *
              have SP := split_v _ _ lx ly wr rx ry (by omega) (by omega) px py
              have SQ := fun w f => split_v _ _ ly lx w (ry.still (w' := w) f) (rx.still (w' := w) f) (by omega) (by omega) py px
              have fW : Still W wr := hx3.trans hy3
              have HSP := hide SP; have HSQ := @hide _ SQ; have HRX := hide rx; have HRY := hide ry; have HFW := hide fW; have HLN := hide (And.intro hkx hky)
              clear SP SQ rx ry px py xlt ylt hx1 hx2 hx3 hy1 hy2 hy3 fW hkx hky HX HY HKX HKY HA HB
              go_wp2_with fail
              refine (unhide HSP).mono ?_
              rintro e w1 ⟨gv, wv, rfl, og, ow, f1⟩
              have rg := og.rv
              have rw1 := ow.rv
              have rx := (unhide HRX).still f1
              have ry := (unhide HRY).still f1
              have HF1 := hide f1
              have hgl : (wo lx ly).length ≤ 50 := Nat.le_trans (wo_len _ _) (unhide HLN).1
              have hwl : (wo ly lx).length ≤ 50 := Nat.le_trans (wo_len _ _) (unhide HLN).2
              have lg : (wo lx ly).length ≤ 1000000 := by omega
              have lw : (wo ly lx).length ≤ 1000000 := by omega
              have lxx : lx.length ≤ 1000000 := by have := (unhide HLN).1; omega
              have lyy : ly.length ≤ 1000000 := by have := (unhide HLN).2; omega
              have ghas := wo_has lx ly
              have whas := wo_has ly lx
              have HRG := hide (And.intro rg rw1)
              clear og ow f1 HSP hgl hwl
              generalize wo lx ly = lgo at *
              generalize wo ly lx = lwi at *
              go_wp2_with fail
              go_loopw [11] (fun i wr => ∃ k : Nat, i = iv k ∧ wr = w1 ∧ k ≤ 50) (fun i wr => 50 - (RowKit.intOf i).toNat)
              case atStart => exact ⟨0, rfl, rfl, by omega⟩
              case round =>
                obtain ⟨k, rfl, rfl, hk5⟩ := hrel
                by_cases hl5 : k < 50
                · have hl5' : (k : Int) < 50 := by omega
                  have hgk := ghas (k : Int)
                  have hwk := whas (k : Int)
                  clear ghas whas
                  cases hbx : lx.contains (k : Int) <;> cases hby : ly.contains (k : Int)
                  all_goals
                    rw [hbx, hby] at hgk hwk
                    simp only [Bool.not_true, Bool.not_false, Bool.and_true, Bool.and_false] at hgk hwk
                    obtain ⟨rg, rw1⟩ := unhide HRG
                    go_wp2_with (first | (go_at_call 10; refine (has_vb _ _ _ _ _ (by assumption) (by assumption) (by assumption)).mono ?_; rintro e w9 ⟨rfl, he⟩; replace he := he.symm; subst he) | fail)
                    exact ⟨⟨k + 1, by go_num, trivial, by omega⟩, by simp [RowKit.intOf]; omega⟩
                · have hl5' : ¬ (k : Int) < 50 := by omega
                  have SQ := unhide HSQ wr (unhide HF1)
                  have HSQ1 := hide SQ
                  clear SQ HSQ ghas whas rx ry
                  go_wp2_with fail
                  refine (unhide HSQ1).mono ?_
                  rintro e w2 ⟨pv, qv, rfl, op, oq, f2⟩
                  obtain ⟨rg, rw1⟩ := unhide HRG
                  have SA := same_vb _ _ _ _ true w2 op.rv (rw1.still f2) lw (by simp)
                  have HSB := hide (And.intro oq (And.intro (rg.still f2) (And.intro lg ((unhide HFW).trans' ((unhide HF1).trans' f2 (fun _ x => x.elim)) (fun _ x => x.elim)))))
                  have HSA := hide SA
                  clear rg rw1 op oq f2 SA HSQ1 HRG
                  go_wp2_with fail
                  refine (unhide HSA).mono ?_
                  rintro e w3 ⟨rfl, f3⟩
                  obtain ⟨oq, rg, lg2, f02⟩ := unhide HSB
                  have SB := same_vb _ _ _ _ true w3 (oq.rv.still f3) (rg.still f3) lg2 (by simp)
                  have F3 := hide (Fr.trans' f02 f3 (fun _ x => x.elim))
                  have HSC := hide SB
                  have hdd : decide (lwi = lwi) = true := by simp
                  have hdg : decide (lgo = lgo) = true := by simp
                  clear oq rg f02 f3 SB HSA HSB
                  go_wp2_with fail
                  refine (unhide HSC).mono ?_
                  rintro e w4 ⟨rfl, f4⟩
                  have F4 := hide ((unhide F3).trans' f4 (fun _ x => x.elim))
                  clear f4 F3 HSC
                  go_wp2_with fail
                  refine (awake_ok w4).mono ?_
                  rintro e w5 ⟨rfl, f5⟩
                  have F5 := hide ((unhide F4).trans' f5 (fun _ x => x.elim))
                  clear f5 F4
                  go_wp2
                  go_ret
                  exact ⟨rfl, (unhide F5).bel⟩
          · have hlt' : ¬ (k : Int) < lb := by omega
            have HY := hide (And.intro (unhide HI).2.2.1 (And.intro (unhide HI).2.2.2.1 (unhide HI).2.2.2.2))
            have HKY := hide hk
            clear HI
            generalize k = ky at *
            have hx1 := (unhide HX).1; have hx2 := (unhide HX).2.1; have hx3 := (unhide HX).2.2
            have hy1 := (unhide HY).1; have hy2 := (unhide HY).2.1; have hy3 := (unhide HY).2.2
            have hkx : (idx za kx).length ≤ 50 := Nat.le_trans (idx_len za kx) (by have := unhide HKX; omega)
            have hky : (idx zb ky).length ≤ 50 := Nat.le_trans (idx_len zb ky) (by have := unhide HKY; omega)
            have rx := (hx1.still hy3 (fun _ _ x => x)).rv
            have ry := hy1.rv
            have px := idx_rise za kx
            have py := idx_rise zb ky
            have xlt := idx_lt za kx
            have ylt := idx_lt zb ky
            generalize idx za kx = lx at *
            generalize idx zb ky = ly at *
            have SP := split_v _ _ lx ly wr rx ry (by omega) (by omega) px py
            have SQ := fun w f => split_v _ _ ly lx w (ry.still (w' := w) f) (rx.still (w' := w) f) (by omega) (by omega) py px
            have fW : Still W wr := hx3.trans hy3
            have HSP := hide SP; have HSQ := @hide _ SQ; have HRX := hide rx; have HRY := hide ry; have HFW := hide fW; have HLN := hide (And.intro hkx hky)
            clear SP SQ rx ry px py xlt ylt hx1 hx2 hx3 hy1 hy2 hy3 fW hkx hky HX HY HKX HKY HA HB
            go_wp2_with fail
            refine (unhide HSP).mono ?_
            rintro e w1 ⟨gv, wv, rfl, og, ow, f1⟩
            have rg := og.rv
            have rw1 := ow.rv
            have rx := (unhide HRX).still f1
            have ry := (unhide HRY).still f1
            have HF1 := hide f1
            have hgl : (wo lx ly).length ≤ 50 := Nat.le_trans (wo_len _ _) (unhide HLN).1
            have hwl : (wo ly lx).length ≤ 50 := Nat.le_trans (wo_len _ _) (unhide HLN).2
            have lg : (wo lx ly).length ≤ 1000000 := by omega
            have lw : (wo ly lx).length ≤ 1000000 := by omega
            have lxx : lx.length ≤ 1000000 := by have := (unhide HLN).1; omega
            have lyy : ly.length ≤ 1000000 := by have := (unhide HLN).2; omega
            have ghas := wo_has lx ly
            have whas := wo_has ly lx
            have HRG := hide (And.intro rg rw1)
            clear og ow f1 HSP hgl hwl
            generalize wo lx ly = lgo at *
            generalize wo ly lx = lwi at *
            go_wp2_with fail
            go_loopw [11] (fun i wr => ∃ k : Nat, i = iv k ∧ wr = w1 ∧ k ≤ 50) (fun i wr => 50 - (RowKit.intOf i).toNat)
            case atStart => exact ⟨0, rfl, rfl, by omega⟩
            case round =>
              obtain ⟨k, rfl, rfl, hk5⟩ := hrel
              by_cases hl5 : k < 50
              · have hl5' : (k : Int) < 50 := by omega
                have hgk := ghas (k : Int)
                have hwk := whas (k : Int)
                clear ghas whas
                cases hbx : lx.contains (k : Int) <;> cases hby : ly.contains (k : Int)
                all_goals
                  rw [hbx, hby] at hgk hwk
                  simp only [Bool.not_true, Bool.not_false, Bool.and_true, Bool.and_false] at hgk hwk
                  obtain ⟨rg, rw1⟩ := unhide HRG
                  go_wp2_with (first | (go_at_call 10; refine (has_vb _ _ _ _ _ (by assumption) (by assumption) (by assumption)).mono ?_; rintro e w9 ⟨rfl, he⟩; replace he := he.symm; subst he) | fail)
                  exact ⟨⟨k + 1, by go_num, trivial, by omega⟩, by simp [RowKit.intOf]; omega⟩
              · have hl5' : ¬ (k : Int) < 50 := by omega
                have SQ := unhide HSQ wr (unhide HF1)
                have HSQ1 := hide SQ
                clear SQ HSQ ghas whas rx ry
                go_wp2_with fail
                refine (unhide HSQ1).mono ?_
                rintro e w2 ⟨pv, qv, rfl, op, oq, f2⟩
                obtain ⟨rg, rw1⟩ := unhide HRG
                have SA := same_vb _ _ _ _ true w2 op.rv (rw1.still f2) lw (by simp)
                have HSB := hide (And.intro oq (And.intro (rg.still f2) (And.intro lg ((unhide HFW).trans' ((unhide HF1).trans' f2 (fun _ x => x.elim)) (fun _ x => x.elim)))))
                have HSA := hide SA
                clear rg rw1 op oq f2 SA HSQ1 HRG
                go_wp2_with fail
                refine (unhide HSA).mono ?_
                rintro e w3 ⟨rfl, f3⟩
                obtain ⟨oq, rg, lg2, f02⟩ := unhide HSB
                have SB := same_vb _ _ _ _ true w3 (oq.rv.still f3) (rg.still f3) lg2 (by simp)
                have F3 := hide (Fr.trans' f02 f3 (fun _ x => x.elim))
                have HSC := hide SB
                have hdd : decide (lwi = lwi) = true := by simp
                have hdg : decide (lgo = lgo) = true := by simp
                clear oq rg f02 f3 SB HSA HSB
                go_wp2_with fail
                refine (unhide HSC).mono ?_
                rintro e w4 ⟨rfl, f4⟩
                have F4 := hide ((unhide F3).trans' f4 (fun _ x => x.elim))
                clear f4 F3 HSC
                go_wp2_with fail
                refine (awake_ok w4).mono ?_
                rintro e w5 ⟨rfl, f5⟩
                have F5 := hide ((unhide F4).trans' f5 (fun _ x => x.elim))
                clear f5 F4
                go_wp2
                go_ret
                exact ⟨rfl, (unhide F5).bel⟩
    · have hlt' : ¬ (k : Int) < la := by omega
      have HX := hide (And.intro (unhide HI).2.2.1 (And.intro (unhide HI).2.2.2.1 (unhide HI).2.2.2.2))
      have HKX := hide hk
      clear HI hka hlt
      generalize k = kx at *
      generalize wr = wx at *
      go_wp2
      go_loopw [6, 8] (fun v i wr => ∃ (k : Nat) (sb : Option Addr) (sm sd : Nat), i = iv k ∧ v = .slice sb sm sd ∧ Hid (k ≤ 50 ∧ k ≤ lb ∧ Own wr wx.heap.size (.slice sb sm sd) (idx zb k) ∧ sm = (idx zb k).length ∧ Still wx wr)) (fun v i wr => lb - (RowKit.intOf i).toNat)
      case atStart => exact ⟨0, none, 0, 0, rfl, rfl, hide ⟨by omega, by omega, Own.nil _ _, rfl, Fr.refl _ _⟩⟩
      case round =>
        obtain ⟨k, sb, sm, sd, rfl, rfl, HI⟩ := hrel
        have hk := (unhide HI).1
        have hka := (unhide HI).2.1
        by_cases hlt : k < lb
        · have hlt' : (k : Int) < lb := by omega
          by_cases h50 : k < 50
          · have h50' : (k : Int) < 50 := by omega
            obtain ⟨xb, xo, rfl, c0⟩ := unhide HB k hlt
            have c := (unhide HI).2.2.2.2.cell' ((unhide HX).2.2.cell' c0 (fun x => x)) (fun x => x)
            clear c0
            cases hz : zb k with
            | false =>
              rw [hz] at c
              have HZ := hide hz
              clear hz
              go_wp2
              obtain ⟨i1, i2, i3, i4, i5⟩ := unhide HI
              have e : idx zb (k + 1) = idx zb k := by show (if zb k then _ else _) = _; rw [unhide HZ]; rfl
              exact ⟨⟨k + 1, sb, sm, sd, by go_num, rfl, hide ⟨by omega, by omega, by rw [e]; exact i3, by rw [e]; exact i4, i5⟩⟩, by simp [RowKit.intOf]; omega⟩
            | true =>
              rw [hz] at c
              have e : idx zb (k + 1) = idx zb k ++ [(k : Int)] := by
                show (if zb k then _ else _) = _
                rw [hz]; rfl
              obtain ⟨i1, i2, i3, i4, i5⟩ := unhide HI
              obtain ⟨pa, pq, w2, hap, o2, f2, hb2, hnn⟩ := Own.more Try.underlying22 wr wx.heap.size _ _ sm i3 i4 (k : Int) (by have := idx_len zb k; omega) i5.size
              rw [← e] at o2 hnn
              have f3 : Still wx w2 := i5.trans' f2 (fun g hg => .inr (i3.lt g hg).1)
              have HE := hide (And.intro o2 (And.intro f3 hnn)); have HBP := hide hap
              clear hz e i1 i2 i3 i4 i5 hap o2 f2 hb2 hnn f3
              go_wp2_with (first | (at_builtin; refine wpList_append_run rfl (.tmp 46) (.tmp 48) 22 rfl _ _ rfl rfl _ w2 (unhide HBP) ?_) | fail)
              obtain ⟨o2, f3, hnn⟩ := unhide HE
              exact ⟨⟨k + 1, _, _, _, by go_num, rfl, hide ⟨by omega, by omega, o2, hnn, f3⟩⟩, by simp [RowKit.intOf]; omega⟩
          · have h50' : ¬ (k : Int) < 50 := by omega
            have HY := hide (And.intro (unhide HI).2.2.1 (And.intro (unhide HI).2.2.2.1 (unhide HI).2.2.2.2))
            have HKY := hide hk
            clear HI
            generalize k = ky at *
            have hx1 := (unhide HX).1; have hx2 := (unhide HX).2.1; have hx3 := (unhide HX).2.2
            have hy1 := (unhide HY).1; have hy2 := (unhide HY).2.1; have hy3 := (unhide HY).2.2
            have hkx : (idx za kx).length ≤ 50 := Nat.le_trans (idx_len za kx) (by have := unhide HKX; omega)
            have hky : (idx zb ky).length ≤ 50 := Nat.le_trans (idx_len zb ky) (by have := unhide HKY; omega)
            have rx := (hx1.still hy3 (fun _ _ x => x)).rv
            have ry := hy1.rv
            have px := idx_rise za kx
            have py := idx_rise zb ky
            have xlt := idx_lt za kx
            have ylt := idx_lt zb ky
            generalize idx za kx = lx at *
            generalize idx zb ky = ly at *
            have SP := split_v _ _ lx ly wr rx ry (by omega) (by omega) px py
            have SQ := fun w f => split_v _ _ ly lx w (ry.still (w' := w) f) (rx.still (w' := w) f) (by omega) (by omega) py px
            have fW : Still W wr := hx3.trans hy3
            have HSP := hide SP; have HSQ := @hide _ SQ; have HRX := hide rx; have HRY := hide ry; have HFW := hide fW; have HLN := hide (And.intro hkx hky)
            clear SP SQ rx ry px py xlt ylt hx1 hx2 hx3 hy1 hy2 hy3 fW hkx hky HX HY HKX HKY HA HB
            go_wp2_with fail
            refine (unhide HSP).mono ?_
            rintro e w1 ⟨gv, wv, rfl, og, ow, f1⟩
            have rg := og.rv
            have rw1 := ow.rv
            have rx := (unhide HRX).still f1
            have ry := (unhide HRY).still f1
            have HF1 := hide f1
            have hgl : (wo lx ly).length ≤ 50 := Nat.le_trans (wo_len _ _) (unhide HLN).1
            have hwl : (wo ly lx).length ≤ 50 := Nat.le_trans (wo_len _ _) (unhide HLN).2
            have lg : (wo lx ly).length ≤ 1000000 := by omega
            have lw : (wo ly lx).length ≤ 1000000 := by omega
            have lxx : lx.length ≤ 1000000 := by have := (unhide HLN).1; omega
            have lyy : ly.length ≤ 1000000 := by have := (unhide HLN).2; omega
            have ghas := wo_has lx ly
            have whas := wo_has ly lx
            have HRG := hide (And.intro rg rw1)
            clear og ow f1 HSP hgl hwl
            generalize wo lx ly = lgo at *
            generalize wo ly lx = lwi at *
            go_wp2_with fail
            go_loopw [11] (fun i wr => ∃ k : Nat, i = iv k ∧ wr = w1 ∧ k ≤ 50) (fun i wr => 50 - (RowKit.intOf i).toNat)
            case atStart => exact ⟨0, rfl, rfl, by omega⟩
            case round =>
              obtain ⟨k, rfl, rfl, hk5⟩ := hrel
              by_cases hl5 : k < 50
              · have hl5' : (k : Int) < 50 := by omega
                have hgk := ghas (k : Int)
                have hwk := whas (k : Int)
                clear ghas whas
                cases hbx : lx.contains (k : Int) <;> cases hby : ly.contains (k : Int)
                all_goals
                  rw [hbx, hby] at hgk hwk
                  simp only [Bool.not_true, Bool.not_false, Bool.and_true, Bool.and_false] at hgk hwk
                  obtain ⟨rg, rw1⟩ := unhide HRG
                  go_wp2_with (first | (go_at_call 10; refine (has_vb _ _ _ _ _ (by assumption) (by assumption) (by assumption)).mono ?_; rintro e w9 ⟨rfl, he⟩; replace he := he.symm; subst he) | fail)
                  exact ⟨⟨k + 1, by go_num, trivial, by omega⟩, by simp [RowKit.intOf]; omega⟩
              · have hl5' : ¬ (k : Int) < 50 := by omega
                have SQ := unhide HSQ wr (unhide HF1)
                have HSQ1 := hide SQ
                clear SQ HSQ ghas whas rx ry
                go_wp2_with fail
                refine (unhide HSQ1).mono ?_
                rintro e w2 ⟨pv, qv, rfl, op, oq, f2⟩
                obtain ⟨rg, rw1⟩ := unhide HRG
                have SA := same_vb _ _ _ _ true w2 op.rv (rw1.still f2) lw (by simp)
                have HSB := hide (And.intro oq (And.intro (rg.still f2) (And.intro lg ((unhide HFW).trans' ((unhide HF1).trans' f2 (fun _ x => x.elim)) (fun _ x => x.elim)))))
                have HSA := hide SA
                clear rg rw1 op oq f2 SA HSQ1 HRG
                go_wp2_with fail
                refine (unhide HSA).mono ?_
                rintro e w3 ⟨rfl, f3⟩
                obtain ⟨oq, rg, lg2, f02⟩ := unhide HSB
                have SB := same_vb _ _ _ _ true w3 (oq.rv.still f3) (rg.still f3) lg2 (by simp)
                have F3 := hide (Fr.trans' f02 f3 (fun _ x => x.elim))
                have HSC := hide SB
                have hdd : decide (lwi = lwi) = true := by simp
                have hdg : decide (lgo = lgo) = true := by simp
                clear oq rg f02 f3 SB HSA HSB
                go_wp2_with fail
                refine (unhide HSC).mono ?_
                rintro e w4 ⟨rfl, f4⟩
                have F4 := hide ((unhide F3).trans' f4 (fun _ x => x.elim))
                clear f4 F3 HSC
                go_wp2_with fail
                refine (awake_ok w4).mono ?_
                rintro e w5 ⟨rfl, f5⟩
                have F5 := hide ((unhide F4).trans' f5 (fun _ x => x.elim))
                clear f5 F4
                go_wp2
                go_ret
                exact ⟨rfl, (unhide F5).bel⟩
        · have hlt' : ¬ (k : Int) < lb := by omega
          have HY := hide (And.intro (unhide HI).2.2.1 (And.intro (unhide HI).2.2.2.1 (unhide HI).2.2.2.2))
          have HKY := hide hk
          clear HI
          generalize k = ky at *
          have hx1 := (unhide HX).1; have hx2 := (unhide HX).2.1; have hx3 := (unhide HX).2.2
          have hy1 := (unhide HY).1; have hy2 := (unhide HY).2.1; have hy3 := (unhide HY).2.2
          have hkx : (idx za kx).length ≤ 50 := Nat.le_trans (idx_len za kx) (by have := unhide HKX; omega)
          have hky : (idx zb ky).length ≤ 50 := Nat.le_trans (idx_len zb ky) (by have := unhide HKY; omega)
          have rx := (hx1.still hy3 (fun _ _ x => x)).rv
          have ry := hy1.rv
          have px := idx_rise za kx
          have py := idx_rise zb ky
          have xlt := idx_lt za kx
          have ylt := idx_lt zb ky
          generalize idx za kx = lx at *
          generalize idx zb ky = ly at *
          have SP := split_v _ _ lx ly wr rx ry (by omega) (by omega) px py
          have SQ := fun w f => split_v _ _ ly lx w (ry.still (w' := w) f) (rx.still (w' := w) f) (by omega) (by omega) py px
          have fW : Still W wr := hx3.trans hy3
          have HSP := hide SP; have HSQ := @hide _ SQ; have HRX := hide rx; have HRY := hide ry; have HFW := hide fW; have HLN := hide (And.intro hkx hky)
          clear SP SQ rx ry px py xlt ylt hx1 hx2 hx3 hy1 hy2 hy3 fW hkx hky HX HY HKX HKY HA HB
          go_wp2_with fail
          refine (unhide HSP).mono ?_
          rintro e w1 ⟨gv, wv, rfl, og, ow, f1⟩
          have rg := og.rv
          have rw1 := ow.rv
          have rx := (unhide HRX).still f1
          have ry := (unhide HRY).still f1
          have HF1 := hide f1
          have hgl : (wo lx ly).length ≤ 50 := Nat.le_trans (wo_len _ _) (unhide HLN).1
          have hwl : (wo ly lx).length ≤ 50 := Nat.le_trans (wo_len _ _) (unhide HLN).2
          have lg : (wo lx ly).length ≤ 1000000 := by omega
          have lw : (wo ly lx).length ≤ 1000000 := by omega
          have lxx : lx.length ≤ 1000000 := by have := (unhide HLN).1; omega
          have lyy : ly.length ≤ 1000000 := by have := (unhide HLN).2; omega
          have ghas := wo_has lx ly
          have whas := wo_has ly lx
          have HRG := hide (And.intro rg rw1)
          clear og ow f1 HSP hgl hwl
          generalize wo lx ly = lgo at *
          generalize wo ly lx = lwi at *
          go_wp2_with fail
          go_loopw [11] (fun i wr => ∃ k : Nat, i = iv k ∧ wr = w1 ∧ k ≤ 50) (fun i wr => 50 - (RowKit.intOf i).toNat)
          case atStart => exact ⟨0, rfl, rfl, by omega⟩
          case round =>
            obtain ⟨k, rfl, rfl, hk5⟩ := hrel
            by_cases hl5 : k < 50
            · have hl5' : (k : Int) < 50 := by omega
              have hgk := ghas (k : Int)
              have hwk := whas (k : Int)
              clear ghas whas
              cases hbx : lx.contains (k : Int) <;> cases hby : ly.contains (k : Int)
              all_goals
                rw [hbx, hby] at hgk hwk
                simp only [Bool.not_true, Bool.not_false, Bool.and_true, Bool.and_false] at hgk hwk
                obtain ⟨rg, rw1⟩ := unhide HRG
                go_wp2_with (first | (go_at_call 10; refine (has_vb _ _ _ _ _ (by assumption) (by assumption) (by assumption)).mono ?_; rintro e w9 ⟨rfl, he⟩; replace he := he.symm; subst he) | fail)
                exact ⟨⟨k + 1, by go_num, trivial, by omega⟩, by simp [RowKit.intOf]; omega⟩
            · have hl5' : ¬ (k : Int) < 50 := by omega
              have SQ := unhide HSQ wr (unhide HF1)
              have HSQ1 := hide SQ
              clear SQ HSQ ghas whas rx ry
              go_wp2_with fail
              refine (unhide HSQ1).mono ?_
              rintro e w2 ⟨pv, qv, rfl, op, oq, f2⟩
              obtain ⟨rg, rw1⟩ := unhide HRG
              have SA := same_vb _ _ _ _ true w2 op.rv (rw1.still f2) lw (by simp)
              have HSB := hide (And.intro oq (And.intro (rg.still f2) (And.intro lg ((unhide HFW).trans' ((unhide HF1).trans' f2 (fun _ x => x.elim)) (fun _ x => x.elim)))))
              have HSA := hide SA
              clear rg rw1 op oq f2 SA HSQ1 HRG
              go_wp2_with fail
              refine (unhide HSA).mono ?_
              rintro e w3 ⟨rfl, f3⟩
              obtain ⟨oq, rg, lg2, f02⟩ := unhide HSB
              have SB := same_vb _ _ _ _ true w3 (oq.rv.still f3) (rg.still f3) lg2 (by simp)
              have F3 := hide (Fr.trans' f02 f3 (fun _ x => x.elim))
              have HSC := hide SB
              have hdd : decide (lwi = lwi) = true := by simp
              have hdg : decide (lgo = lgo) = true := by simp
              clear oq rg f02 f3 SB HSA HSB
              go_wp2_with fail
              refine (unhide HSC).mono ?_
              rintro e w4 ⟨rfl, f4⟩
              have F4 := hide ((unhide F3).trans' f4 (fun _ x => x.elim))
              clear f4 F3 HSC
              go_wp2_with fail
              refine (awake_ok w4).mono ?_
              rintro e w5 ⟨rfl, f5⟩
              have F5 := hide ((unhide F4).trans' f5 (fun _ x => x.elim))
              clear f5 F4
              go_wp2
              go_ret
              exact ⟨rfl, (unhide F5).bel⟩
end Go.Proofs.Ytogjlengkjkiaaa
