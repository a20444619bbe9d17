/- FrameLong. -/
import Derived.Test.YtpidfndcihljmaaLg
import Derived.Test.YtpidfndcihljmaaIn
import Derived.Deep.Cut
namespace Go.Proofs.Ytpidfndcihljmaa
open Go.RowKit

/-- The letters of a line. -/
def ltr (i : Nat) : UInt8 := UInt8.ofNat (97 + i % 26)
theorem ltr_nat (i : Nat) : (ltr i).toNat = 97 + i % 26 := by
  have : i % 26 < 26 := Nat.mod_lt _ (by omega)
  simp [ltr, Nat.mod_eq_of_lt (show 97 + i % 26 < 256 by omega)]
theorem ltr_ne (i : Nat) (c : UInt8) (h : c.toNat < 97) : ltr i ≠ c := fun e => by
  have := ltr_nat i
  rw [e] at this
  omega
theorem StrR.form {w : World} {base : Nat} {pa : Option Addr} {pn pc : Nat} {xs : List (List UInt8)} (h : StrR w base (.slice pa pn pc) xs) (hx : 0 < xs.length) : pn = xs.length ∧ ∃ b, pa = some ⟨b, 0, none⟩ ∧ ∀ i s, xs[i]? = some s → w.cell? ⟨b, i, none⟩ = some (sv s) := by
  rcases h.2 with ⟨hv, hn⟩ | ⟨g, cap, cur, hv, _⟩
  · omega
  · injection hv with h1 h2 h3
    subst h1 h2 h3
    refine ⟨rfl, g, rfl, fun i s hs => ?_⟩
    have hi := (List.getElem?_eq_some_iff.1 hs).1
    have := World.ownsRow.cellAt h i (by omega)
    rw [this, List.getElem?_map, hs]
    rfl
theorem cut13_ltr (n : Nat) (cr : Bool) : cut13 ((List.range n).map ltr ++ (if cr then [13] else [])) = (List.range n).map ltr := by
  cases cr with
  | true =>
    simp only [if_true]
    unfold cut13
    rw [if_pos ⟨by simp, by simp⟩]
    simp
  | false =>
    simp only [Bool.false_eq_true, if_false, List.append_nil]
    unfold cut13
    rw [if_neg]
    rintro ⟨h1, h2⟩
    have h3 : ((List.range n).map ltr).length - 1 < n := by simp at h1 ⊢; omega
    rw [List.getD_eq_getElem?_getD, List.getElem?_eq_getElem (by simpa using h3)] at h2
    simp only [List.getElem_map, List.getElem_range, Option.getD_some] at h2
    exact ltr_ne _ _ (by decide) h2
theorem long_run (n : Nat) (cr : Bool) : runA [] false (((List.range n).map ltr ++ (if cr then [13] else [])) ++ [10, 110, 101, 120, 116, 10]) = (if n ≤ 256 then [some ((List.range n).map ltr), some [110, 101, 120, 116]] else [none, some [110, 101, 120, 116]], [], false) := by
  have h1 : ∀ x ∈ ((List.range n).map ltr ++ (if cr then [13] else [])), x ≠ 10 := by
    intro x hx
    rcases List.mem_append.1 hx with h | h
    · obtain ⟨i, _, rfl⟩ := List.mem_map.1 h
      exact ltr_ne _ _ (by decide)
    · cases cr with
      | true => simp at h; rw [h]; decide
      | false => simp at h
  rw [show ([10, 110, 101, 120, 116, 10] : List UInt8) = 10 :: ([110, 101, 120, 116] ++ 10 :: []) from rfl, runA_line _ _ h1, runA_line [110, 101, 120, 116] [] (by decide)]
  have h2 : outL ((List.range n).map ltr ++ (if cr then [13] else [])) = if n ≤ 256 then some ((List.range n).map ltr) else none := by
    unfold outL
    rw [cut13_ltr]
    simp
  rw [h2]
  have h3 : outL [110, 101, 120, 116] = some [110, 101, 120, 116] := by decide
  rw [h3]
  by_cases h : n ≤ 256
  · simp [h, runA]
  · simp [h, runA]
set_option maxRecDepth 100000 in
set_option maxHeartbeats 8000000 in
theorem long_ok (n p : Int) (cr : Bool) (W : World) (_hn1 : -9223372036854775808 ≤ n) (_hn2 : n ≤ 9223372036854775807) : Calls Try.prog 8 #[iv n, iv p, .bool cr] W fun e w' => e = .returned (.bool true) ∧ Below W.heap.size W w' := by
  obtain ⟨a, ha0⟩ : ∃ a, msk p 127 = a := ⟨_, rfl⟩
  have m1 : bits .and .i64 p 127 = (a : Int) := ha0 ▸ mask_i64 p 127 (by omega)
  have l1 : a ≤ 127 := ha0 ▸ msk_le p 127
  clear ha0
  obtain ⟨z, hz⟩ : ∃ z, n.tmod 600 = z := ⟨_, rfl⟩
  have hzb : z < 600 := by rw [← hz]; exact Int.tmod_lt_of_pos n (by decide)
  have HZ := hide hz
  by_cases hneg : z < 0
  · have HN := hide hneg
    go_enter Try.func8, Try.ntmps8
    go_wp2_with fail
    refine (awake_ok W).mono ?_
    rintro e w' ⟨rfl, hs⟩
    have HS := hide hs
    clear hs
    go_wp2_with fail
    go_ret
    exact ⟨rfl, (unhide HS).below (Nat.le_refl _) (fun _ h => h.elim)⟩
  · obtain ⟨m, hm⟩ : ∃ m : Nat, z = m := ⟨z.toNat, by omega⟩
    subst hm
    have hm6 : m < 600 := by omega
    obtain ⟨w1, hmk, o1, s1, z1⟩ := make_ok m (by omega) W
    generalize hg : W.heap.size = g at *
    have H1 := hide (show Own w1 g (.slice (some ⟨g, 0, none⟩) m m) (rowF ltr m 0) by rw [rowF_zero]; exact o1)
    have S1 := hide s1
    clear o1 s1
    go_enter Try.func8, Try.ntmps8
    go_wp2_with fail
    clear hmk
    go_loopw [31] (fun i wp => ∃ k : Nat, i = iv k ∧ Hid (k ≤ m ∧ Own wp g (.slice (some ⟨g, 0, none⟩) m m) (rowF ltr m k) ∧ Fr (fun j => j = g) w1 wp)) (fun i wp => m - (RowKit.intOf i).toNat)
    case atStart => exact ⟨0, rfl, hide ⟨Nat.zero_le _, unhide H1, Fr.refl _ _⟩⟩
    case round =>
      obtain ⟨k, rfl, HI⟩ := hrel
      have hk := (unhide HI).1
      by_cases hlt : k < m
      · have hlt' : (k : Int) < m := by omega
        have hc := (unhide HI).2.1.at.2.2.2.2.1 k hlt
        have hz := (unhide HI).2.1.at.2.2.2.2.2 k
        go_wp2_with fail
        exact ⟨⟨k + 1, by go_num, hide ⟨by omega, (unhide HI).2.1.fill (unhide HI).2.2 _ (by rw [bv, ltr_nat]; simp)⟩⟩, by simp [RowKit.intOf]; omega⟩
      · have hlt' : ¬ (k : Int) < m := by omega
        have hs := (unhide HI).2.1.slAt
        rw [rowF_full _ _ _ (by omega)] at hs
        have hst : Still W wr := (unhide S1).trans' (unhide HI).2.2 (fun j e => .inr (by omega))
        have hlr := long_run m cr
        obtain ⟨tl, htl⟩ : ∃ tl : List UInt8, (if cr then [13] else []) = tl := ⟨_, rfl⟩
        have htl1 : tl.length ≤ 1 := by rw [← htl]; split <;> simp
        rw [htl] at hlr
        generalize hS : (List.range m).map ltr = S at *
        have hSl : S.length = m := by rw [← hS]; simp
        have HTL := hide htl
        have HSL := hide hSl
        have HLR := hide hlr
        have HST := hide hst
        have hcv := conv_rd wr (some ⟨g, 0, none⟩) m m S hs.len hs.rd
        clear hs hst hlr htl hS hSl HI H1 S1
        have hm9 : S.length ≤ 600 := by rw [unhide HSL]; omega
        go_upto_if 45 with fail
        go_cut [10] from 46 to 47 (fun v wx => v = .string (bs (S ++ tl)) ∧ wx = wr)
        case first =>
          cases cr with
          | true =>
            have hadd : ∀ w, (Op.stringOp .add (bs S) ⟨#[13]⟩).run Try.prog w = .ok (.string (bs (S ++ tl))) w := fun w => by
              have := bs_add S [13] (by simp; omega) w
              rw [← unhide HTL]
              exact this
            go_wp2_with fail
            go_meet
            exact ⟨rfl, rfl⟩
          | false =>
            have he : S = S ++ tl := by rw [← unhide HTL]; simp
            have HE := hide he
            clear he
            go_wp2_with fail
            go_meet
            exact ⟨by rw [← unhide HE], rfl⟩
        case rest =>
        obtain ⟨rfl, hwc⟩ := hcut
        rw [hwc]
        clear hwc hcv
        obtain ⟨X, hX⟩ : ∃ X, S ++ tl ++ [10, 110, 101, 120, 116, 10] = X := ⟨_, rfl⟩
        have hadd : ∀ w, (Op.stringOp .add (bs (S ++ tl)) ⟨#[10, 110, 101, 120, 116, 10]⟩).run Try.prog w = .ok (.string (bs X)) w := fun w => by
          have := bs_add (S ++ tl) [10, 110, 101, 120, 116, 10] (by simp; omega) w
          rw [hX] at this
          exact this
        have hXl : X.length ≤ 610 := by rw [← hX]; simp; omega
        rw [hX] at HLR
        obtain ⟨XL, hXL⟩ : ∃ XL, X.length = XL := ⟨_, rfl⟩
        have HXL := hide hXL
        have hsz : (bs X).size = XL := by rw [bs_size]; exact hXL
        rw [hXL] at hXl
        clear hX hXL HTL
        go_wp2_with fail
        refine (new_ok wr).mono ?_
        rintro e w2 ⟨rfl, m2, s2⟩
        have F2 := Fs.new (Fr.refl _ wr) s2 m2
        generalize hf : wr.heap.size = f at *
        obtain ⟨W0, hW0⟩ : ∃ W0, W0 = wr := ⟨_, rfl⟩
        have HW0 := hide hW0
        have HL0 := hide (show Lg W0 w2 f none [] false 0 (.slice none 0 0) [] from hW0 ▸ ⟨F2, World.ownsRow_nil _ _ _ _, fun k e => by cases e⟩)
        clear m2 s2 F2 hW0
        go_wp2_with fail
        go_loopw [12, 13, 14] (fun c v i wq => ∃ (q : Nat) (O : List (Option (List UInt8))) (l1 : List UInt8) (lv1 : Bool) (g1 : Option Nat) (pa : Option Addr) (pn pc : Nat), c = iv (nN O) ∧ v = .slice pa pn pc ∧ i = iv q ∧ Hid (q ≤ XL ∧ runA [] false (X.take q) = (O, l1, lv1) ∧ Dry l1 lv1 ∧ Lg W0 wq f g1 l1 lv1 q (.slice pa pn pc) (nS O))) (fun c v i wq => XL - (RowKit.intOf i).toNat)
        case atStart => exact ⟨0, [], [], false, none, none, 0, 0, rfl, rfl, rfl, hide ⟨by omega, by simp [runA], ⟨by simp, by simp, fun _ => rfl⟩, unhide HL0⟩⟩
        case round =>
          obtain ⟨q, O, l1, lv1, g1, pa, pn, pc, rfl, rfl, rfl, HI⟩ := hrel
          obtain ⟨i1, i2, i3, i4⟩ := unhide HI
          by_cases hlt2 : q < XL
          · have hlt2' : (q : Int) < XL := by omega
            obtain ⟨nn, hnn⟩ : ∃ nn, min (a + 1) (XL - q) = nn := ⟨_, rfl⟩
            have hmn : min ((a : Int) + 1) ((XL : Int) - (q : Int)) = (nn : Int) := by omega
            have hqn : q + nn ≤ XL := by omega
            have hnn0 : 0 < nn := by omega
            have hmid : ∀ w, (Instr.slice 9 (.string (bs X)) (some (.int .i64 (q : Int))) (some (.int .i64 ((q : Int) + (nn : Int)))) none).run Try.prog w = .ok (.string (bs ((X.take (q + nn)).drop q))) w := fun w => by
              rw [show (q : Int) + (nn : Int) = ((q + nn : Nat) : Int) by omega]
              exact bs_mid X q (q + nn) .i64 .i64 (by omega) (by rw [unhide HXL]; exact hqn) w
            obtain ⟨M, hM⟩ : ∃ M, (X.take (q + nn)).drop q = M := ⟨_, rfl⟩
            have hMl : M.length = nn := by rw [← hM, List.length_drop, List.length_take, unhide HXL]; omega
            have hXM : X.take (q + nn) = X.take q ++ M := by
              rw [← hM]
              conv => lhs; rw [← List.take_append_drop q (X.take (q + nn))]
              rw [List.take_take, Nat.min_eq_left (by omega)]
            obtain ⟨cap, w5, hcv, hcap, hrd, hst5, hlt5⟩ := conv_bs wr M
            rw [hM] at hmid
            rw [hMl] at hcv hcap
            have hsl : Sl w5 (some ⟨wr.heap.size, 0, none⟩) nn cap M := ⟨hMl.symm, hcap, hrd, (fun e => by cases e), fun x e _ => by cases e; exact ⟨_, _, rfl⟩⟩
            have L5 := i4.still hst5
            obtain ⟨l2, lv2, f1, f2, f3, f4⟩ := feedA l1 lv1 M i3
            have KF := hide (feed_ok L5.fs.fm _ nn cap M hsl (by omega) (by omega) (fresh_ne i4.fs.fm.lt.1) (fun _ x e => by cases e; exact ⟨_, _, rfl⟩))
            rw [f1] at KF
            have HL5 := hide L5
            have htot : runA [] false (X.take (q + nn)) = (O ++ (runA [] lv2 l2).1, (runA [] lv2 l2).2) := by rw [hXM, runA_app, i2, f3]
            have hlen := runA_len (X.take (q + nn)) [] false
            rw [htot, List.length_append, List.length_take, unhide HXL] at hlen
            have H2 := hide f2
            have HTOT := hide htot
            obtain ⟨OT, hOT⟩ : ∃ OT, O ++ (runA [] lv2 l2).1 = OT := ⟨_, rfl⟩
            obtain ⟨ST, hST⟩ : ∃ ST, (runA [] lv2 l2).2 = ST := ⟨_, rfl⟩
            have hOTl : OT.length ≤ 610 := by rw [← hOT, List.length_append]; omega
            rw [hOT, hST] at HTOT
            have HO := hide (And.intro hOT hST)
            have hfw : f < wr.heap.size := i4.fs.fm.lt.1
            clear hnn hM hMl hXM hcap hrd hst5 hlt5 hsl L5 f1 f2 f3 f4 htot hlen i1 i2 i3 i4 hOT hST HI
            go_wp2_with fail
            refine (unhide KF).mono ?_
            rintro e w6 ⟨rfl, g6, x6⟩
            have HL6 := hide ((unhide HL5).step x6)
            clear KF HL5 x6
            go_wp2_with fail
            go_loopw [12, 13] (fun c v wq => ∃ (D : List (Option (List UInt8))) (l3 : List UInt8) (lv3 : Bool) (g3 : Option Nat) (sa : Option Addr) (sn sc : Nat), c = iv (nN D) ∧ v = .slice sa sn sc ∧ Hid (D ++ (runA [] lv3 l3).1 = OT ∧ (runA [] lv3 l3).2 = ST ∧ (lv3 = true → l3 = []) ∧ Lg W0 wq f g3 l3 lv3 (q + nn) (.slice sa sn sc) (nS D))) (fun c v wq => wt wq f)
            case atStart => exact ⟨O, l2, lv2, g6, pa, pn, pc, rfl, rfl, hide ⟨(unhide HO).1, (unhide HO).2, unhide H2, unhide HL6⟩⟩
            case round =>
              obtain ⟨D, l3, lv3, g3, sa, sn, sc, rfl, rfl, HI⟩ := hrel
              obtain ⟨i1, i2, i3, i4⟩ := unhide HI
              obtain ⟨s, ok, c, l', lv', e1, e2, e3⟩ := lineA l3 lv3 i3
              have KL := hide (line_ok i4.fs.fm (by omega))
              rw [e1] at KL
              have hDl : D.length ≤ 610 := by rw [← i1, List.length_append] at hOTl; omega
              have hnD := nN_le D
              have hnN : nN D ≤ 610 := by omega
              have hnS : (nS D).length ≤ 610 := by omega
              rcases e3 with ⟨rfl, rfl, rfl, rfl, rfl, hd⟩ | ⟨hlt, ⟨rfl, rfl, hs, hr⟩ | ⟨rfl, rfl, rfl, hr⟩⟩
              · have HD := hide (show OT = D ∧ ST = (l', lv') ∧ Dry l' lv' ∧ Lg W0 wr f g3 l' lv' (q + nn) (.slice sa sn sc) (nS D) from by
                  rw [hd.self] at i1 i2
                  exact ⟨by rw [← i1]; simp, i2.symm, hd, i4⟩)
                clear HI i1 i2 i3 i4 hd e1 e2 hnD hDl
                go_wp2_with fail
                refine (unhide KL).mono ?_
                rintro e w7 ⟨rfl, g7, x7⟩
                have HX := hide x7
                clear KL x7
                go_wp2_with fail
                obtain ⟨d1, d2, d3, d4⟩ := unhide HD
                exact ⟨⟨q + nn, D, l', lv', g7, sa, sn, sc, rfl, rfl, by go_num, hide ⟨hqn, by rw [unhide HTOT, d1, d2], d3, d4.step (unhide HX)⟩⟩, by simp [RowKit.intOf]; omega⟩
              · rw [hr] at i1 i2
                have HD := hide (show (D ++ [some s]) ++ (runA [] lv' l').1 = OT ∧ (runA [] lv' l').2 = ST ∧ (lv' = true → l' = []) ∧ Lg W0 wr f g3 l3 lv3 (q + nn) (.slice sa sn sc) (nS D) from ⟨by rw [← i1]; simp, i2, e2, i4⟩)
                have HLT := hide hlt
                clear HI i1 i2 i3 i4 e1 e2 hnD hDl hr hs hlt
                go_wp2_with fail
                refine (unhide KL).mono ?_
                rintro e w7 ⟨rfl, g7, x7⟩
                have L7 := (unhide HD).2.2.2.step x7
                obtain ⟨v', w8, hap, L8⟩ := L7.push s (by omega)
                obtain ⟨sa', sc', rfl⟩ := rows_form L8.row
                have HAP := hide hap
                have HL8 := hide L8
                clear KL x7 L7 hap L8
                go_wp2_with (at_builtin; refine wpList_append_run rfl (.tmp 87) (.tmp 89) 53 rfl _ _ rfl rfl _ w8 (unhide HAP) ?_)
                obtain ⟨d1, d2, d3, d4⟩ := unhide HD
                have hns : nS (D ++ [some s]) = nS D ++ [s] := by rw [nS_app]; rfl
                have hnn2 : nN (D ++ [some s]) = nN D := by rw [nN_app]; rfl
                refine ⟨⟨D ++ [some s], l', lv', g7, _, _, _, by rw [hnn2], rfl, hide ⟨d1, d2, d3, by have h8 := unhide HL8; rw [show (nS D ++ [s]).length = (nS D).length + 1 by simp] at h8; rw [hns]; exact h8⟩⟩, ?_⟩
                rw [(unhide HL8).fs.fm.wt, d4.fs.fm.wt]
                exact unhide HLT
              · rw [hr] at i1 i2
                have HD := hide (show (D ++ [none]) ++ (runA [] lv' l').1 = OT ∧ (runA [] lv' l').2 = ST ∧ (lv' = true → l' = []) ∧ Lg W0 wr f g3 l3 lv3 (q + nn) (.slice sa sn sc) (nS D) from ⟨by rw [← i1]; simp, i2, e2, i4⟩)
                have HLT := hide hlt
                clear HI i1 i2 i3 i4 e1 e2 hnD hDl hr hlt
                go_wp2_with fail
                refine (unhide KL).mono ?_
                rintro e w7 ⟨rfl, g7, x7⟩
                have HL8 := hide ((unhide HD).2.2.2.step x7)
                clear KL x7
                go_wp2_with fail
                obtain ⟨d1, d2, d3, d4⟩ := unhide HD
                have hns : nS (D ++ [none]) = nS D := by rw [nS_app]; simp [nS]
                have hnn2 : nN (D ++ [none]) = nN D + 1 := by rw [nN_app]; rfl
                refine ⟨⟨D ++ [none], l', lv', g7, sa, sn, sc, by rw [hnn2]; go_num, rfl, hide ⟨d1, d2, d3, by rw [hns]; exact unhide HL8⟩⟩, ?_⟩
                rw [(unhide HL8).fs.fm.wt, d4.fs.fm.wt]
                exact unhide HLT
          · have hlt2' : ¬ (q : Int) < XL := by omega
            have hq610 : q ≤ 610 := by omega
            have hqX : X.take q = X := List.take_of_length_le (by rw [unhide HXL]; omega)
            rw [hqX, unhide HLR] at i2
            by_cases h256 : m ≤ 256
            · rw [if_pos h256] at i2
              cases i2
              have h256' : ¬ (256 : Int) < m := by omega
              obtain ⟨hpn, b, hpa, hrow⟩ := i4.row.form (by simp [nS])
              subst hpa hpn
              have r0 := hrow 0 S rfl
              have r1 : wr.cell? ⟨b, 1, none⟩ = some (.string ⟨#[110, 101, 120, 116]⟩) := hrow 1 [110, 101, 120, 116] rfl
              have HF := hide i4.fs
              have hlen : (nS [some S, some [110, 101, 120, 116]]).length = 2 := rfl
              have hnum : nN [some S, some [110, 101, 120, 116]] = 0 := rfl
              rw [hlen, hnum]
              clear i1 i3 i4 HI hrow hlen hnum HLR
              go_wp2_with fail
              refine (awake_ok _).mono ?_
              rintro e w9 ⟨rfl, hs9⟩
              have HS := hide hs9
              clear hs9
              go_wp2_with fail
              go_ret
              refine ⟨rfl, ?_⟩
              have h1 := unhide HST
              have h2 := (unhide HF).st
              rw [unhide HW0] at h2
              have := ((h1.trans h2).trans (unhide HS)).below (Nat.le_refl _) (fun _ h => h.elim)
              exact hg ▸ this
            · rw [if_neg h256] at i2
              cases i2
              have h256' : (256 : Int) < m := by omega
              obtain ⟨hpn, b, hpa, hrow⟩ := i4.row.form (by simp [nS])
              subst hpa hpn
              have r0 : wr.cell? ⟨b, 0, none⟩ = some (.string ⟨#[110, 101, 120, 116]⟩) := hrow 0 [110, 101, 120, 116] rfl
              have HF := hide i4.fs
              have hlen : (nS [none, some [110, 101, 120, 116]]).length = 1 := rfl
              have hnum : nN [none, some [110, 101, 120, 116]] = 1 := rfl
              rw [hlen, hnum]
              clear i1 i3 i4 HI hrow hlen hnum HLR
              go_wp2_with fail
              refine (waiting_ok (unhide HF).fm (by omega)).mono ?_
              rintro e w8 ⟨rfl, q8, rfl⟩
              go_wp2_with fail
              refine (awake_ok _).mono ?_
              rintro e w9 ⟨rfl, hs9⟩
              have HS := hide hs9
              clear hs9
              go_wp2_with fail
              go_ret
              refine ⟨rfl, ?_⟩
              have h1 := unhide HST
              have h2 := ((unhide HF).drewN q8).st
              rw [unhide HW0] at h2
              have := ((h1.trans h2).trans (unhide HS)).below (Nat.le_refl _) (fun _ h => h.elim)
              exact hg ▸ this
end Go.Proofs.Ytpidfndcihljmaa
