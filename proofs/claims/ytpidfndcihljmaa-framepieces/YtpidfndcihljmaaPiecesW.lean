/- FramePieces. -/
import Derived.Test.YtpidfndcihljmaaDn
import Derived.Test.YtpidfndcihljmaaIn
import Derived.Deep.Cut
namespace Go.Proofs.Ytpidfndcihljmaa
open Go.RowKit

theorem slice_mid (a : Option Addr) (len cap l h : Nat) (k k' : IntKind) (w : World) (hlh : l ≤ h) (hh : h ≤ cap) : (Instr.slice 26 (.slice a len cap) (some (.int k (l : Nat))) (some (.int k' (h : Nat))) none).run Try.prog w = .ok (.slice (cutA a cap l) (h - l) (cap - l)) w := by
  obtain ⟨i, hi, hzz⟩ := Option.map_eq_some_iff.1 infoB
  simp only [Prod.mk.injEq] at hzz
  have he : Try.prog.elem 26 = 5 := by kernel_rfl
  have hs : (sizeOf 5).run Try.prog w = .ok 1 w := by simp [sizeOf, typeInfo, hi, hzz.2.1]
  rw [run_slice_lh (P := Try.prog) w 26 a len cap (by rw [he]; exact Try.underlying26) k k' (l : Nat) (h : Nat) (by omega) (by omega) (by omega), he, hs]
  simp [Result.andThen, sliced, cutA]
/-- No line is there, and none is left out, where nothing came. -/
theorem runA_lv (m l : List UInt8) (O : List (Option (List UInt8))) (h : runA [] false m = (O, l, true)) : 0 < m.length := by
  cases m with
  | nil => cases h
  | cons c m => simp
set_option maxRecDepth 100000 in
set_option maxHeartbeats 8000000 in
theorem pieces_ok (a : Option Addr) (len cap : Nat) (B : List UInt8) (a1 : Option Addr) (len1 cap1 : Nat) (zs : Nat → Int) (W : World) (hB : Sl W a len cap B) (hlm : len ≤ maxLen) (hZ : Nums W a1 len1 zs) (hl1 : len1 ≤ maxLen) : Calls Try.prog 7 #[.slice a len cap, .slice a1 len1 cap1] W fun e w' => e = .returned (.bool true) ∧ Below W.heap.size W w' := by
  have HB := hide hB
  have HZ := hide hZ
  have hlm2 : len ≤ 9223372036854775807 := by unfold maxLen at hlm; omega
  have hl12 : len1 ≤ 9223372036854775807 := by unfold maxLen at hl1; omega
  clear hB hZ hlm hl1
  by_cases h3 : (3000 : Int) < len
  · go_enter Try.func7, Try.ntmps7
    go_wp2_with fail
    refine (awake_ok W).mono ?_
    rintro e w' ⟨rfl, hs⟩
    have HS := hide hs
    clear hs
    go_wp2_with fail
    go_ret
    exact ⟨rfl, (unhide HS).below (Nat.le_refl _) (fun _ h => h.elim)⟩
  · have h3' : len ≤ 3000 := by omega
    have hlt : ∀ x, a = some x → 0 < len → x.block < W.heap.size := fun x e h0 => by
      obtain ⟨b, o, e2, c⟩ := (unhide HB).rd 0 (by rw [← (unhide HB).len]; exact h0)
      rw [e] at e2; cases e2
      exact World.block_lt_of_cell? W _ c
    have HLT := hide hlt
    clear hlt
    go_enter Try.func7, Try.ntmps7
    go_wp2_with fail
    refine (new_ok W).mono ?_
    rintro e w1 ⟨rfl, m1, s1⟩
    have HF1 := hide (Fs.new (Fr.refl _ W) s1 m1)
    clear m1 s1
    go_wp2_with fail
    refine (new_ok w1).mono ?_
    rintro e w2 ⟨rfl, m2, s2⟩
    have HG := hide m2
    have HF2 := hide ((unhide HF1).still s2)
    have hgf : W.heap.size < w1.heap.size := (unhide HF1).fm.lt.1
    have hg2 : w1.heap.size < w2.heap.size := m2.lt.1
    clear m2 s2 HF1
    have HBL := hide (unhide HB).len
    have hb3 : B.length ≤ 3000 := by have := unhide HBL; omega
    have KF := hide (feed_ok (unhide HF2).fm a len cap B ((unhide HB).still (unhide HF2).st) (by omega) (by omega) (fun x e h0 => by have := unhide HLT x e h0; omega) no_lv)
    rw [feed_fresh] at KF
    generalize hG : w1.heap.size = G at *
    have HGG := hide hG
    clear hG
    go_wp2_with fail
    refine (unhide KF).mono ?_
    rintro e w3 ⟨rfl, g3, x3⟩
    have HF3 := hide ((unhide HF2).step x3)
    have HG3 := hide ((unhide HG).on x3.fr (fun h => by rcases h with h | h; omega; cases h) (fun k e => by cases e))
    have hng : ∀ k, g3 = some k → w2.heap.size ≤ k := fun k e => by rcases x3.ng k e with h | h; cases h; exact h
    have HNG := hide hng
    clear KF HF2 HG x3 hng
    have KD := hide (drain_ok (unhide HF3).fm (by omega) (by omega) (fun e => by cases e))
    go_wp2_with fail
    refine (unhide KD).mono ?_
    rintro e w4 ⟨rfl, g4, x4, _, ht4⟩
    have HF4 := hide ((unhide HF3).step x4)
    have HG4 := hide ((unhide HG3).on x4.fr (fun h => by rcases h with h | h; omega; have := unhide HNG _ h; omega) (fun k e => by cases e))
    have HT4 := hide ht4
    clear KD HF3 HG3 HNG x4 ht4
    go_wp2_with fail
    have hnf : (runA [] false B).1 = (runA [] false B).1 := rfl
    generalize hWT : tx (runA [] false B).1 = WT at *
    have HWT := hide hWT
    clear hWT hnf
    go_loopw [8, 9, 10] (fun s p i wr => ∃ (k q : Nat) (O : List (Option (List UInt8))) (l1 : List UInt8) (lv1 : Bool) (g1 : Option Nat), s = .string (bs (tx O)) ∧ p = iv q ∧ i = iv k ∧ Hid (k ≤ 60 ∧ q ≤ len ∧ runA [] false (B.take q) = (O, l1, lv1) ∧ Dry l1 lv1 ∧ Fx w4 wr G none l1 lv1 0 (63 * k) g1 ∧ (tx O).length ≤ 90000 * k)) (fun s p i wr => 60 - (RowKit.intOf i).toNat)
    case atStart => exact ⟨0, 0, [], [], false, none, rfl, rfl, rfl, hide ⟨by omega, by omega, by simp [runA], ⟨by simp, by simp, fun _ => rfl⟩, Fx.refl (unhide HG4), by simp [tx]⟩⟩
    case round =>
      obtain ⟨k, q, O, l1, lv1, g1, rfl, rfl, rfl, HI⟩ := hrel
      obtain ⟨i1, i2, i3, i4, i5, i6⟩ := unhide HI
      have hsl : Sl wr a len cap B := (unhide HB).on ((unhide HF4).st.trans' i5.fr (fun k e => .inr (by rcases e with e | e; omega; cases e))) (fun b o e h0 h => by
        have := unhide HLT _ e h0
        exact h)
      have hform : lv1 = true → ∀ x, cutA a cap q = some x → ∃ b o, x = ⟨b, o, none⟩ := fun e x hx => by
        subst e
        have h0 := runA_lv _ _ _ i3
        rw [List.length_take] at h0
        have h1 := unhide HBL
        obtain ⟨y, e1, _, e3⟩ := cutA_of.1 x hx
        exact e3 (hsl.form y e1 (by have := hsl.le; omega))
      have hblk : ∀ x, cutA a cap q = some x → 0 < len → x.block ≠ G := fun x hx h0 => by
        obtain ⟨y, e1, e2, _⟩ := cutA_of.1 x hx
        have := unhide HLT y e1 h0
        omega
      have HI2 := hide (And.intro hsl (And.intro hform hblk))
      have hcap := hsl.le
      obtain ⟨cc, hcc⟩ : ∃ cc, decide (k < len1 ∧ k < 60) = cc := ⟨_, rfl⟩
      have HCC := hide hcc
      clear hsl hform hblk hcc HI
      have HI := hide (And.intro i3 (And.intro i4 (And.intro i5 i6)))
      clear i3 i4 i5 i6
      go_upto_region 11 with fail
      go_cut [36] from 29 to 36 (fun v wx => v = .bool cc ∧ wx = wr)
      case first =>
        by_cases h1 : k < len1
        · have h1' : (k : Int) < len1 := by omega
          by_cases h2 : k < 60
          · have h2' : (k : Int) < 60 := by omega
            have HE := hide (show cc = true by rw [← unhide HCC]; exact decide_eq_true ⟨h1, h2⟩)
            go_wp2_with fail
            go_meet
            exact ⟨by rw [unhide HE], rfl⟩
          · have h2' : ¬ (k : Int) < 60 := by omega
            have HE := hide (show cc = false by rw [← unhide HCC]; exact decide_eq_false (fun h => h2 h.2))
            go_wp2_with fail
            go_meet
            exact ⟨by rw [unhide HE], rfl⟩
        · have h1' : ¬ (k : Int) < len1 := by omega
          have HE := hide (show cc = false by rw [← unhide HCC]; exact decide_eq_false (fun h => h1 h.1))
          go_wp2_with fail
          go_meet
          exact ⟨by rw [unhide HE], rfl⟩
      case rest =>
      obtain ⟨rfl, hwc⟩ := hcut
      rw [hwc]
      clear hwc
      cases cc with
      | true =>
        obtain ⟨hk1, hk2⟩ : k < len1 ∧ k < 60 := of_decide_eq_true (unhide HCC)
        obtain ⟨xb, xo, e, c0⟩ := unhide HZ k hk1
        obtain ⟨i3, i4, i5, i6⟩ := unhide HI
        obtain ⟨hsl, hform, hblk⟩ := unhide HI2
        have c1 : wr.cell? ⟨xb, xo + k, none⟩ = some (iv (zs k)) := ((unhide HF4).st.trans' i5.fr (fun k e => .inr (by rcases e with e | e; omega; cases e)) : Still W wr).cell' c0 (fun h => h)
        subst e
        have hk1' : (k : Int) < len1 := by omega
        obtain ⟨u, hu⟩ : ∃ u, msk (zs k) 63 = u := ⟨_, rfl⟩
        have mu : bits .and .i64 (zs k) 63 = (u : Int) := hu ▸ mask_i64 (zs k) 63 (by omega)
        have lu : u ≤ 63 := hu ▸ msk_le (zs k) 63
        obtain ⟨nn, hnn⟩ : ∃ nn, min u (len - q) = nn := ⟨_, rfl⟩
        have hmn : min (u : Int) ((len : Int) - (q : Int)) = (nn : Int) := by omega
        have hs : ∀ w, (Instr.slice 26 (.slice a len cap) (some (.int .i64 (q : Int))) (some (.int .i64 ((q : Int) + (nn : Int)))) none).run Try.prog w = .ok (.slice (cutA a cap q) nn (cap - q)) w := fun w => by
          have h9 := slice_mid a len cap q (q + nn) .i64 .i64 w (by omega) (by omega)
          rw [show q + nn - q = nn by omega, show ((q + nn : Nat) : Int) = (q : Int) + nn by omega] at h9
          exact h9
        have hsl2 : Sl wr (cutA a cap q) nn (cap - q) ((B.drop q).take nn) := (hsl.drop q).take nn (by omega)
        obtain ⟨l2, lv2, f1, f2, f3, f4⟩ := feedA l1 lv1 ((B.drop q).take nn) i4
        have KF := hide (feed_ok i5.fm _ nn (cap - q) _ hsl2 (by omega) (by omega) (fun x e h0 => hblk x e (by omega)) hform)
        rw [f1] at KF
        have hl2 : l2.length ≤ 320 := by
          have := i4.len
          rw [List.length_take] at f4
          omega
        have hnn63 : nn ≤ 63 := by omega
        have hqn : q + nn ≤ len := by omega
        have HTOT := hide (show runA [] false (B.take (q + nn)) = (O ++ (runA [] lv2 l2).1, (runA [] lv2 l2).2) by
          rw [List.take_add, runA_app, i3, f3])
        have H2 := hide f2
        have HX := hide (And.intro i5 i6)
        clear hu hnn i3 i4 i5 i6 hsl hform hblk hsl2 f1 f2 f3 f4 HI HI2 c0
        generalize zs k = z at *
        generalize (B.drop q).take nn = M at *
        generalize cutA a cap q = aq at *
        go_wp2_with fail
        refine (unhide KF).mono ?_
        rintro e w5 ⟨rfl, g5, x5⟩
        have HX5 := hide x5
        have KD := hide (drain_ok x5.fm (by omega) (by omega) (unhide H2))
        clear KF x5
        have hO : (tx O).length ≤ 5400000 := by have := (unhide HX).2; omega
        go_wp2_with fail
        refine (unhide KD).mono ?_
        rintro e w6 ⟨rfl, g6, x6, d6, t6⟩
        have hadd : ∀ w, (Op.stringOp .add (bs (tx O)) (bs (tx (runA [] lv2 l2).1))).run Try.prog w = .ok (.string (bs (tx O ++ tx (runA [] lv2 l2).1))) w := fun w => bs_add _ _ (by omega) w
        have HX6 := hide (And.intro x6 (And.intro d6 t6))
        clear x6 d6 t6 KD
        generalize hR : runA [] lv2 l2 = R at *
        clear hR
        obtain ⟨O2, l3, lv3⟩ := R
        go_wp2_with fail
        obtain ⟨x6, d6, t6⟩ := unhide HX6
        have x7 := (unhide HX5).trans x6
        refine ⟨⟨k + 1, q + nn, O ++ O2, l3, lv3, g6, by rw [tx_app], by go_num, by go_num, hide ⟨by omega, hqn, unhide HTOT, d6, (unhide HX).1.trans ⟨x7.fm.more (by omega), x7.fr, x7.ng⟩, ?_⟩⟩, by simp [RowKit.intOf]; omega⟩
        rw [tx_app, List.length_append]
        have := (unhide HX).2
        omega
      | false =>
        obtain ⟨i3, i4, i5, i6⟩ := unhide HI
        obtain ⟨hsl, hform, hblk⟩ := unhide HI2
        have hs := fun w => slice_run a len cap q .i64 w (by omega)
        have hsl2 : Sl wr (cutA a cap q) (len - q) (cap - q) (B.drop q) := hsl.drop q
        obtain ⟨l2, lv2, f1, f2, f3, f4⟩ := feedA l1 lv1 (B.drop q) i4
        have KF := hide (feed_ok i5.fm _ (len - q) (cap - q) _ hsl2 (by omega) (by omega) (fun x e h0 => hblk x e (by omega)) hform)
        rw [f1] at KF
        have hl2 : l2.length ≤ 3258 := by
          have := i4.len
          rw [List.length_drop] at f4
          omega
        have HTOT := hide (show tx O ++ tx (runA [] lv2 l2).1 = WT by
          rw [← tx_app, ← unhide HWT]
          congr 1
          conv => rhs; rw [← List.take_append_drop q B]
          rw [runA_app, i3, f3])
        have H2 := hide f2
        have HX := hide (And.intro i5 i6)
        clear i3 i4 i5 i6 hsl hform hblk hsl2 f1 f2 f3 f4 HI HI2
        generalize B.drop q = M at *
        generalize cutA a cap q = aq at *
        go_wp2_with fail
        refine (unhide KF).mono ?_
        rintro e w5 ⟨rfl, g5, x5⟩
        have HX5 := hide x5
        have KD := hide (drain_ok x5.fm (by omega) (by omega) (unhide H2))
        clear KF x5
        have hO : (tx O).length ≤ 5400000 := by have := (unhide HX).2; omega
        go_wp2_with fail
        refine (unhide KD).mono ?_
        rintro e w6 ⟨rfl, g6, x6, d6, t6⟩
        have hadd : ∀ w, (Op.stringOp .add (bs (tx O)) (bs (tx (runA [] lv2 l2).1))).run Try.prog w = .ok (.string (bs WT)) w := fun w => by
          have := bs_add (tx O) (tx (runA [] lv2 l2).1) (by omega) w
          rw [unhide HTOT] at this
          exact this
        have HX6 := hide x6
        clear x6 d6 t6 KD
        generalize hR : runA [] lv2 l2 = R at *
        clear hR
        obtain ⟨O2, l3, lv3⟩ := R
        go_wp2_with fail
        refine (awake_ok _).mono ?_
        rintro e w7 ⟨rfl, hs7⟩
        have HS := hide hs7
        clear hs7
        go_wp2_with fail
        go_ret
        have x7 := ((unhide HX).1.trans (unhide HX5)).trans (unhide HX6)
        have s6 : Still W w6 := (unhide HF4).st.trans' x7.fr (fun k e => .inr (by rcases e with e | e; omega; cases e))
        exact ⟨rfl, (s6.trans (unhide HS)).below (Nat.le_refl _) (fun _ h => h.elim)⟩
end Go.Proofs.Ytpidfndcihljmaa
