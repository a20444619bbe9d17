/- FrameEmpty. -/
import Derived.Test.YtpidfndcihljmaaYk
import Derived.Test.YtpidfndcihljmaaIn
import Derived.Deep.Cut
namespace Go.Proofs.Ytpidfndcihljmaa
open Go.RowKit

set_option maxRecDepth 100000 in
set_option maxHeartbeats 4000000 in
theorem empty_ok (n : Int) (a : Option Addr) (len cap : Nat) (zs : Nat → Bool) (W : World) (hB : Bools W a len zs) (hlen : len ≤ maxLen) : Calls Try.prog 5 #[iv n, .slice a len cap] W fun e w' => e = .returned (.bool true) ∧ Below W.heap.size W w' := by
  have HB := hide hB
  have hlen2 : len ≤ 9223372036854775807 := by unfold maxLen at hlen; omega
  obtain ⟨m, hm0⟩ : ∃ m, msk n 31 = m := ⟨_, rfl⟩
  have m1 : bits .and .i64 n 31 = (m : Int) := hm0 ▸ mask_i64 n 31 (by omega)
  have l1 : m ≤ 31 := hm0 ▸ msk_le n 31
  clear hm0 hB hlen
  go_enter Try.func5, Try.ntmps5
  go_wp2_with fail
  refine (new_ok W).mono ?_
  rintro e w1 ⟨rfl, m1', s1⟩
  have HF := hide (Fs.new (Fr.refl _ W) s1 m1')
  clear m1' s1
  obtain ⟨w2, hmk, o2, s2, z2⟩ := make_ok m (by omega) w1
  have HF2 := hide ((unhide HF).still s2)
  have hfb : W.heap.size < w1.heap.size := (unhide HF).fm.lt.1
  generalize hb : w1.heap.size = b at *
  have H2 := hide (show Own w2 b (.slice (some ⟨b, 0, none⟩) m m) (rowF (fun _ => 10) m 0) by rw [rowF_zero]; exact o2)
  clear o2 s2 HF z2 hb
  go_wp2_with fail
  clear hmk
  go_loopw [23] (fun i wp => ∃ k : Nat, i = iv k ∧ Hid (k ≤ m ∧ Own wp b (.slice (some ⟨b, 0, none⟩) m m) (rowF (fun _ => 10) m k) ∧ Fr (fun j => j = b) w2 wp)) (fun i wp => m - (RowKit.intOf i).toNat)
  case atStart => exact ⟨0, rfl, hide ⟨Nat.zero_le _, unhide H2, Fr.refl _ _⟩⟩
  case round =>
    obtain ⟨k, rfl, HI⟩ := hrel
    have hk := (unhide HI).1
    by_cases hlt : k < m
    · have hlt' : (k : Int) < m := by omega
      have hc := (unhide HI).2.1.at.2.2.2.2.1 k hlt
      have hz := (unhide HI).2.1.at.2.2.2.2.2 k
      go_wp2_with fail
      exact ⟨⟨k + 1, by go_num, hide ⟨by omega, (unhide HI).2.1.fill (unhide HI).2.2 _ rfl⟩⟩, by simp [RowKit.intOf]; omega⟩
    · have hlt' : ¬ (k : Int) < m := by omega
      have hs := (unhide HI).2.1.slAt
      rw [rowF_full _ _ _ (by omega)] at hs
      have F3 : Fs W wr W.heap.size none [] false 0 0 := by
        have h2 := unhide HF2
        exact ⟨h2.fm.on (unhide HI).2.2 (by omega) (fun _ e => by cases e), h2.st.trans' (unhide HI).2.2 (fun j e => .inr (by omega)), h2.fge, h2.gge⟩
      have KF := hide (feed_ok F3.fm _ m m _ hs (by omega) (by omega) (fresh_ne hfb) no_lv)
      rw [feed_fresh] at KF
      have HF3 := hide F3
      clear hs F3 HI HF2 H2
      go_wp2_with fail
      refine (unhide KF).mono ?_
      rintro e w3 ⟨rfl, g3, x3⟩
      have HF4 := hide ((unhide HF3).step x3)
      clear KF HF3 x3
      go_wp2_with fail
      have h0 : (List.range m).map (fun _ => (10 : UInt8)) = List.replicate (m - 0) 10 := by
        apply List.ext_getElem
        · simp
        · intro i h1 h2; simp
      rw [h0] at HF4
      clear hfb h0
      go_loopw [8] (fun i wq => ∃ (t : Nat) (g : Option Nat), i = iv t ∧ Hid (t ≤ m + 1 ∧ Fs W wq W.heap.size g (List.replicate (m - t) 10) false 0 (0 + m))) (fun i wq => m + 1 - (RowKit.intOf i).toNat)
      case atStart => exact ⟨0, g3, rfl, hide ⟨Nat.zero_le _, unhide HF4⟩⟩
      case round =>
        obtain ⟨t, g, rfl, HI⟩ := hrel
        obtain ⟨ht, hF⟩ := unhide HI
        have HF := hide hF
        clear HI hF HF4
        by_cases hle : t ≤ m
        · have hle' : (t : Int) ≤ m := by omega
          go_upto_region 15 with fail
          go_cut [47] from 38 to 47 (fun v wx => ∃ c, v = .bool c ∧ wx = wr)
          case first =>
            by_cases h1 : t < len
            · have h1' : (t : Int) < len := by omega
              obtain ⟨xb, xo, rfl, c0⟩ := unhide HB t h1
              have c1 := (unhide HF).st.cell' c0 (fun x => x)
              generalize zs t = zz at c1
              clear c0 h1
              cases zz with
              | true => go_wp2_with fail; go_meet; exact ⟨_, rfl, rfl⟩
              | false => go_wp2_with fail; go_meet; exact ⟨_, rfl, rfl⟩
            · have h1' : ¬ (t : Int) < len := by omega
              go_wp2_with fail
              go_meet
              exact ⟨false, rfl, rfl⟩
          case rest =>
            obtain ⟨c, rfl, rfl⟩ := hcut
            by_cases hlt : t < m
            · have hlt' : (t : Int) < m := by omega
              have hL : List.replicate (m - t) (10 : UInt8) = [] ++ 10 :: List.replicate (m - (t + 1)) 10 := by
                rw [show m - t = (m - (t + 1)) + 1 by omega, List.replicate_succ]; rfl
              rw [hL] at HF
              generalize hR : List.replicate (m - (t + 1)) (10 : UInt8) = R at *
              have HRR := hide hR
              clear hR
              have hmt : (m : Int) + 1 - (t + 1) < m + 1 - t := by omega
              clear hL
              cases c with
              | true =>
                have KP := hide (payload_ok (unhide HF).fm (by omega) 0)
                go_wp2_with fail
                refine (unhide KP).mono ?_
                rintro e w5 ⟨_, h2⟩
                obtain ⟨a2, cap2, g', rfl, _, hx⟩ := h2 (by simp)
                have HX := hide ((unhide HF).step hx)
                clear hx h2 KP HF
                go_wp2_with fail
                exact ⟨⟨t + 1, g', by go_num, hide ⟨by omega, by rw [unhide HRR]; have h := unhide HX; rwa [show List.drop (plN ([] ++ (10 : UInt8) :: R) (Int.toNat 0)) ([] ++ (10 : UInt8) :: R) = R by simp [plN]] at h⟩⟩, by simp [RowKit.intOf]; omega⟩
              | false =>
                have KL := hide (line_ok (unhide HF).fm (by omega))
                rw [lineR_app [] R false (by simp), show cut13 [] = ([] : List UInt8) from rfl] at KL
                simp only [List.length_nil, Nat.zero_le, if_true, show bs [] = ⟨#[]⟩ from rfl] at KL
                go_wp2_with fail
                refine (unhide KL).mono ?_
                rintro e w5 ⟨rfl, g', hx⟩
                have HX := hide ((unhide HF).step hx)
                clear hx KL HF
                go_wp2_with fail
                exact ⟨⟨t + 1, g', by go_num, hide ⟨by omega, by rw [unhide HRR]; exact unhide HX⟩⟩, by simp [RowKit.intOf]; omega⟩
            · have hlt' : ¬ (t : Int) < m := by omega
              have hL : List.replicate (m - t) (10 : UInt8) = [] := by rw [show m - t = 0 by omega]; rfl
              have hL2 : List.replicate (m - (t + 1)) (10 : UInt8) = [] := by rw [show m - (t + 1) = 0 by omega]; rfl
              rw [hL] at HF
              clear hL
              cases c with
              | true =>
                have KP := hide (payload_ok (unhide HF).fm (by omega) 0)
                go_wp2_with fail
                refine (unhide KP).mono ?_
                rintro e w5 ⟨h1, _⟩
                obtain ⟨rfl, hx⟩ := h1 (by simp)
                have HX := hide ((unhide HF).step hx)
                clear hx h1 KP HF
                go_wp2_with fail
                exact ⟨⟨t + 1, g, by go_num, hide ⟨by omega, by rw [hL2]; exact unhide HX⟩⟩, by simp [RowKit.intOf]; omega⟩
              | false =>
                have KL := hide (line_ok (unhide HF).fm (by omega))
                rw [lineR_none [] false (by simp)] at KL
                simp only [List.length_nil, show ¬ (258 ≤ 0) by omega, if_false, show bs [] = ⟨#[]⟩ from rfl] at KL
                go_wp2_with fail
                refine (unhide KL).mono ?_
                rintro e w5 ⟨rfl, g', hx⟩
                have HX := hide ((unhide HF).step hx)
                clear hx KL HF
                go_wp2_with fail
                exact ⟨⟨t + 1, g', by go_num, hide ⟨by omega, by rw [hL2]; exact unhide HX⟩⟩, by simp [RowKit.intOf]; omega⟩
        · have hle' : ¬ (t : Int) ≤ m := by omega
          have hnil : List.replicate (m - t) (10 : UInt8) = [] := by rw [show m - t = 0 by omega]; rfl
          have hlen : ((List.replicate (m - t) (10 : UInt8)).length : Int) = 0 := by rw [hnil]; rfl
          have KW := hide (waiting_ok (unhide HF).fm (by omega))
          rw [hlen] at KW
          clear hnil hlen
          go_wp2_with fail
          refine (unhide KW).mono ?_
          rintro e w5 ⟨rfl, q, rfl⟩
          go_wp2_with fail
          refine (awake_ok _).mono ?_
          rintro e w6 ⟨rfl, hs⟩
          have HS := hide (((unhide HF).drewN q).st.trans hs)
          clear hs
          go_wp2_with fail
          go_ret
          exact ⟨rfl, (unhide HS).below (Nat.le_refl _) (fun _ h => h.elim)⟩
end Go.Proofs.Ytpidfndcihljmaa
