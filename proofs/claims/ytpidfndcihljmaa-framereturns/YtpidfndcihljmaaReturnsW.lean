/- FrameReturns. -/
import Derived.Test.YtpidfndcihljmaaYj
import Derived.Deep.Cut
namespace Go.Proofs.Ytpidfndcihljmaa
open Go.RowKit

theorem rep_succ (l : List UInt8) (c : UInt8) (k : Nat) : (l ++ List.replicate k c) ++ [c] = l ++ List.replicate (k + 1) c := by
  rw [List.append_assoc, ← List.replicate_succ']
set_option maxRecDepth 100000 in
set_option maxHeartbeats 4000000 in
theorem returns_ok (l : List UInt8) (n : Int) (hl : l.length ≤ 9223372036854775807) (W : World) : Calls Try.prog 3 #[.string (bs l), iv n] W fun e w' => e = .returned (.bool true) ∧ Below W.heap.size W w' := by
  obtain ⟨N, hN⟩ : ∃ N, l.length = N := ⟨_, rfl⟩
  have HN := hide hN
  have hsz : (bs l).size = N := by rw [bs_size]; exact hN
  have hNb : N ≤ 9223372036854775807 := by omega
  obtain ⟨m, hm0⟩ : ∃ m, msk n 3 = m := ⟨_, rfl⟩
  have m1 : bits .and .i64 n 3 = (m : Int) := hm0 ▸ mask_i64 n 3 (by omega)
  have l1 : m ≤ 3 := hm0 ▸ msk_le n 3
  clear hm0 hN hl
  go_enter Try.func3, Try.ntmps3
  go_wp2_with fail
  go_loop [5] (fun i => ∃ k : Nat, i = iv k ∧ Hid (k ≤ N ∧ ∀ j, j < k → l.getD j 0 ≠ 10)) (fun i => N - (RowKit.intOf i).toNat)
  case atStart => exact ⟨0, rfl, hide ⟨Nat.zero_le _, fun j hj => by omega⟩⟩
  case round =>
    obtain ⟨k, rfl, HI⟩ := hrel
    obtain ⟨hk, hno⟩ := unhide HI
    by_cases hlt : k < N
    · have hlt' : (k : Int) < N := by omega
      obtain ⟨x, hx⟩ : ∃ x, l[k]? = some x := ⟨_, List.getElem?_eq_getElem (by rw [unhide HN]; exact hlt)⟩
      have hix := fun w => bs_ix l k x hx w
      have hgx : l.getD k 0 = x := by rw [List.getD_eq_getElem?_getD, hx]; rfl
      have HX := hide hgx
      clear hx hgx
      by_cases he : x = 10
      · have he' := eq8 x 10 10 rfl he
        clear he HI hno
        go_wp2_with fail
        refine (awake_ok W).mono ?_
        rintro e w' ⟨rfl, hs⟩
        have HS := hide hs
        clear hs
        go_wp2_with fail
        go_ret
        exact ⟨rfl, (unhide HS).below (Nat.le_refl _) (fun _ h => h.elim)⟩
      · have he' := ne8 x 10 10 rfl he
        have HE := hide (show ∀ j, j < k + 1 → l.getD j 0 ≠ 10 from fun j hj => by
          by_cases hjk : j = k
          · subst hjk; rw [unhide HX]; exact he
          · exact hno j (by omega))
        clear he HI hno
        go_wp2_with fail
        refine ⟨⟨k + 1, by go_num, hide ⟨by omega, unhide HE⟩⟩, by simp [RowKit.intOf]; omega⟩
    · have hlt' : ¬ (k : Int) < N := by omega
      have HNO := hide (show ∀ x ∈ l, x ≠ 10 from fun x hx => by
        obtain ⟨i, hi, rfl⟩ := List.mem_iff_getElem.1 hx
        have := hno i (by have := unhide HN; omega)
        rw [List.getD_eq_getElem?_getD, List.getElem?_eq_getElem hi] at this
        exact this)
      clear HI hno
      by_cases h200 : (200 : Int) < N
      · go_wp2_with fail
        refine (awake_ok W).mono ?_
        rintro e w' ⟨rfl, hs⟩
        have HS := hide hs
        clear hs
        go_wp2_with fail
        go_ret
        exact ⟨rfl, (unhide HS).below (Nat.le_refl _) (fun _ h => h.elim)⟩
      · have hN2 : N ≤ 200 := by omega
        go_wp2_with fail
        go_loop [0, 6] (fun s i => ∃ j : Nat, i = iv j ∧ s = .string (bs (l ++ List.replicate j 13)) ∧ Hid (j ≤ m)) (fun s i => m - (RowKit.intOf i).toNat)
        case atStart => exact ⟨0, rfl, by simp, hide (Nat.zero_le _)⟩
        case round =>
          obtain ⟨j, rfl, rfl, HJ⟩ := hrel
          have hj := unhide HJ
          by_cases hjm : j < m
          · have hjm' : (j : Int) < m := by omega
            have hadd : ∀ w, (Op.stringOp .add (bs (l ++ List.replicate j 13)) ⟨#[13]⟩).run Try.prog w = .ok (.string (bs (l ++ List.replicate (j + 1) 13))) w := fun w => by
              have := bs_add (l ++ List.replicate j 13) [13] (by rw [List.length_append, List.length_replicate, unhide HN]; simp; omega) w
              rw [rep_succ] at this
              exact this
            go_wp2_with fail
            exact ⟨⟨j + 1, by go_num, rfl, hide (by omega)⟩, by simp [RowKit.intOf]; omega⟩
          · have hjm' : ¬ (j : Int) < m := by omega
            obtain ⟨X, hX⟩ : ∃ X, l ++ List.replicate j 13 = X := ⟨_, rfl⟩
            have hXl : X.length ≤ 203 := by rw [← hX, List.length_append, List.length_replicate, unhide HN]; omega
            have HX := hide (show ∀ x ∈ X, x ≠ 10 from fun x hx => by
              rw [← hX] at hx
              rcases List.mem_append.1 hx with h | h
              · exact unhide HNO x h
              · rw [List.eq_of_mem_replicate h]; decide)
            have hszX : (bs X).size = X.length := bs_size X
            rw [hX]
            clear hX HNO HN hsz
            go_wp2_with fail
            refine (new_ok W).mono ?_
            rintro e w1 ⟨rfl, m1', s1⟩
            have HF := hide (Fs.new (Fr.refl _ W) s1 m1')
            clear m1' s1
            have hadd : ∀ w, (Op.stringOp .add (bs X) ⟨#[10]⟩).run Try.prog w = .ok (.string (bs (X ++ [10]))) w := fun w => bs_add X [10] (by simp; omega) w
            obtain ⟨cap, w2, hcv, hcap, hrd, hst, hlt2⟩ := conv_bs w1 (X ++ [10])
            have S2 : Sl w2 (some ⟨w1.heap.size, 0, none⟩) (X.length + 1) cap (X ++ [10]) := ⟨by simp, by simpa using hcap, hrd, (fun e => by cases e), fun x e _ => by cases e; exact ⟨_, _, rfl⟩⟩
            have hl1 : (X ++ [10]).length = X.length + 1 := by simp
            rw [hl1] at hcv
            have F2 := (unhide HF).still hst
            have KF := hide (feed_ok F2.fm _ _ cap _ S2 (by omega) (by omega) (fresh_ne (unhide HF).fm.lt.1) no_lv)
            have HF2 := hide F2
            clear S2 F2 hrd hst hlt2 hcap HF
            rw [feed_fresh] at KF
            go_wp2_with fail
            refine (unhide KF).mono ?_
            rintro e w3 ⟨rfl, g3, x3⟩
            have HF3 := hide ((unhide HF2).step x3)
            clear KF HF2 x3 hcv hadd
            obtain ⟨cc, hcc⟩ : ∃ cc, decide (0 < X.length ∧ X.getD (X.length - 1) 0 = 13) = cc := ⟨_, rfl⟩
            have HCC := hide hcc
            clear hcc
            go_upto_region 18 with fail
            go_cut [55] from 45 to 55 (fun v wx => v = .bool cc ∧ wx = w3)
            case first =>
              by_cases h0 : 0 < X.length
              · have hp : (0 : Int) < X.length := by omega
                have hxx : (X.length : Int) - 1 = ((X.length - 1 : Nat) : Int) := by omega
                obtain ⟨y, hy⟩ : ∃ y, X[X.length - 1]? = some y := ⟨_, List.getElem?_eq_getElem (by omega)⟩
                have hix : ∀ w, (Instr.index 9 (.string (bs X)) (.int .i64 ((X.length : Int) - 1))).run Try.prog w = .ok (bv y) w := fun w => by rw [hxx]; exact bs_ix X _ y hy w
                have hyd : X.getD (X.length - 1) 0 = y := by rw [List.getD_eq_getElem?_getD, hy]; rfl
                have HP := hide (show cc = decide (y = 13) by rw [← unhide HCC, hyd]; simp [h0])
                clear hy hyd hxx h0
                by_cases he : y = 13
                · have he' := eq8 y 13 13 rfl he
                  have HE := hide he
                  clear he
                  go_wp2_with fail
                  go_meet
                  exact ⟨by rw [unhide HP, decide_eq_true (unhide HE)], rfl⟩
                · have he' := ne8 y 13 13 rfl he
                  have HE := hide he
                  clear he
                  go_wp2_with fail
                  go_meet
                  exact ⟨by rw [unhide HP, decide_eq_false (unhide HE)], rfl⟩
              · have hp : ¬ (0 : Int) < X.length := by omega
                have HC := hide (show cc = false by rw [← unhide HCC]; exact decide_eq_false (fun h => h0 h.1))
                clear h0
                go_wp2_with fail
                go_meet
                exact ⟨by rw [unhide HC], rfl⟩
            case rest =>
            obtain ⟨rfl, rfl⟩ := hcut
            go_upto_if 55 with fail
            go_cut [8] from 56 to 60 (fun v wx => v = .string (bs (cut13 X)) ∧ wx = wc)
            case first =>
              cases cc with
              | true =>
                have hd : 0 < X.length ∧ X.getD (X.length - 1) 0 = 13 := of_decide_eq_true (unhide HCC)
                have h0 : (0 : Int) < X.length := by have := hd.1; omega
                have hxx : (X.length : Int) - 1 = ((X.length - 1 : Nat) : Int) := by omega
                have hsl : ∀ w, (Instr.slice 9 (.string (bs X)) none (some (.int .i64 ((X.length : Int) - 1))) none).run Try.prog w = .ok (.string (bs (X.take (X.length - 1)))) w := fun w => by rw [hxx]; exact bs_to X _ .i64 (by omega) w
                have HC := hide (show X.take (X.length - 1) = cut13 X by unfold cut13; rw [if_pos hd])
                clear hd hxx
                generalize X.take (X.length - 1) = V at *
                go_wp2_with fail
                go_meet
                exact ⟨by rw [unhide HC], rfl⟩
              | false =>
                have HC := hide (show cut13 X = X by unfold cut13; rw [if_neg (of_decide_eq_false (unhide HCC))])
                go_wp2_with fail
                go_meet
                exact ⟨by rw [unhide HC], rfl⟩
            case rest =>
              obtain ⟨rfl, rfl⟩ := hcut
              have KL := hide (line_ok (unhide HF3).fm (by omega))
              rw [lineR_app X [] false (unhide HX), if_pos (by have := cut13_len X; omega)] at KL
              generalize cut13 X = V at *
              go_wp2_with fail
              refine (unhide KL).mono ?_
              rintro e w4 ⟨rfl, g4, x4⟩
              have HF4 := hide ((unhide HF3).step x4)
              clear KL HF3 x4
              go_wp2_with fail
              refine (waiting_ok (unhide HF4).fm (by omega)).mono ?_
              rintro e w5 ⟨rfl, q, rfl⟩
              go_wp2_with fail
              refine (awake_ok _).mono ?_
              rintro e w6 ⟨rfl, hs⟩
              have HS := hide (((unhide HF4).drewN q).st.trans hs)
              clear hs
              go_wp2_with fail
              go_ret
              exact ⟨rfl, (unhide HS).below (Nat.le_refl _) (fun _ h => h.elim)⟩
end Go.Proofs.Ytpidfndcihljmaa
