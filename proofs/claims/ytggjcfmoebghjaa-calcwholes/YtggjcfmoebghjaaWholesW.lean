/- CalcWholes walked. -/
import Derived.Test.YtggjcfmoebghjaaWhM
import Derived.Test.YtggjcfmoebghjaaOwns
namespace Go.Proofs.Ytggjcfmoebghjaa
open Go.RowKit

/-- A number of 20 bits, with its sign. -/
def v20 (z : Int) : Int := (msk z 1048575 : Int) - 524288
theorem v20_le (z : Int) : (v20 z).natAbs ≤ 524288 := by
  have := msk_le z 1048575
  unfold v20; omega

theorem one_of {o : Option Nat} {x : Nat} (h : o = some x) : one o = x := by rw [h]; rfl

set_option maxRecDepth 100000 in
set_option maxHeartbeats 4000000 in
theorem wholes_ok (a0 : Option Addr) (len0 cap0 : Nat) (z0 : Nat → Int) (turn : Int) (w : World) (hN0 : Nums .i64 w a0 len0 z0) :
    Calls Try.prog 3 #[.slice a0 len0 cap0, .int .i64 turn] w fun e w' => e = .returned (.bool true) ∧ Below w.heap.size w w' := by
  have HN0 := hide hN0
  clear hN0
  go_enter Try.func3, Try.ntmps3
  go_wp2
  go_loopw [5, 6, 7, 8] (fun v vn vi _ wr => ∃ (k : Nat) (n : Int), k ≤ len0 ∧ k ≤ 50 ∧ vi = .int .i64 k ∧ vn = .int .i64 n ∧ n = sumI (fun i => v20 (z0 i)) k ∧ Own wr w.heap.size v (mapl (fun i => v20 (z0 i)) k) ∧ Below w.heap.size w wr) (fun v vn vi _ wr => 50 - (RowKit.intOf vi).toNat)
  case atStart => exact ⟨0, 0, Nat.zero_le _, Nat.zero_le _, rfl, rfl, rfl, Own.nil _ _, Below.refl _ _⟩
  case round =>
    obtain ⟨k, n, hk, hk50, rfl, rfl, hn, hO, hB⟩ := hrel
    have hnb := sumI_bound (fun i => v20 (z0 i)) 524288 k (fun i _ => v20_le _)
    rw [← hn] at hnb
    have hn1 : -26214400 ≤ n ∧ n ≤ 26214400 := by omega
    obtain ⟨hn1, hn2⟩ := hn1
    have HNn := hide hn
    clear hn hnb
    by_cases hlt : k < len0 ∧ k < 50
    · obtain ⟨hlt, h50⟩ := hlt
      have hlt' : (k : Int) < len0 := by omega
      have h50' : (k : Int) < 50 := by omega
      obtain ⟨xb, xo, rfl, c⟩ := (unhide HN0).on hB k hlt
      have hmk : bits .and .i64 (z0 k) 1048575 = (msk (z0 k) 1048575 : Int) := mask_i64 (z0 k) 1048575 (by decide)
      have hml := msk_le (z0 k) 1048575
      have hsz := hB.size
      have HO := hide hO
      have HB := hide hB
      have hy := (fl_lt (v20 (z0 k)) (by have := v20_le (z0 k); omega)).1
      have hcv : floatOfInt .f64 ((msk (z0 k) 1048575 : Int) - 524288) = fl (v20 (z0 k)) := rfl
      have HL := hide (show (mapl (fun i => v20 (z0 i)) k).length ≤ 1000 by rw [mapl_len]; omega)
      have HS := hide (show mapl (fun i => v20 (z0 i)) (k + 1) = mapl (fun i => v20 (z0 i)) k ++ [fl (v20 (z0 k))] from mapl_succ _ k)
      have HNN := hide (show n + ((msk (z0 k) 1048575 : Int) - 524288) = sumI (fun i => v20 (z0 i)) (k + 1) by rw [sumI, ← unhide HNn]; rfl)
      clear hO hB
      generalize fl (v20 (z0 k)) = y at *
      generalize msk (z0 k) 1048575 = q at *
      go_wp2_with (at_builtin; refine append_fl wr rfl (.tmp 28) (.tmp 31) rfl w.heap.size _ hy u5 _ rfl (unhide HO) rfl (unhide HL) hsz ?_)
      intro v' w2 hP
      have HP := hide hP
      clear hP
      go_wp2
      go_roundw
      case rel => exact ⟨k + 1, n + ((q : Int) - 524288), by omega, by omega, by go_num, rfl, unhide HNN, by rw [unhide HS]; exact (unhide HP).own, (unhide HB).trans (unhide HP).bel⟩
      case measure => simp [RowKit.intOf]; omega
    · obtain ⟨va, ca, hva, hX, _⟩ := hO.fls
      rw [mapl_len] at hva
      subst hva
      have HX := hide hX
      have HB := hide hB
      clear hX hB hO HN0
      rcases (show (¬ k < len0) ∨ (k < len0 ∧ ¬ k < 50) by omega) with hw | ⟨hw, hw2⟩
      all_goals
        clear hlt
        first
          | have hw' : ¬ (k : Int) < len0 := by omega
          | have hw' : (k : Int) < len0 := by omega
            have hw2' : ¬ (k : Int) < 50 := by omega
        go_wp2_with fail
        generalize wr = w1 at *
        clear wr
        go_loopw [9, 10] (fun v vi wx => ∃ q : Nat, q ≤ k ∧ vi = .int .i64 q ∧ Own wx w1.heap.size v (mapl (fun i => v20 (z0 ((i + msk turn 65535) % k))) q) ∧ Below w1.heap.size w1 wx) (fun v vi wx => k - (RowKit.intOf vi).toNat)
        case atStart => exact ⟨0, Nat.zero_le _, rfl, Own.nil _ _, Below.refl _ _⟩
        case round =>
          obtain ⟨q, hq, rfl, hO, hB⟩ := hrel
          by_cases hlt : q < k
          · have hlt' : (q : Int) < k := by omega
            have hmk : bits .and .i64 turn 65535 = (msk turn 65535 : Int) := mask_i64 turn 65535 (by decide)
            have hml := msk_le turn 65535
            obtain ⟨r, hr⟩ : ∃ r, r = (q + msk turn 65535) % k := ⟨_, rfl⟩
            have hrk : r < k := by rw [hr]; exact Nat.mod_lt _ (by omega)
            obtain ⟨xb, xo, rfl, c, hc⟩ := (unhide HX).on hB r (by rw [mapl_len]; exact hrk)
            have hg : (mapl (fun i => v20 (z0 i)) k).getD r 0 = fl (v20 (z0 r)) := by simp [mapl, hrk]
            rw [hg] at c hc
            have HS := hide (show mapl (fun i => v20 (z0 ((i + msk turn 65535) % k))) (q + 1) = mapl (fun i => v20 (z0 ((i + msk turn 65535) % k))) q ++ [fl (v20 (z0 r))] by rw [hr]; exact mapl_succ _ q)
            have htm : ((q : Int) + (msk turn 65535 : Int)).tmod (k : Int) = (r : Int) := by
              rw [hr, Int.tmod_eq_emod_of_nonneg (by omega)]; simp
            have htm2 : ((q : Int) + (msk turn 65535 : Int)) % (k : Int) = (r : Int) := by rw [hr]; simp
            have hsz := hB.size
            have HO := hide hO
            have HBx := hide hB
            have HL := hide (show (mapl (fun i => v20 (z0 ((i + msk turn 65535) % k))) q).length ≤ 1000 by rw [mapl_len]; omega)
            clear hO hB hr hg
            generalize mapl (fun i => v20 (z0 ((i + msk turn 65535) % k))) q = Y at *
            generalize msk turn 65535 = t at *
            generalize fl (v20 (z0 r)) = y at *
            go_wp2_with (at_builtin; refine append_fl wr rfl (.tmp 42) (.tmp 53) rfl w1.heap.size _ hc u9 _ rfl (unhide HO) rfl (unhide HL) hsz ?_)
            intro v' w2 hP
            have HP := hide hP
            clear hP
            go_wp2
            go_roundw
            case rel => exact ⟨q + 1, by omega, by go_num, by rw [unhide HS]; exact (unhide HP).own, (unhide HBx).trans (unhide HP).bel⟩
            case measure => simp [RowKit.intOf]; omega
          · obtain rfl : q = k := by omega
            have hlt' : ¬ (q : Int) < q := by omega
            obtain ⟨vb, cb, hvb, hY, _⟩ := hO.fls
            rw [mapl_len] at hvb
            subst hvb
            have hX := (unhide HX).on hB
            have bd : ∀ i, i < q → (v20 (z0 i)).natAbs ≤ 524288 := fun i _ => v20_le _
            have bd2 : ∀ i, i < q → (v20 (z0 i)).natAbs < 1000000000000000 := fun i _ => Nat.lt_of_le_of_lt (v20_le _) (by decide)
            have hqb : q * 524288 < 1000000000000000 := Nat.lt_of_le_of_lt (Nat.mul_le_mul_right _ hk50) (by decide)
            have eX := one_of (sum_mapl (fun i => v20 (z0 i)) 524288 q bd hqb (by decide))
            have eY := one_of (sum_mapl (fun i => v20 (z0 ((i + msk turn 65535) % q))) 524288 q (fun i _ => v20_le _) hqb (by decide))
            rw [sumI_turn (fun i => v20 (z0 i)) (msk turn 65535) q, ← unhide HNn] at eY
            rw [← unhide HNn] at eX
            have lx := mapl_len (fun i => v20 (z0 i)) q
            have ly := mapl_len (fun i => v20 (z0 ((i + msk turn 65535) % q))) q
            have S1 := sum_ok va ca _ wr hX (by rw [lx]; omega)
            rw [lx, eX] at S1
            have S2 := fun n => sum_ok vb cb _ (wr.drewN n) (hY.drewN n) (by rw [ly]; omega)
            rw [ly, eY] at S2
            have hnn : n.natAbs < 1000000000000000 := by omega
            have oF : (FloatKind.f64.format.order (fl n) (fl n) != some Ordering.eq) = false := by rw [ord_self _ (fl_lt n hnn).1]; exact (fl_lt n hnn).2
            have hcv : floatOfInt .f64 n = fl n := rfl
            have HB2 := hide (below_step (unhide HB) hB)
            have A := hide awake_ok
            have HS1 := hide S1; have HS2 := hide S2
            by_cases hz : q = 0
            · subst hz
              clear S1 S2 hX hY hB hO HX lx ly eX eY bd bd2 HNn
              generalize fl n = F at *
              go_wp2_with fail
              refine (unhide HS1).mono ?_
              rintro e w' ⟨rfl, n5, rfl⟩
              go_wp2_with fail
              refine (unhide HS2 _).mono ?_
              rintro e w' ⟨rfl, n6, rfl⟩
              go_wp2_with fail
              refine (unhide A _).mono ?_
              rintro e w9 ⟨rfl, h9⟩
              have H9 := hide h9
              clear h9
              go_wp2
              go_ret
              exact ⟨rfl, below_step (below_step (unhide HB2) (below_drewN' wr _)) (unhide H9)⟩
            · obtain ⟨k, rfl⟩ : ∃ k, q = k + 1 := ⟨q - 1, by omega⟩
              obtain ⟨M, hM, m1, m2, mlo, mhi⟩ := quot_bounds n (k + 1) hnn (by omega) (by omega)
              obtain ⟨j1, hj1, f1, g1⟩ := lo_mapl (fun i => v20 (z0 i)) k bd2
              obtain ⟨j2, hj2, f2, g2⟩ := hi_mapl (fun i => v20 (z0 i)) k bd2
              have an := any_mapl (fun i => v20 (z0 i)) (k + 1) bd2
              have eL : least (mapl (fun i => v20 (z0 i)) (k + 1)) = fl (v20 (z0 j1)) := by unfold least; rw [an]; exact f1
              have eM : most (mapl (fun i => v20 (z0 i)) (k + 1)) = fl (v20 (z0 j2)) := by unfold most; rw [an]; exact f2
              have w1' := mlo (v20 (z0 j1)) (bd2 j1 hj1) (by rw [unhide HNn]; exact sumI_ge _ _ _ g1)
              have w2' := mhi (v20 (z0 j2)) (bd2 j2 hj2) (by rw [unhide HNn]; exact sumI_le _ _ _ g2)
              have C3 := fun n => mean_ok va ca _ (wr.drewN n) (hX.drewN n) (by rw [lx]; omega)
              have C4 := fun n => min_ok va ca _ (wr.drewN n) (hX.drewN n) (by rw [lx]; omega)
              have C5 := fun n => max_ok va ca _ (wr.drewN n) (hX.drewN n) (by rw [lx]; omega)
              have eMean : one (meanO (mapl (fun i => v20 (z0 i)) (k + 1))) = M := by
                unfold meanO
                rw [sum_mapl (fun i => v20 (z0 i)) 524288 (k + 1) bd hqb (by decide), ← unhide HNn, lx]
                show one (divB (fl n) (fl ((k + 1 : Nat) : Int))) = M
                rw [hM]; rfl
              rw [lx, eMean] at C3
              rw [lx, eL] at C4
              rw [lx, eM] at C5
              have o1 := ord_geq M (fl (v20 (z0 j1))) m1 (fl_lt _ (bd2 j1 hj1)).1 m2 (fl_lt _ (bd2 j1 hj1)).2 w1'
              have o2 := ord_leq M (fl (v20 (z0 j2))) m1 (fl_lt _ (bd2 j2 hj2)).1 m2 (fl_lt _ (bd2 j2 hj2)).2 w2'
              have o3 : (FloatKind.f64.format.order M M == some Ordering.eq) = true := by rw [ord_self' M m1, m2]; rfl
              have hcv2 : floatOfInt .f64 ((k : Int) + 1) = fl ((k + 1 : Nat) : Int) := rfl
              have hdiv := fun t w => div_run_some (fl n) (fl ((k + 1 : Nat) : Int)) M hM t w
              have HC3 := hide C3; have HC4 := hide C4; have HC5 := hide C5
              clear S1 S2 hX hY hB hO HX lx ly eX eY bd bd2 HNn C3 C4 C5 eL eM eMean an f1 f2 g1 g2 w1' w2' mlo mhi hM
              generalize fl (v20 (z0 j1)) = L1 at *
              generalize fl (v20 (z0 j2)) = L2 at *
              generalize fl ((k + 1 : Nat) : Int) = N1 at *
              generalize fl n = F at *
              go_wp2_with fail
              refine (unhide HS1).mono ?_
              rintro e w' ⟨rfl, n5, rfl⟩
              go_wp2_with fail
              refine (unhide HS2 _).mono ?_
              rintro e w' ⟨rfl, n6, rfl⟩
              go_wp2_with fail
              refine (unhide HC3 _).mono ?_
              rintro e w' ⟨rfl, n7, rfl⟩
              go_wp2_with fail
              refine (unhide HC4 _).mono ?_
              rintro e w' ⟨rfl, h⟩; rw [h]; clear h w'
              go_wp2_with fail
              refine (unhide HC5 _).mono ?_
              rintro e w' ⟨rfl, h⟩; rw [h]; clear h w'
              go_wp2_with fail
              refine (unhide A _).mono ?_
              rintro e w9 ⟨rfl, h9⟩
              have H9 := hide h9
              clear h9
              go_wp2
              go_ret
              exact ⟨rfl, below_step (below_step (unhide HB2) (below_drewN' wr _)) (unhide H9)⟩
end Go.Proofs.Ytggjcfmoebghjaa
