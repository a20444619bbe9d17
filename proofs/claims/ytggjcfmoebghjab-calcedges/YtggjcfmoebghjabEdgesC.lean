/- CalcEdges walked. -/
import Derived.Test.YtggjcfmoebghjabEdgeM
import Derived.Test.YtggjcfmoebghjabOwns
namespace Go.Proofs.Ytggjcfmoebghjab
open Go.RowKit

theorem ord_fl2 (n : Int) (h : n.natAbs < 1000000000000000) : (FloatKind.f64.format.order (fl n) (fl n) == some Ordering.eq) = true := by
  obtain ⟨h1, h2⟩ := fl_lt n h
  rw [ord_self' _ h1, h2]; rfl
/-- The sum of minus nought alone. -/
theorem sum_mz (w : World) : Calls Try.prog 6 #[.slice (some ⟨w.heap.size, 0, none⟩) 1 1] (w.alloc (.cells #[.float .f64 9223372036854775808] 24)) fun e w' => e = .returned (.float .f64 0) ∧ Below w.heap.size w w' := by
  have h := sum_ok (some ⟨w.heap.size, 0, none⟩) 1 [9223372036854775808] (w.alloc (.cells #[.float .f64 9223372036854775808] 24)) (fls_alloc w [9223372036854775808] 24 (fun z hz => by simp only [List.mem_cons, List.not_mem_nil, or_false] at hz; rw [hz]; decide)) (by simp)
  rw [show one (sumO [9223372036854775808]) = 0 by decide +kernel] at h
  refine h.mono ?_
  rintro e w' ⟨rfl, n, rfl⟩
  exact ⟨rfl, below_step ((Below.refl _ w).alloc (Nat.le_refl _) _) (below_drewN' _ _)⟩

set_option maxRecDepth 100000 in
set_option maxHeartbeats 1000000 in
theorem edges_000 (a0 : Option Addr) (len0 cap0 : Nat) (z0 : Nat → Int) (w : World) (hN0 : Nums .i64 w a0 len0 z0) :
    Calls Try.prog 3 #[.slice a0 len0 cap0, .bool false, .bool false, .bool false] w fun e w' => e = .returned (.bool true) ∧ Below w.heap.size w w' := by
  have HN0 := hide hN0
  clear hN0
  go_enter Try.func3, Try.ntmps3
  go_wp2
  go_loopw [9, 10] (fun v vi wr => ∃ k : Nat, k ≤ len0 ∧ k ≤ 30 ∧ vi = .int .i64 k ∧ Own wr w.heap.size v (mapl (fun i => (msk (z0 i) 65535 : Nat)) k) ∧ Below w.heap.size w wr) (fun v vi wr => 30 - (RowKit.intOf vi).toNat)
  case atStart => exact ⟨0, Nat.zero_le _, Nat.zero_le _, rfl, Own.nil _ _, Below.refl _ _⟩
  case round =>
    obtain ⟨k, hk, hk30, rfl, hO, hB⟩ := hrel
    by_cases hlt : k < len0 ∧ k < 30
    · obtain ⟨hlt, h30⟩ := hlt
      have hlt' : (k : Int) < len0 := by omega
      have h30' : (k : Int) < 30 := by omega
      obtain ⟨xb, xo, rfl, c⟩ := (unhide HN0).on hB k hlt
      have hmk : bits .and .i64 (z0 k) 65535 = (msk (z0 k) 65535 : Int) := mask_i64 (z0 k) 65535 (by decide)
      have hml := msk_le (z0 k) 65535
      have hsz := hB.size
      have HO := hide hO
      have HB := hide hB
      have hy := (fl_lt (msk (z0 k) 65535 : Nat) (by rw [Int.natAbs_natCast]; omega)).1
      have hcv : floatOfInt .f64 ((msk (z0 k) 65535 : Nat) : Int) = fl (msk (z0 k) 65535 : Nat) := rfl
      have HL := hide (show (mapl (fun i => (msk (z0 i) 65535 : Nat)) k).length ≤ 1000 by rw [mapl_len]; omega)
      have HS := hide (mapl_succ (fun i => (msk (z0 i) 65535 : Nat)) k)
      clear hO hB
      generalize fl (msk (z0 k) 65535 : Nat) = y at *
      generalize msk (z0 k) 65535 = q at *
      go_wp2_with (at_builtin; refine append_fl wr rfl (.tmp 27) (.tmp 34) rfl w.heap.size _ hy u9 _ rfl (unhide HO) rfl (unhide HL) hsz ?_)
      intro v' w2 hP
      have HP := hide hP
      clear hP
      go_wp2
      go_roundw
      case rel => exact ⟨k + 1, by omega, by omega, by go_num, by rw [unhide HS]; exact (unhide HP).own, (unhide HB).trans (unhide HP).bel⟩
      case measure => simp [RowKit.intOf]; omega
    · have hsz := hB.size
      have HO := hide hO
      have HB := hide hB
      have HLn := hide (show (mapl (fun i => (msk (z0 i) 65535 : Nat)) k).length = k from mapl_len _ _)
      have bd : ∀ i, i < k → ((msk (z0 i) 65535 : Nat) : Int).natAbs ≤ 65535 := fun i _ => by rw [Int.natAbs_natCast]; exact msk_le _ _
      have bd2 : ∀ i, i < k → ((msk (z0 i) 65535 : Nat) : Int).natAbs < 1000000000000000 := fun i hi => Nat.lt_of_le_of_lt (bd i hi) (by decide)
      have hkb : k * 65535 < 1000000000000000 := Nat.lt_of_le_of_lt (Nat.mul_le_mul_right _ hk30) (by decide)
      have an0 := any_mapl (fun i => (msk (z0 i) 65535 : Nat)) k bd2
      have eS := one_of (sum_mapl (fun i => (msk (z0 i) 65535 : Nat)) 65535 k bd hkb (by decide))
      have hnb := sumI_bound (fun i => (msk (z0 i) 65535 : Nat)) 65535 k bd
      obtain ⟨va, ca, hva, hF, _⟩ := hO.fls
      rw [mapl_len] at hva
      subst hva
      have C1 := sum_ok va ca _ wr hF (by rw [mapl_len]; omega)
      have C2 := fun n => min_ok va ca _ (wr.drewN n) (hF.drewN n) (by rw [mapl_len]; omega)
      have C3 := fun n => max_ok va ca _ (wr.drewN n) (hF.drewN n) (by rw [mapl_len]; omega)
      rw [mapl_len, eS] at C1
      rw [mapl_len] at C2 C3
      have HZ := hide (show k = 0 → least (mapl (fun i => (msk (z0 i) 65535 : Nat)) k) = 9218868437227405312 ∧ most (mapl (fun i => (msk (z0 i) 65535 : Nat)) k) = 18442240474082181120 from fun h => by subst h; exact ⟨rfl, rfl⟩)
      have HC1 := hide C1; have HC2 := hide C2; have HC3 := hide C3
      have A9 := hide awake_ok
      have oF := ord_fl2 _ (show (sumI (fun i => (msk (z0 i) 65535 : Nat)) k).natAbs < 1000000000000000 by omega)
      have hcv : floatOfInt .f64 (sumI (fun i => (msk (z0 i) 65535 : Nat)) k) = fl (sumI (fun i => (msk (z0 i) 65535 : Nat)) k) := rfl
      have HE := hide (show k = min len0 30 by omega)
      clear C1 C2 C3 hF hO hB bd bd2 hkb an0 eS HO HLn
      generalize least (mapl (fun i => (msk (z0 i) 65535 : Nat)) k) = lA at *
      generalize most (mapl (fun i => (msk (z0 i) 65535 : Nat)) k) = lB at *
      generalize fl (sumI (fun i => (msk (z0 i) 65535 : Nat)) k) = F at *
      rcases (show (¬ k < len0) ∨ (k < len0 ∧ ¬ k < 30) by omega) with hw | ⟨hw, hw2⟩
      all_goals
        clear hlt
        first
          | have hw' : ¬ (k : Int) < len0 := by omega
          | have hw' : (k : Int) < len0 := by omega
            have hw2' : ¬ (k : Int) < 30 := by omega
        go_wp2_with fail
        refine (unhide HC1).mono ?_
        rintro e w' ⟨rfl, n5, rfl⟩
        go_wp2_with fail
        refine (unhide HC2 _).mono ?_
        rintro e w' ⟨rfl, h⟩; rw [h]; clear h w'
        go_wp2_with fail
        refine (unhide HC3 _).mono ?_
        rintro e w' ⟨rfl, h⟩; rw [h]; clear h w'
        have HB1 := hide (below_step (unhide HB) (below_drewN' wr n5))
        clear HC1 HC2 HC3 HB hsz
        generalize wr.drewN n5 = w1 at *
        clear wr
        go_wp2_with fail
        go_loop [14, 15] (fun vt vi => ∃ (q : Nat) (t : Int), vi = .int .i64 q ∧ vt = .int .i64 t ∧ Hid (q ≤ len0 ∧ q ≤ 30 ∧ t = sumI (fun i => (msk (z0 i) 65535 : Nat)) q)) (fun vt vi => 30 - (RowKit.intOf vi).toNat)
        case atStart => exact ⟨0, 0, rfl, rfl, hide ⟨Nat.zero_le _, Nat.zero_le _, rfl⟩⟩
        case round =>
          obtain ⟨q, t, rfl, rfl, HI⟩ := hrel
          obtain ⟨q1, q2, q3⟩ := unhide HI
          by_cases hlt : q < len0 ∧ q < 30
          · obtain ⟨hlt, h30⟩ := hlt
            have hlt' : (q : Int) < len0 := by omega
            have h30' : (q : Int) < 30 := by omega
            obtain ⟨xb, xo, rfl, c⟩ := (unhide HN0).on (unhide HB1) q hlt
            have hmk : bits .and .i64 (z0 q) 65535 = (msk (z0 q) 65535 : Int) := mask_i64 (z0 q) 65535 (by decide)
            have hml := msk_le (z0 q) 65535
            have htb := sumI_bound (fun i => (msk (z0 i) 65535 : Nat)) 65535 q (fun i _ => by rw [Int.natAbs_natCast]; exact msk_le _ _)
            rw [← q3] at htb
            have ht1 : -1966050 ≤ t ∧ t ≤ 1966050 := by omega
            obtain ⟨ht1, ht2⟩ := ht1
            have J := hide (show q + 1 ≤ len0 ∧ q + 1 ≤ 30 ∧ t + (msk (z0 q) 65535 : Nat) = sumI (fun i => (msk (z0 i) 65535 : Nat)) (q + 1) from ⟨by omega, by omega, by rw [sumI, ← q3]⟩)
            clear HI q1 q2 q3 htb
            generalize msk (z0 q) 65535 = p at *
            go_wp2
            exact ⟨⟨q + 1, t + (p : Int), by go_num, rfl, J⟩, by simp [RowKit.intOf]; omega⟩
          · obtain rfl : q = k := by have := unhide HE; omega
            subst q3
            clear HI
            generalize sumI (fun i => (msk (z0 i) 65535 : Nat)) q = t at *
            have hf := from_run
            have S5 := hide (sum_mz w1)
            clear hlt
            go_wp2_with (go_at_call 10; refine (copysign_ok _).mono ?_; rintro e w' ⟨rfl, h⟩; rw [h]; clear h w')
            refine (unhide S5).mono ?_
            rintro e w2 ⟨rfl, h5⟩
            have HB2 := hide (below_step (unhide HB1) h5)
            clear h5
            by_cases hz : 0 < q
            · have hz' : (0 : Int) < q := by omega
              go_wp2_with (first | (go_at_call 11; refine (signbit_ok _ (by decide) _).mono ?_; rintro e w' ⟨rfl, h⟩; rw [h]; clear h w') | (go_at_call 9; refine (unhide A9 _).mono ?_; rintro e w9 ⟨rfl, h9⟩; have H9 := hide h9; clear h9))
              go_ret
              exact ⟨rfl, below_step (unhide HB2) (unhide H9)⟩
            · have hz' : ¬ (0 : Int) < q := by omega
              obtain ⟨z1, z2⟩ := unhide HZ (by omega)
              subst z1 z2
              have o2 : (FloatKind.f64.format.order 18442240474082181120 18442240474082181120 == some Ordering.eq) = true := by decide
              have o3 : (FloatKind.f64.format.order 9218868437227405312 9218868437227405312 == some Ordering.eq) = true := by decide
              go_wp2_with (first | (go_at_call 4; refine (inf_any _ (by decide) _).mono ?_; rintro e w' ⟨rfl, h⟩; rw [h]; clear h w'; first | rw [infB1] | rw [infB2]) | (go_at_call 11; refine (signbit_ok _ (by decide) _).mono ?_; rintro e w' ⟨rfl, h⟩; rw [h]; clear h w') | (go_at_call 9; refine (unhide A9 _).mono ?_; rintro e w9 ⟨rfl, h9⟩; have H9 := hide h9; clear h9))
              go_ret
              exact ⟨rfl, below_step (unhide HB2) (unhide H9)⟩
end Go.Proofs.Ytggjcfmoebghjab
