/- CalcEdges walked. -/
import Derived.Test.YtggjcfmoebghjabEdgeM
import Derived.Test.YtggjcfmoebghjabOwns
namespace Go.Proofs.Ytggjcfmoebghjab
open Go.RowKit

set_option maxRecDepth 100000 in
set_option maxHeartbeats 1000000 in
theorem edges_100 (a0 : Option Addr) (len0 cap0 : Nat) (z0 : Nat → Int) (w : World) (hN0 : Nums .i64 w a0 len0 z0) :
    Calls Try.prog 3 #[.slice a0 len0 cap0, .bool true, .bool false, .bool false] w fun e w' => e = .returned (.bool true) ∧ Below w.heap.size w w' := by
  have HN0 := hide hN0
  clear hN0
  have hinf : 9218868437227405312 < 18446744073709551616 := by decide
  have hninf : 18442240474082181120 < 18446744073709551616 := by decide
  have hnan : 9221120237041090561 < 18446744073709551616 := by decide
  go_enter Try.func3, Try.ntmps3
  go_wp2
  go_loopw [9, 10] (fun v vi wr => ∃ k : Nat, k ≤ len0 ∧ k ≤ 30 ∧ vi = .int .i64 k ∧ Own wr w.heap.size v (mapl (fun i => (msk (z0 i) 65535 : Nat)) k) ∧ Below w.heap.size w wr) (fun v vi wr => 30 - (RowKit.intOf vi).toNat)
  case atStart => exact ⟨0, Nat.zero_le _, Nat.zero_le _, rfl, Own.nil _ _, Below.refl _ _⟩
  case round =>
    obtain ⟨k, hk, hk30, rfl, hO, hB⟩ := hrel
    by_cases hlt : k < len0 ∧ k < 30
    · obtain ⟨hlt, h30⟩ := hlt
      have hlt' : (k : Int) < len0 := by omega
      have h30' : (k : Int) < 30 := by omega
      obtain ⟨xb, xo, rfl, c⟩ := (unhide HN0).on hB k hlt
      have hmk : bits .and .i64 (z0 k) 65535 = (msk (z0 k) 65535 : Int) := mask_i64 (z0 k) 65535 (by decide)
      have hml := msk_le (z0 k) 65535
      have hsz := hB.size
      have HO := hide hO
      have HB := hide hB
      have hy := (fl_lt (msk (z0 k) 65535 : Nat) (by rw [Int.natAbs_natCast]; omega)).1
      have hcv : floatOfInt .f64 ((msk (z0 k) 65535 : Nat) : Int) = fl (msk (z0 k) 65535 : Nat) := rfl
      have HL := hide (show (mapl (fun i => (msk (z0 i) 65535 : Nat)) k).length ≤ 1000 by rw [mapl_len]; omega)
      have HS := hide (mapl_succ (fun i => (msk (z0 i) 65535 : Nat)) k)
      clear hO hB
      generalize fl (msk (z0 k) 65535 : Nat) = y at *
      generalize msk (z0 k) 65535 = q at *
      go_wp2_with (at_builtin; refine append_fl wr rfl (.tmp 27) (.tmp 34) rfl w.heap.size _ hy u9 _ rfl (unhide HO) rfl (unhide HL) hsz ?_)
      intro v' w2 hP
      have HP := hide hP
      clear hP
      go_wp2
      go_roundw
      case rel => exact ⟨k + 1, by omega, by omega, by go_num, by rw [unhide HS]; exact (unhide HP).own, (unhide HB).trans (unhide HP).bel⟩
      case measure => simp [RowKit.intOf]; omega
    · have hsz := hB.size
      have HO := hide hO
      have HB := hide hB
      have HLn := hide (show (mapl (fun i => (msk (z0 i) 65535 : Nat)) k).length = k from mapl_len _ _)
      have bd : ∀ i, i < k → ((msk (z0 i) 65535 : Nat) : Int).natAbs ≤ 65535 := fun i _ => by rw [Int.natAbs_natCast]; exact msk_le _ _
      have bd2 : ∀ i, i < k → ((msk (z0 i) 65535 : Nat) : Int).natAbs < 1000000000000000 := fun i hi => Nat.lt_of_le_of_lt (bd i hi) (by decide)
      have hkb : k * 65535 < 1000000000000000 := Nat.lt_of_le_of_lt (Nat.mul_le_mul_right _ hk30) (by decide)
      have an0 := any_mapl (fun i => (msk (z0 i) 65535 : Nat)) k bd2
      clear hO hB bd bd2 hkb an0
      rcases (show (¬ k < len0) ∨ (k < len0 ∧ ¬ k < 30) by omega) with hw | ⟨hw, hw2⟩
      all_goals
        clear hlt
        first
          | have hw' : ¬ (k : Int) < len0 := by omega
          | have hw' : (k : Int) < len0 := by omega
            have hw2' : ¬ (k : Int) < 30 := by omega
        have HL1 := hide (show (mapl (fun i => (msk (z0 i) 65535 : Nat)) k).length ≤ 1000 by rw [unhide HLn]; omega)
        have hsz1 := (unhide HB).size
        go_wp2_with (first | (go_at_call 5; refine (nan_ok _).mono ?_; rintro e w' ⟨rfl, h⟩; rw [h]; clear h w') | (at_builtin; refine append_fl wr rfl (.tmp 42) (.tmp 44) rfl w.heap.size _ hnan u9 _ rfl (unhide HO) rfl (unhide HL1) hsz1 ?_))
        intro v1 w1 hP1
        have hOw1 := hP1.own
        have HB1 := hide ((unhide HB).trans hP1.bel)
        obtain ⟨L1, hL1⟩ : ∃ L, L = mapl (fun i => (msk (z0 i) 65535 : Nat)) k ++ [9221120237041090561] := ⟨_, rfl⟩
        rw [← hL1] at hOw1
        have HO1 := hide hOw1
        have HLn1 := hide (show L1.length = k + 1 by rw [hL1, List.length_append, unhide HLn]; rfl)
        have HLe1 := hide hL1
        clear hP1 hL1 hOw1
        have HLL := hide (show (L1).length ≤ 1000 by rw [unhide HLn1]; omega)
        have hnn : L1 = (mapl (fun i => (msk (z0 i) 65535 : Nat)) k) ++ [9221120237041090561] := unhide HLe1
        have an : L1.any nanB = true := by rw [hnn]; exact any_nan _
        have eS : one (sumO L1) = 9221120237041090561 := one_none (by rw [hnn]; exact sum_nan _)
        have eA := least_nan an
        have eB := most_nan an
        clear hnn an
        obtain ⟨va, ca, hva, hF, _⟩ := (unhide HO1).fls
        subst hva
        have hlen := unhide HLL
        generalize L1 = L at *
        have C1 := sum_ok va ca L w1 hF hlen
        have C2 := fun n => min_ok va ca L (w1.drewN n) (hF.drewN n) hlen
        have C3 := fun n => max_ok va ca L (w1.drewN n) (hF.drewN n) hlen
        rw [eS] at C1
        rw [eA] at C2
        rw [eB] at C3
        have HC1 := hide C1; have HC2 := hide C2; have HC3 := hide C3
        have A9 := hide awake_ok
        clear C1 C2 C3 hF
        generalize least L = lA at *
        generalize most L = lB at *
        have o1 : (FloatKind.f64.format.order 9221120237041090561 9221120237041090561 != some Ordering.eq) = true := by decide
        have o2 : (FloatKind.f64.format.order 18442240474082181120 18442240474082181120 == some Ordering.eq) = true := by decide
        have o3 : (FloatKind.f64.format.order 9218868437227405312 9218868437227405312 == some Ordering.eq) = true := by decide
        go_wp2_with fail
        refine (unhide HC1).mono ?_
        rintro e w' ⟨rfl, n5, rfl⟩
        go_wp2_with fail
        refine (unhide HC2 _).mono ?_
        rintro e w' ⟨rfl, h⟩; rw [h]; clear h w'
        go_wp2_with fail
        refine (unhide HC3 _).mono ?_
        rintro e w' ⟨rfl, h⟩; rw [h]; clear h w'
        go_wp2_with (first | (go_at_call 4; refine (inf_any _ (by decide) _).mono ?_; rintro e w' ⟨rfl, h⟩; rw [h]; clear h w'; first | rw [infB1] | rw [infB2]) | (go_at_call 9; refine (unhide A9 _).mono ?_; rintro e w9 ⟨rfl, h9⟩; have H9 := hide h9; clear h9))
        go_ret
        exact ⟨rfl, below_step (below_step (unhide HB1) (below_drewN' w1 _)) (unhide H9)⟩

set_option maxRecDepth 100000 in
set_option maxHeartbeats 1000000 in
theorem edges_110 (a0 : Option Addr) (len0 cap0 : Nat) (z0 : Nat → Int) (w : World) (hN0 : Nums .i64 w a0 len0 z0) :
    Calls Try.prog 3 #[.slice a0 len0 cap0, .bool true, .bool true, .bool false] w fun e w' => e = .returned (.bool true) ∧ Below w.heap.size w w' := by
  have HN0 := hide hN0
  clear hN0
  have hinf : 9218868437227405312 < 18446744073709551616 := by decide
  have hninf : 18442240474082181120 < 18446744073709551616 := by decide
  have hnan : 9221120237041090561 < 18446744073709551616 := by decide
  go_enter Try.func3, Try.ntmps3
  go_wp2
  go_loopw [9, 10] (fun v vi wr => ∃ k : Nat, k ≤ len0 ∧ k ≤ 30 ∧ vi = .int .i64 k ∧ Own wr w.heap.size v (mapl (fun i => (msk (z0 i) 65535 : Nat)) k) ∧ Below w.heap.size w wr) (fun v vi wr => 30 - (RowKit.intOf vi).toNat)
  case atStart => exact ⟨0, Nat.zero_le _, Nat.zero_le _, rfl, Own.nil _ _, Below.refl _ _⟩
  case round =>
    obtain ⟨k, hk, hk30, rfl, hO, hB⟩ := hrel
    by_cases hlt : k < len0 ∧ k < 30
    · obtain ⟨hlt, h30⟩ := hlt
      have hlt' : (k : Int) < len0 := by omega
      have h30' : (k : Int) < 30 := by omega
      obtain ⟨xb, xo, rfl, c⟩ := (unhide HN0).on hB k hlt
      have hmk : bits .and .i64 (z0 k) 65535 = (msk (z0 k) 65535 : Int) := mask_i64 (z0 k) 65535 (by decide)
      have hml := msk_le (z0 k) 65535
      have hsz := hB.size
      have HO := hide hO
      have HB := hide hB
      have hy := (fl_lt (msk (z0 k) 65535 : Nat) (by rw [Int.natAbs_natCast]; omega)).1
      have hcv : floatOfInt .f64 ((msk (z0 k) 65535 : Nat) : Int) = fl (msk (z0 k) 65535 : Nat) := rfl
      have HL := hide (show (mapl (fun i => (msk (z0 i) 65535 : Nat)) k).length ≤ 1000 by rw [mapl_len]; omega)
      have HS := hide (mapl_succ (fun i => (msk (z0 i) 65535 : Nat)) k)
      clear hO hB
      generalize fl (msk (z0 k) 65535 : Nat) = y at *
      generalize msk (z0 k) 65535 = q at *
      go_wp2_with (at_builtin; refine append_fl wr rfl (.tmp 27) (.tmp 34) rfl w.heap.size _ hy u9 _ rfl (unhide HO) rfl (unhide HL) hsz ?_)
      intro v' w2 hP
      have HP := hide hP
      clear hP
      go_wp2
      go_roundw
      case rel => exact ⟨k + 1, by omega, by omega, by go_num, by rw [unhide HS]; exact (unhide HP).own, (unhide HB).trans (unhide HP).bel⟩
      case measure => simp [RowKit.intOf]; omega
    · have hsz := hB.size
      have HO := hide hO
      have HB := hide hB
      have HLn := hide (show (mapl (fun i => (msk (z0 i) 65535 : Nat)) k).length = k from mapl_len _ _)
      have bd : ∀ i, i < k → ((msk (z0 i) 65535 : Nat) : Int).natAbs ≤ 65535 := fun i _ => by rw [Int.natAbs_natCast]; exact msk_le _ _
      have bd2 : ∀ i, i < k → ((msk (z0 i) 65535 : Nat) : Int).natAbs < 1000000000000000 := fun i hi => Nat.lt_of_le_of_lt (bd i hi) (by decide)
      have hkb : k * 65535 < 1000000000000000 := Nat.lt_of_le_of_lt (Nat.mul_le_mul_right _ hk30) (by decide)
      have an0 := any_mapl (fun i => (msk (z0 i) 65535 : Nat)) k bd2
      clear hO hB bd bd2 hkb an0
      rcases (show (¬ k < len0) ∨ (k < len0 ∧ ¬ k < 30) by omega) with hw | ⟨hw, hw2⟩
      all_goals
        clear hlt
        first
          | have hw' : ¬ (k : Int) < len0 := by omega
          | have hw' : (k : Int) < len0 := by omega
            have hw2' : ¬ (k : Int) < 30 := by omega
        have HL1 := hide (show (mapl (fun i => (msk (z0 i) 65535 : Nat)) k).length ≤ 1000 by rw [unhide HLn]; omega)
        have hsz1 := (unhide HB).size
        go_wp2_with (first | (go_at_call 4; refine (inf_any _ (by decide) _).mono ?_; rintro e w' ⟨rfl, h⟩; rw [h]; clear h w'; first | rw [infB1] | rw [infB2]) | (at_builtin; refine append_fl wr rfl (.tmp 37) (.tmp 39) rfl w.heap.size _ hinf u9 _ rfl (unhide HO) rfl (unhide HL1) hsz1 ?_))
        intro v1 w1 hP1
        have hOw1 := hP1.own
        have HB1 := hide ((unhide HB).trans hP1.bel)
        obtain ⟨L1, hL1⟩ : ∃ L, L = mapl (fun i => (msk (z0 i) 65535 : Nat)) k ++ [9218868437227405312] := ⟨_, rfl⟩
        rw [← hL1] at hOw1
        have HO1 := hide hOw1
        have HLn1 := hide (show L1.length = k + 1 by rw [hL1, List.length_append, unhide HLn]; rfl)
        have HLe1 := hide hL1
        clear hP1 hL1 hOw1
        have HL2 := hide (show (L1).length ≤ 1000 by rw [unhide HLn1]; omega)
        have hsz2 := (unhide HB1).size
        go_wp2_with (first | (go_at_call 5; refine (nan_ok _).mono ?_; rintro e w' ⟨rfl, h⟩; rw [h]; clear h w') | (at_builtin; refine append_fl w1 rfl (.tmp 42) (.tmp 44) rfl w.heap.size _ hnan v1 _ rfl (unhide HO1) rfl (unhide HL2) hsz2 ?_))
        intro v2 w2 hP2
        have hOw2 := hP2.own
        have HB2 := hide ((unhide HB1).trans hP2.bel)
        obtain ⟨L2, hL2⟩ : ∃ L, L = L1 ++ [9221120237041090561] := ⟨_, rfl⟩
        rw [← hL2] at hOw2
        have HO2 := hide hOw2
        have HLn2 := hide (show L2.length = k + 2 by rw [hL2, List.length_append, unhide HLn1]; rfl)
        have HLe2 := hide hL2
        clear hP2 hL2 hOw2
        have HLL := hide (show (L2).length ≤ 1000 by rw [unhide HLn2]; omega)
        have hnn : L2 = (L1) ++ [9221120237041090561] := unhide HLe2
        have an : L2.any nanB = true := by rw [hnn]; exact any_nan _
        have eS : one (sumO L2) = 9221120237041090561 := one_none (by rw [hnn]; exact sum_nan _)
        have eA := least_nan an
        have eB := most_nan an
        clear hnn an
        obtain ⟨va, ca, hva, hF, _⟩ := (unhide HO2).fls
        subst hva
        have hlen := unhide HLL
        generalize L2 = L at *
        have C1 := sum_ok va ca L w2 hF hlen
        have C2 := fun n => min_ok va ca L (w2.drewN n) (hF.drewN n) hlen
        have C3 := fun n => max_ok va ca L (w2.drewN n) (hF.drewN n) hlen
        rw [eS] at C1
        rw [eA] at C2
        rw [eB] at C3
        have HC1 := hide C1; have HC2 := hide C2; have HC3 := hide C3
        have A9 := hide awake_ok
        clear C1 C2 C3 hF
        generalize least L = lA at *
        generalize most L = lB at *
        have o1 : (FloatKind.f64.format.order 9221120237041090561 9221120237041090561 != some Ordering.eq) = true := by decide
        have o2 : (FloatKind.f64.format.order 18442240474082181120 18442240474082181120 == some Ordering.eq) = true := by decide
        have o3 : (FloatKind.f64.format.order 9218868437227405312 9218868437227405312 == some Ordering.eq) = true := by decide
        go_wp2_with fail
        refine (unhide HC1).mono ?_
        rintro e w' ⟨rfl, n5, rfl⟩
        go_wp2_with fail
        refine (unhide HC2 _).mono ?_
        rintro e w' ⟨rfl, h⟩; rw [h]; clear h w'
        go_wp2_with fail
        refine (unhide HC3 _).mono ?_
        rintro e w' ⟨rfl, h⟩; rw [h]; clear h w'
        go_wp2_with (first | (go_at_call 4; refine (inf_any _ (by decide) _).mono ?_; rintro e w' ⟨rfl, h⟩; rw [h]; clear h w'; first | rw [infB1] | rw [infB2]) | (go_at_call 9; refine (unhide A9 _).mono ?_; rintro e w9 ⟨rfl, h9⟩; have H9 := hide h9; clear h9))
        go_ret
        exact ⟨rfl, below_step (below_step (unhide HB2) (below_drewN' w2 _)) (unhide H9)⟩

set_option maxRecDepth 100000 in
set_option maxHeartbeats 1000000 in
theorem edges_101 (a0 : Option Addr) (len0 cap0 : Nat) (z0 : Nat → Int) (w : World) (hN0 : Nums .i64 w a0 len0 z0) :
    Calls Try.prog 3 #[.slice a0 len0 cap0, .bool true, .bool false, .bool true] w fun e w' => e = .returned (.bool true) ∧ Below w.heap.size w w' := by
  have HN0 := hide hN0
  clear hN0
  have hinf : 9218868437227405312 < 18446744073709551616 := by decide
  have hninf : 18442240474082181120 < 18446744073709551616 := by decide
  have hnan : 9221120237041090561 < 18446744073709551616 := by decide
  go_enter Try.func3, Try.ntmps3
  go_wp2
  go_loopw [9, 10] (fun v vi wr => ∃ k : Nat, k ≤ len0 ∧ k ≤ 30 ∧ vi = .int .i64 k ∧ Own wr w.heap.size v (mapl (fun i => (msk (z0 i) 65535 : Nat)) k) ∧ Below w.heap.size w wr) (fun v vi wr => 30 - (RowKit.intOf vi).toNat)
  case atStart => exact ⟨0, Nat.zero_le _, Nat.zero_le _, rfl, Own.nil _ _, Below.refl _ _⟩
  case round =>
    obtain ⟨k, hk, hk30, rfl, hO, hB⟩ := hrel
    by_cases hlt : k < len0 ∧ k < 30
    · obtain ⟨hlt, h30⟩ := hlt
      have hlt' : (k : Int) < len0 := by omega
      have h30' : (k : Int) < 30 := by omega
      obtain ⟨xb, xo, rfl, c⟩ := (unhide HN0).on hB k hlt
      have hmk : bits .and .i64 (z0 k) 65535 = (msk (z0 k) 65535 : Int) := mask_i64 (z0 k) 65535 (by decide)
      have hml := msk_le (z0 k) 65535
      have hsz := hB.size
      have HO := hide hO
      have HB := hide hB
      have hy := (fl_lt (msk (z0 k) 65535 : Nat) (by rw [Int.natAbs_natCast]; omega)).1
      have hcv : floatOfInt .f64 ((msk (z0 k) 65535 : Nat) : Int) = fl (msk (z0 k) 65535 : Nat) := rfl
      have HL := hide (show (mapl (fun i => (msk (z0 i) 65535 : Nat)) k).length ≤ 1000 by rw [mapl_len]; omega)
      have HS := hide (mapl_succ (fun i => (msk (z0 i) 65535 : Nat)) k)
      clear hO hB
      generalize fl (msk (z0 k) 65535 : Nat) = y at *
      generalize msk (z0 k) 65535 = q at *
      go_wp2_with (at_builtin; refine append_fl wr rfl (.tmp 27) (.tmp 34) rfl w.heap.size _ hy u9 _ rfl (unhide HO) rfl (unhide HL) hsz ?_)
      intro v' w2 hP
      have HP := hide hP
      clear hP
      go_wp2
      go_roundw
      case rel => exact ⟨k + 1, by omega, by omega, by go_num, by rw [unhide HS]; exact (unhide HP).own, (unhide HB).trans (unhide HP).bel⟩
      case measure => simp [RowKit.intOf]; omega
    · have hsz := hB.size
      have HO := hide hO
      have HB := hide hB
      have HLn := hide (show (mapl (fun i => (msk (z0 i) 65535 : Nat)) k).length = k from mapl_len _ _)
      have bd : ∀ i, i < k → ((msk (z0 i) 65535 : Nat) : Int).natAbs ≤ 65535 := fun i _ => by rw [Int.natAbs_natCast]; exact msk_le _ _
      have bd2 : ∀ i, i < k → ((msk (z0 i) 65535 : Nat) : Int).natAbs < 1000000000000000 := fun i hi => Nat.lt_of_le_of_lt (bd i hi) (by decide)
      have hkb : k * 65535 < 1000000000000000 := Nat.lt_of_le_of_lt (Nat.mul_le_mul_right _ hk30) (by decide)
      have an0 := any_mapl (fun i => (msk (z0 i) 65535 : Nat)) k bd2
      clear hO hB bd bd2 hkb an0
      rcases (show (¬ k < len0) ∨ (k < len0 ∧ ¬ k < 30) by omega) with hw | ⟨hw, hw2⟩
      all_goals
        clear hlt
        first
          | have hw' : ¬ (k : Int) < len0 := by omega
          | have hw' : (k : Int) < len0 := by omega
            have hw2' : ¬ (k : Int) < 30 := by omega
        have HL1 := hide (show (mapl (fun i => (msk (z0 i) 65535 : Nat)) k).length ≤ 1000 by rw [unhide HLn]; omega)
        have hsz1 := (unhide HB).size
        go_wp2_with (first | (go_at_call 5; refine (nan_ok _).mono ?_; rintro e w' ⟨rfl, h⟩; rw [h]; clear h w') | (at_builtin; refine append_fl wr rfl (.tmp 42) (.tmp 44) rfl w.heap.size _ hnan u9 _ rfl (unhide HO) rfl (unhide HL1) hsz1 ?_))
        intro v1 w1 hP1
        have hOw1 := hP1.own
        have HB1 := hide ((unhide HB).trans hP1.bel)
        obtain ⟨L1, hL1⟩ : ∃ L, L = mapl (fun i => (msk (z0 i) 65535 : Nat)) k ++ [9221120237041090561] := ⟨_, rfl⟩
        rw [← hL1] at hOw1
        have HO1 := hide hOw1
        have HLn1 := hide (show L1.length = k + 1 by rw [hL1, List.length_append, unhide HLn]; rfl)
        have HLe1 := hide hL1
        clear hP1 hL1 hOw1
        have HL2 := hide (show (L1).length ≤ 1000 by rw [unhide HLn1]; omega)
        go_wp2_with (first | (go_at_call 4; refine (inf_any _ (by decide) _).mono ?_; rintro e w' ⟨rfl, h⟩; rw [h]; clear h w'; first | rw [infB1] | rw [infB2]) | (at_builtin; refine append_all w1 rfl (.tmp 48) (.tmp 49) rfl w.heap.size _ hninf v1 _ rfl (unhide HO1) rfl (unhide HL2) ?_))
        intro v2 w2 hP2
        have HO2 := hide (hP2.own.from (unhide HB1).size)
        have HB2 := hide (below_step (unhide HB1) hP2.bel)
        clear hP2
        have HLL := hide (show ((18442240474082181120 :: L1)).length ≤ 1000 by rw [List.length_cons]; rw [unhide HLn1]; omega)
        have hnn : L1 = (mapl (fun i => (msk (z0 i) 65535 : Nat)) k) ++ [9221120237041090561] := unhide HLe1
        have an : (18442240474082181120 :: L1).any nanB = true := by rw [hnn]; exact any_nan' _ _
        have eS : one (sumO (18442240474082181120 :: L1)) = 9221120237041090561 := one_none (by rw [hnn]; exact sum_nan' _ _)
        have eA := least_nan an
        have eB := most_nan an
        clear hnn an
        obtain ⟨va, ca, hva, hF, _⟩ := (unhide HO2).fls
        subst hva
        have hlen := unhide HLL
        generalize (18442240474082181120 :: L1) = L at *
        have C1 := sum_ok va ca L w2 hF hlen
        have C2 := fun n => min_ok va ca L (w2.drewN n) (hF.drewN n) hlen
        have C3 := fun n => max_ok va ca L (w2.drewN n) (hF.drewN n) hlen
        rw [eS] at C1
        rw [eA] at C2
        rw [eB] at C3
        have HC1 := hide C1; have HC2 := hide C2; have HC3 := hide C3
        have A9 := hide awake_ok
        clear C1 C2 C3 hF
        generalize least L = lA at *
        generalize most L = lB at *
        have o1 : (FloatKind.f64.format.order 9221120237041090561 9221120237041090561 != some Ordering.eq) = true := by decide
        have o2 : (FloatKind.f64.format.order 18442240474082181120 18442240474082181120 == some Ordering.eq) = true := by decide
        have o3 : (FloatKind.f64.format.order 9218868437227405312 9218868437227405312 == some Ordering.eq) = true := by decide
        go_wp2_with fail
        refine (unhide HC1).mono ?_
        rintro e w' ⟨rfl, n5, rfl⟩
        go_wp2_with fail
        refine (unhide HC2 _).mono ?_
        rintro e w' ⟨rfl, h⟩; rw [h]; clear h w'
        go_wp2_with fail
        refine (unhide HC3 _).mono ?_
        rintro e w' ⟨rfl, h⟩; rw [h]; clear h w'
        go_wp2_with (first | (go_at_call 4; refine (inf_any _ (by decide) _).mono ?_; rintro e w' ⟨rfl, h⟩; rw [h]; clear h w'; first | rw [infB1] | rw [infB2]) | (go_at_call 9; refine (unhide A9 _).mono ?_; rintro e w9 ⟨rfl, h9⟩; have H9 := hide h9; clear h9))
        go_ret
        exact ⟨rfl, below_step (below_step (unhide HB2) (below_drewN' w2 _)) (unhide H9)⟩

set_option maxRecDepth 100000 in
set_option maxHeartbeats 1000000 in
theorem edges_111 (a0 : Option Addr) (len0 cap0 : Nat) (z0 : Nat → Int) (w : World) (hN0 : Nums .i64 w a0 len0 z0) :
    Calls Try.prog 3 #[.slice a0 len0 cap0, .bool true, .bool true, .bool true] w fun e w' => e = .returned (.bool true) ∧ Below w.heap.size w w' := by
  have HN0 := hide hN0
  clear hN0
  have hinf : 9218868437227405312 < 18446744073709551616 := by decide
  have hninf : 18442240474082181120 < 18446744073709551616 := by decide
  have hnan : 9221120237041090561 < 18446744073709551616 := by decide
  go_enter Try.func3, Try.ntmps3
  go_wp2
  go_loopw [9, 10] (fun v vi wr => ∃ k : Nat, k ≤ len0 ∧ k ≤ 30 ∧ vi = .int .i64 k ∧ Own wr w.heap.size v (mapl (fun i => (msk (z0 i) 65535 : Nat)) k) ∧ Below w.heap.size w wr) (fun v vi wr => 30 - (RowKit.intOf vi).toNat)
  case atStart => exact ⟨0, Nat.zero_le _, Nat.zero_le _, rfl, Own.nil _ _, Below.refl _ _⟩
  case round =>
    obtain ⟨k, hk, hk30, rfl, hO, hB⟩ := hrel
    by_cases hlt : k < len0 ∧ k < 30
    · obtain ⟨hlt, h30⟩ := hlt
      have hlt' : (k : Int) < len0 := by omega
      have h30' : (k : Int) < 30 := by omega
      obtain ⟨xb, xo, rfl, c⟩ := (unhide HN0).on hB k hlt
      have hmk : bits .and .i64 (z0 k) 65535 = (msk (z0 k) 65535 : Int) := mask_i64 (z0 k) 65535 (by decide)
      have hml := msk_le (z0 k) 65535
      have hsz := hB.size
      have HO := hide hO
      have HB := hide hB
      have hy := (fl_lt (msk (z0 k) 65535 : Nat) (by rw [Int.natAbs_natCast]; omega)).1
      have hcv : floatOfInt .f64 ((msk (z0 k) 65535 : Nat) : Int) = fl (msk (z0 k) 65535 : Nat) := rfl
      have HL := hide (show (mapl (fun i => (msk (z0 i) 65535 : Nat)) k).length ≤ 1000 by rw [mapl_len]; omega)
      have HS := hide (mapl_succ (fun i => (msk (z0 i) 65535 : Nat)) k)
      clear hO hB
      generalize fl (msk (z0 k) 65535 : Nat) = y at *
      generalize msk (z0 k) 65535 = q at *
      go_wp2_with (at_builtin; refine append_fl wr rfl (.tmp 27) (.tmp 34) rfl w.heap.size _ hy u9 _ rfl (unhide HO) rfl (unhide HL) hsz ?_)
      intro v' w2 hP
      have HP := hide hP
      clear hP
      go_wp2
      go_roundw
      case rel => exact ⟨k + 1, by omega, by omega, by go_num, by rw [unhide HS]; exact (unhide HP).own, (unhide HB).trans (unhide HP).bel⟩
      case measure => simp [RowKit.intOf]; omega
    · have hsz := hB.size
      have HO := hide hO
      have HB := hide hB
      have HLn := hide (show (mapl (fun i => (msk (z0 i) 65535 : Nat)) k).length = k from mapl_len _ _)
      have bd : ∀ i, i < k → ((msk (z0 i) 65535 : Nat) : Int).natAbs ≤ 65535 := fun i _ => by rw [Int.natAbs_natCast]; exact msk_le _ _
      have bd2 : ∀ i, i < k → ((msk (z0 i) 65535 : Nat) : Int).natAbs < 1000000000000000 := fun i hi => Nat.lt_of_le_of_lt (bd i hi) (by decide)
      have hkb : k * 65535 < 1000000000000000 := Nat.lt_of_le_of_lt (Nat.mul_le_mul_right _ hk30) (by decide)
      have an0 := any_mapl (fun i => (msk (z0 i) 65535 : Nat)) k bd2
      clear hO hB bd bd2 hkb an0
      rcases (show (¬ k < len0) ∨ (k < len0 ∧ ¬ k < 30) by omega) with hw | ⟨hw, hw2⟩
      all_goals
        clear hlt
        first
          | have hw' : ¬ (k : Int) < len0 := by omega
          | have hw' : (k : Int) < len0 := by omega
            have hw2' : ¬ (k : Int) < 30 := by omega
        have HL1 := hide (show (mapl (fun i => (msk (z0 i) 65535 : Nat)) k).length ≤ 1000 by rw [unhide HLn]; omega)
        have hsz1 := (unhide HB).size
        go_wp2_with (first | (go_at_call 4; refine (inf_any _ (by decide) _).mono ?_; rintro e w' ⟨rfl, h⟩; rw [h]; clear h w'; first | rw [infB1] | rw [infB2]) | (at_builtin; refine append_fl wr rfl (.tmp 37) (.tmp 39) rfl w.heap.size _ hinf u9 _ rfl (unhide HO) rfl (unhide HL1) hsz1 ?_))
        intro v1 w1 hP1
        have hOw1 := hP1.own
        have HB1 := hide ((unhide HB).trans hP1.bel)
        obtain ⟨L1, hL1⟩ : ∃ L, L = mapl (fun i => (msk (z0 i) 65535 : Nat)) k ++ [9218868437227405312] := ⟨_, rfl⟩
        rw [← hL1] at hOw1
        have HO1 := hide hOw1
        have HLn1 := hide (show L1.length = k + 1 by rw [hL1, List.length_append, unhide HLn]; rfl)
        have HLe1 := hide hL1
        clear hP1 hL1 hOw1
        have HL2 := hide (show (L1).length ≤ 1000 by rw [unhide HLn1]; omega)
        have hsz2 := (unhide HB1).size
        go_wp2_with (first | (go_at_call 5; refine (nan_ok _).mono ?_; rintro e w' ⟨rfl, h⟩; rw [h]; clear h w') | (at_builtin; refine append_fl w1 rfl (.tmp 42) (.tmp 44) rfl w.heap.size _ hnan v1 _ rfl (unhide HO1) rfl (unhide HL2) hsz2 ?_))
        intro v2 w2 hP2
        have hOw2 := hP2.own
        have HB2 := hide ((unhide HB1).trans hP2.bel)
        obtain ⟨L2, hL2⟩ : ∃ L, L = L1 ++ [9221120237041090561] := ⟨_, rfl⟩
        rw [← hL2] at hOw2
        have HO2 := hide hOw2
        have HLn2 := hide (show L2.length = k + 2 by rw [hL2, List.length_append, unhide HLn1]; rfl)
        have HLe2 := hide hL2
        clear hP2 hL2 hOw2
        have HL3 := hide (show (L2).length ≤ 1000 by rw [unhide HLn2]; omega)
        go_wp2_with (first | (go_at_call 4; refine (inf_any _ (by decide) _).mono ?_; rintro e w' ⟨rfl, h⟩; rw [h]; clear h w'; first | rw [infB1] | rw [infB2]) | (at_builtin; refine append_all w2 rfl (.tmp 48) (.tmp 49) rfl w.heap.size _ hninf v2 _ rfl (unhide HO2) rfl (unhide HL3) ?_))
        intro v3 w3 hP3
        have HO3 := hide (hP3.own.from (unhide HB2).size)
        have HB3 := hide (below_step (unhide HB2) hP3.bel)
        clear hP3
        have HLL := hide (show ((18442240474082181120 :: L2)).length ≤ 1000 by rw [List.length_cons]; rw [unhide HLn2]; omega)
        have hnn : L2 = (L1) ++ [9221120237041090561] := unhide HLe2
        have an : (18442240474082181120 :: L2).any nanB = true := by rw [hnn]; exact any_nan' _ _
        have eS : one (sumO (18442240474082181120 :: L2)) = 9221120237041090561 := one_none (by rw [hnn]; exact sum_nan' _ _)
        have eA := least_nan an
        have eB := most_nan an
        clear hnn an
        obtain ⟨va, ca, hva, hF, _⟩ := (unhide HO3).fls
        subst hva
        have hlen := unhide HLL
        generalize (18442240474082181120 :: L2) = L at *
        have C1 := sum_ok va ca L w3 hF hlen
        have C2 := fun n => min_ok va ca L (w3.drewN n) (hF.drewN n) hlen
        have C3 := fun n => max_ok va ca L (w3.drewN n) (hF.drewN n) hlen
        rw [eS] at C1
        rw [eA] at C2
        rw [eB] at C3
        have HC1 := hide C1; have HC2 := hide C2; have HC3 := hide C3
        have A9 := hide awake_ok
        clear C1 C2 C3 hF
        generalize least L = lA at *
        generalize most L = lB at *
        have o1 : (FloatKind.f64.format.order 9221120237041090561 9221120237041090561 != some Ordering.eq) = true := by decide
        have o2 : (FloatKind.f64.format.order 18442240474082181120 18442240474082181120 == some Ordering.eq) = true := by decide
        have o3 : (FloatKind.f64.format.order 9218868437227405312 9218868437227405312 == some Ordering.eq) = true := by decide
        go_wp2_with fail
        refine (unhide HC1).mono ?_
        rintro e w' ⟨rfl, n5, rfl⟩
        go_wp2_with fail
        refine (unhide HC2 _).mono ?_
        rintro e w' ⟨rfl, h⟩; rw [h]; clear h w'
        go_wp2_with fail
        refine (unhide HC3 _).mono ?_
        rintro e w' ⟨rfl, h⟩; rw [h]; clear h w'
        go_wp2_with (first | (go_at_call 4; refine (inf_any _ (by decide) _).mono ?_; rintro e w' ⟨rfl, h⟩; rw [h]; clear h w'; first | rw [infB1] | rw [infB2]) | (go_at_call 9; refine (unhide A9 _).mono ?_; rintro e w9 ⟨rfl, h9⟩; have H9 := hide h9; clear h9))
        go_ret
        exact ⟨rfl, below_step (below_step (unhide HB3) (below_drewN' w3 _)) (unhide H9)⟩

end Go.Proofs.Ytggjcfmoebghjab
