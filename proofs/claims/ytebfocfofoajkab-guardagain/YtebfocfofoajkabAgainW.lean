/- GuardAgain, walked. -/
import Derived.Test.YtebfocfofoajkabDeedTry
import Derived.Test.YtebfocfofoajkabNums
import Derived.LoopTactic
namespace Go.Proofs.Ytebfocfofoajkab
open Go.RowKit

theorem enters12 : Enters 12 := fun _ _ => by kernel_rfl

/-- Where the closure's counter and its bound lie. -/
structure Count (pn pf : Nat) (x f : Int) (w : World) : Prop where
  hn : w.heap[pn]? = some (.cells #[.int .i64 x] 3)
  hf : w.heap[pf]? = some (.cells #[.int .i64 f] 3)
  ne : pn ≠ pf
theorem Count.keep {pn pf : Nat} {x f : Int} {w w' : World} {F : Nat → Prop} (c : Count pn pf x f w) (fr : Fr F w w') (h1 : ¬ F pn) (h2 : ¬ F pf) : Count pn pf x f w' := ⟨fr.obj c.hn h1, fr.obj c.hf h2, c.ne⟩

set_option maxHeartbeats 1000000 in
theorem again1_ok {pn pf : Nat} {x f : Int} {w : World} (c : Count pn pf x f w) (hx : 0 ≤ x ∧ x < 1000000) :
    Calls Try.prog 12 #[ptr pn, ptr pf] w fun e w' => ∃ h : How, h.ended e ∧ Fr (fun k => k = pn) w w' ∧ Count pn pf (x + 1) f w' ∧ h.is = decide (x < f) := by
  have c0 := cell_of_obj c.hn 0
  have z0 := frozen_of_obj c.hn 0
  have f1 : Fr (fun k => k = pn) w (w.setCell ⟨pn, 0, none⟩ (.int .i64 (x + 1))) := (Fr.refl (fun k => k = pn) w).setCell (.inl rfl) _
  have C1 : Count pn pf (x + 1) f (w.setCell ⟨pn, 0, none⟩ (.int .i64 (x + 1))) := ⟨set_one _ c.hn, f1.obj c.hf (Ne.symm c.ne), c.ne⟩
  have c1 := cell_of_obj C1.hn 0
  have d1 := cell_of_obj C1.hf 0
  have F1 := hide f1; have HC := hide C1
  clear c C1 f1
  by_cases hlt : x < f
  · have hle : x + 1 ≤ f := by omega
    have HL := hide hlt; clear hlt
    go_enter Try.func12, Try.ntmps12
    go_wp2
    exact ⟨rfl, .bad _ _, How.ended_one _ _, unhide F1, unhide HC, by simp [How.is, unhide HL]⟩
  · have hle : ¬ x + 1 ≤ f := by omega
    have HL := hide hlt; clear hlt
    go_enter Try.func12, Try.ntmps12
    go_wp2
    go_end0
    exact ⟨.well, rfl, unhide F1, unhide HC, by simp [How.is, unhide HL]⟩

theorem again1_try {pn pf : Nat} {x f : Int} {w : World} (c : Count pn pf x f w) (hx : 0 ≤ x ∧ x < 1000000) :
    Calls Try.prog 13 #[.func (.func 12) #[] #[ptr pn, ptr pf]] w fun e w' => ∃ h : How, e = .returned (.tuple #[h.v, .bool h.is]) ∧ Fr (fun k => k = pn) w w' ∧ Count pn pf (x + 1) f w' ∧ h.is = decide (x < f) := by
  have fb : Still w (w.alloc box) := (Fr.refl _ w).alloc box
  have ln := lt_of_obj c.hn; have lf := lt_of_obj c.hf
  refine try_fr (F := fun k => k = pn) (S := fun h w' => Count pn pf (x + 1) f w' ∧ h.is = decide (x < f)) (fun k e => by omega) (runs_of enters12 (first := #[]) (cap := #[ptr pn, ptr pf]) ((again1_ok (c.keep fb (fun h => h) (fun h => h)) hx).mono ?_))
  rintro e w1 ⟨h, he, fr, c1, hi⟩
  exact ⟨h, he, fr, fun w2 f2 => ⟨c1.keep f2 (by omega) (by omega), hi⟩⟩

set_option maxHeartbeats 2000000 in
theorem again_big {pn pf : Nat} {f : Nat} {w : World} (M : Nat) (hM : (1 : Int) < M) (hM2 : M < 20) (c : Count pn pf 0 f w) (hf : f ≤ 15) :
    Calls Try.prog 11 #[.func (.func 12) #[] #[ptr pn, ptr pf], .int .i64 M] w fun e w' => ∃ k : Nat, e = .returned (.tuple #[.int .i64 k, .bool (decide (f < M))]) ∧ k = min (f + 1) M ∧ Fr (fun k => k = pn) w w' ∧ Count pn pf k f w' := by
  have HC := hide c; clear c
  go_enter Try.func11, Try.ntmps11
  go_wp2
  go_loopw [4, 5] (fun i b wr => ∃ (k : Nat) (o : Bool), k ≤ M ∧ i = .int .i64 k ∧ b = .bool o ∧ (o = true → k = f + 1) ∧ (o = false → k ≤ f) ∧ Fr (fun k => k = pn) w wr ∧ Count pn pf k f wr) (fun i b wr => M - (intOf i).toNat)
  case atStart => exact ⟨0, false, by omega, rfl, rfl, by simp, by omega, Fr.refl _ _, unhide HC⟩
  case round =>
    obtain ⟨k, o, hk, rfl, rfl, ho1, ho2, hfr, hc⟩ := hrel
    cases o with
    | true =>
      have hkf := ho1 rfl
      have END : Hid (Fr (fun k => k = pn) w wr ∧ Count pn pf k f wr) := hide ⟨hfr, hc⟩
      have HK := hide hkf
      clear hfr hc ho1 ho2 hkf
      go_wp2
      go_ret2
      have := unhide HK
      exact ⟨k, by rw [decide_eq_true (by omega)]; rfl, by omega, (unhide END).1, (unhide END).2⟩
    | false =>
      have hkf := ho2 rfl
      by_cases hlt : k < M
      · have hlt' : (k : Int) < M := by omega
        have K := again1_try hc (by omega)
        have HK := hide K; have HF := hide hfr; have HKF := hide hkf
        clear K hfr hc ho1 ho2 hkf
        go_wp2_with fail
        refine (unhide HK).mono ?_
        rintro e w1 ⟨h, rfl, f1, c1, hi⟩
        rw [hi]
        generalize h.v = v
        have END : Hid (Fr (fun k => k = pn) w w1 ∧ Count pn pf ((k : Int) + 1) f w1) := hide ⟨(unhide HF).trans f1, c1⟩
        clear HK HF f1 c1 hi
        go_wp2
        go_roundw
        case rel =>
          have hkf := unhide HKF
          refine ⟨k + 1, !decide ((k : Int) < f), by omega, by go_num, by simp, ?_, ?_, (unhide END).1, by simpa using (unhide END).2⟩
          · intro h; simp at h; omega
          · intro h; simp at h; omega
        case measure => simp [intOf]; omega
      · have hlt' : ¬ (k : Int) < M := by omega
        have END : Hid (Fr (fun k => k = pn) w wr ∧ Count pn pf k f wr) := hide ⟨hfr, hc⟩
        have HK := hide hkf; have HLT := hide hlt
        clear hfr hc ho1 ho2 hkf hlt
        go_wp2
        go_ret2
        have := unhide HK; have := unhide HLT
        exact ⟨k, by rw [decide_eq_false (by omega)]; rfl, by omega, (unhide END).1, (unhide END).2⟩

set_option maxHeartbeats 2000000 in
theorem again_one {pn pf : Nat} {f : Nat} {w : World}  (c : Count pn pf 0 f w) (hf : f ≤ 15) :
    Calls Try.prog 11 #[.func (.func 12) #[] #[ptr pn, ptr pf], .int .i64 1] w fun e w' => ∃ k : Nat, e = .returned (.tuple #[.int .i64 k, .bool (decide (f < 1))]) ∧ k = min (f + 1) 1 ∧ Fr (fun k => k = pn) w w' ∧ Count pn pf k f w' := by
  have HC := hide c; clear c
  go_enter Try.func11, Try.ntmps11
  go_wp2
  go_loopw [4, 5] (fun i b wr => ∃ (k : Nat) (o : Bool), k ≤ 1 ∧ i = .int .i64 k ∧ b = .bool o ∧ (o = true → k = f + 1) ∧ (o = false → k ≤ f) ∧ Fr (fun k => k = pn) w wr ∧ Count pn pf k f wr) (fun i b wr => 1 - (intOf i).toNat)
  case atStart => exact ⟨0, false, by omega, rfl, rfl, by simp, by omega, Fr.refl _ _, unhide HC⟩
  case round =>
    obtain ⟨k, o, hk, rfl, rfl, ho1, ho2, hfr, hc⟩ := hrel
    cases o with
    | true =>
      have hkf := ho1 rfl
      have END : Hid (Fr (fun k => k = pn) w wr ∧ Count pn pf k f wr) := hide ⟨hfr, hc⟩
      have HK := hide hkf
      clear hfr hc ho1 ho2 hkf
      go_wp2
      go_ret2
      have := unhide HK
      exact ⟨k, by rw [decide_eq_true (by omega)]; rfl, by omega, (unhide END).1, (unhide END).2⟩
    | false =>
      have hkf := ho2 rfl
      by_cases hlt : k < 1
      · have hlt' : (k : Int) < 1 := by omega
        have K := again1_try hc (by omega)
        have HK := hide K; have HF := hide hfr; have HKF := hide hkf
        clear K hfr hc ho1 ho2 hkf
        go_wp2_with fail
        refine (unhide HK).mono ?_
        rintro e w1 ⟨h, rfl, f1, c1, hi⟩
        rw [hi]
        generalize h.v = v
        have END : Hid (Fr (fun k => k = pn) w w1 ∧ Count pn pf ((k : Int) + 1) f w1) := hide ⟨(unhide HF).trans f1, c1⟩
        clear HK HF f1 c1 hi
        go_wp2
        go_roundw
        case rel =>
          have hkf := unhide HKF
          refine ⟨k + 1, !decide ((k : Int) < f), by omega, by go_num, by simp, ?_, ?_, (unhide END).1, by simpa using (unhide END).2⟩
          · intro h; simp at h; omega
          · intro h; simp at h; omega
        case measure => simp [intOf]; omega
      · have hlt' : ¬ (k : Int) < 1 := by omega
        have END : Hid (Fr (fun k => k = pn) w wr ∧ Count pn pf k f wr) := hide ⟨hfr, hc⟩
        have HK := hide hkf; have HLT := hide hlt
        clear hfr hc ho1 ho2 hkf hlt
        go_wp2
        go_ret2
        have := unhide HK; have := unhide HLT
        exact ⟨k, by rw [decide_eq_false (by omega)]; rfl, by omega, (unhide END).1, (unhide END).2⟩

set_option maxHeartbeats 2000000 in
theorem again_low {pn pf : Nat} {f : Nat} {w : World} (n : Int) (hn : n < 1) (_hn2 : -20 < n) (c : Count pn pf 0 f w) (hf : f ≤ 15) :
    Calls Try.prog 11 #[.func (.func 12) #[] #[ptr pn, ptr pf], .int .i64 n] w fun e w' => ∃ k : Nat, e = .returned (.tuple #[.int .i64 k, .bool (decide (f < 1))]) ∧ k = min (f + 1) 1 ∧ Fr (fun k => k = pn) w w' ∧ Count pn pf k f w' := by
  have HC := hide c; clear c
  go_enter Try.func11, Try.ntmps11
  go_wp2
  go_loopw [4, 5] (fun i b wr => ∃ (k : Nat) (o : Bool), k ≤ 1 ∧ i = .int .i64 k ∧ b = .bool o ∧ (o = true → k = f + 1) ∧ (o = false → k ≤ f) ∧ Fr (fun k => k = pn) w wr ∧ Count pn pf k f wr) (fun i b wr => 1 - (intOf i).toNat)
  case atStart => exact ⟨0, false, by omega, rfl, rfl, by simp, by omega, Fr.refl _ _, unhide HC⟩
  case round =>
    obtain ⟨k, o, hk, rfl, rfl, ho1, ho2, hfr, hc⟩ := hrel
    cases o with
    | true =>
      have hkf := ho1 rfl
      have END : Hid (Fr (fun k => k = pn) w wr ∧ Count pn pf k f wr) := hide ⟨hfr, hc⟩
      have HK := hide hkf
      clear hfr hc ho1 ho2 hkf
      go_wp2
      go_ret2
      have := unhide HK
      exact ⟨k, by rw [decide_eq_true (by omega)]; rfl, by omega, (unhide END).1, (unhide END).2⟩
    | false =>
      have hkf := ho2 rfl
      by_cases hlt : k < 1
      · have hlt' : (k : Int) < 1 := by omega
        have K := again1_try hc (by omega)
        have HK := hide K; have HF := hide hfr; have HKF := hide hkf
        clear K hfr hc ho1 ho2 hkf
        go_wp2_with fail
        refine (unhide HK).mono ?_
        rintro e w1 ⟨h, rfl, f1, c1, hi⟩
        rw [hi]
        generalize h.v = v
        have END : Hid (Fr (fun k => k = pn) w w1 ∧ Count pn pf ((k : Int) + 1) f w1) := hide ⟨(unhide HF).trans f1, c1⟩
        clear HK HF f1 c1 hi
        go_wp2
        go_roundw
        case rel =>
          have hkf := unhide HKF
          refine ⟨k + 1, !decide ((k : Int) < f), by omega, by go_num, by simp, ?_, ?_, (unhide END).1, by simpa using (unhide END).2⟩
          · intro h; simp at h; omega
          · intro h; simp at h; omega
        case measure => simp [intOf]; omega
      · have hlt' : ¬ (k : Int) < 1 := by omega
        have END : Hid (Fr (fun k => k = pn) w wr ∧ Count pn pf k f wr) := hide ⟨hfr, hc⟩
        have HK := hide hkf; have HLT := hide hlt
        clear hfr hc ho1 ho2 hkf hlt
        go_wp2
        go_ret2
        have := unhide HK; have := unhide HLT
        exact ⟨k, by rw [decide_eq_false (by omega)]; rfl, by omega, (unhide END).1, (unhide END).2⟩

theorem again_ok {pn pf : Nat} {f : Nat} {w : World} (n : Int) (hn : -20 < n ∧ n < 20) (N : Nat) (hN : (N : Int) = max n 1) (c : Count pn pf 0 f w) (hf : f ≤ 15) :
    Calls Try.prog 11 #[.func (.func 12) #[] #[ptr pn, ptr pf], .int .i64 n] w fun e w' => ∃ k : Nat, e = .returned (.tuple #[.int .i64 k, .bool (decide (f < N))]) ∧ k = min (f + 1) N ∧ Fr (fun k => k = pn) w w' ∧ Count pn pf k f w' := by
  by_cases h1 : 1 < n
  · obtain rfl : n = N := by omega
    exact again_big N h1 (by omega) c hf
  · obtain rfl : N = 1 := by omega
    by_cases h2 : n = 1
    · subst h2; exact again_one c hf
    · exact again_low n (by omega) (by omega) c hf

theorem beq_bool (x y : Bool) (w : World) : (binOp .eql 4 (.bool x) (.bool y)).run Try.prog w = .ok (.bool (x == y)) w := by
  cases x <;> cases y <;> kernel_rfl

theorem tmod_lo (a : Int) : -20 < a.tmod 20 := by
  rcases (by omega : 0 ≤ a ∨ 0 ≤ -a) with h | h
  · rw [Int.tmod_eq_emod_of_nonneg h]; omega
  · have e : a.tmod 20 = -((-a).tmod 20) := by rw [Int.neg_tmod, Int.neg_neg]
    rw [e, Int.tmod_eq_emod_of_nonneg h]; omega
theorem tmod_hi (a : Int) : a.tmod 20 < 20 := by
  rcases (by omega : 0 ≤ a ∨ 0 ≤ -a) with h | h
  · rw [Int.tmod_eq_emod_of_nonneg h]; omega
  · have e : a.tmod 20 = -((-a).tmod 20) := by rw [Int.neg_tmod, Int.neg_neg]
    rw [e, Int.tmod_eq_emod_of_nonneg h]; omega

theorem laid_count (f : Int) (w : World) : Still w ((w.alloc (.cells #[.int .i64 f] 3)).alloc (.cells #[.int .i64 0] 3)) ∧ Count (w.heap.size + 1) w.heap.size 0 f ((w.alloc (.cells #[.int .i64 f] 3)).alloc (.cells #[.int .i64 0] 3)) := by
  have f2 : Still (w.alloc (.cells #[.int .i64 f] 3)) ((w.alloc (.cells #[.int .i64 f] 3)).alloc (.cells #[.int .i64 0] 3)) := (Fr.refl _ _).alloc _
  refine ⟨((Fr.refl _ w).alloc _).trans f2, ⟨?_, f2.obj (obj_alloc_new w _) (fun h => h), by omega⟩⟩
  have := obj_alloc_new (w.alloc (.cells #[.int .i64 f] 3)) (.cells #[.int .i64 0] 3)
  rwa [World.size_alloc] at this

set_option maxHeartbeats 4000000 in
theorem again_walk (a0 a1 : Int) (w : World) : Calls Try.prog 4 #[.int .i64 a0, .int .i64 a1] w fun e w' => e = .returned (.bool true) ∧ Still w w' := by
  have b1 := beq_bool
  have h1 := mf
  have hm := mask15 a0
  have hml := msk_le a0 15
  generalize msk a0 15 = f at hm hml
  obtain ⟨n, hn, hn1, hn2⟩ : ∃ n, a1.tmod 20 = n ∧ -20 < n ∧ n < 20 := ⟨_, rfl, tmod_lo a1, tmod_hi a1⟩
  obtain ⟨N, hN⟩ : ∃ N : Nat, (N : Int) = max n 1 := ⟨(max n 1).toNat, by omega⟩
  obtain ⟨f0, c0⟩ := laid_count f w
  have K1 := hide (again_ok n ⟨hn1, hn2⟩ N hN c0 hml)
  have F0 := hide f0; have HN := hide hN
  clear f0 c0 hN
  go_enter Try.func4, Try.ntmps4
  go_wp2_with fail
  refine (unhide K1).mono ?_
  rintro e w1 ⟨k, rfl, hk, f1, c1⟩
  have fr1 : Still w w1 := (unhide F0).trans' f1 (fun k e => .inr (by omega))
  have cn := cell_of_obj c1.hn 0
  have cf := cell_of_obj c1.hf 0
  have K2 := hide (awake_ok w1)
  have FR1 := hide fr1
  clear K1 F0 f1 c1 fr1
  have hN := unhide HN
  have e1 : (decide (f < N) == decide ((f : Int) < N)) = true := by simp
  have go : ∀ (w2 : World), Still w1 w2 → Still w w2 := fun w2 f => (unhide FR1).trans f
  have GO := hide go; clear go
  rcases (by omega : 1 < n ∨ n = 1 ∨ n < 1) with h1n | h1n | h1n
  · obtain rfl : (N : Int) = n := by omega
    rcases (by omega : (f : Int) + 1 < N ∨ (f : Int) + 1 = N ∨ (N : Int) < (f : Int) + 1) with hf | hf | hf
    · obtain rfl : k = f + 1 := by omega
      clear hN HN hk
      go_wp2_with fail
      refine (unhide K2).mono ?_
      rintro e w2 ⟨rfl, f2⟩
      have F2 := hide (unhide GO _ f2)
      clear K2 f2
      go_wp2
      go_ret
      exact ⟨rfl, unhide F2⟩
    · obtain rfl : N = f + 1 := by omega
      obtain rfl : k = f + 1 := by omega
      clear hN HN hk hf
      go_wp2_with fail
      refine (unhide K2).mono ?_
      rintro e w2 ⟨rfl, f2⟩
      have F2 := hide (unhide GO _ f2)
      clear K2 f2
      go_wp2
      go_ret
      exact ⟨rfl, unhide F2⟩
    · obtain rfl : k = N := by omega
      clear hN HN hk
      go_wp2_with fail
      refine (unhide K2).mono ?_
      rintro e w2 ⟨rfl, f2⟩
      have F2 := hide (unhide GO _ f2)
      clear K2 f2
      go_wp2
      go_ret
      exact ⟨rfl, unhide F2⟩
  · obtain rfl : N = 1 := by omega
    subst h1n
    rcases (by omega : f = 0 ∨ (1 : Int) < (f : Int) + 1) with hf | hf
    · subst hf
      obtain rfl : k = 1 := by omega
      clear hN HN hk
      go_wp2_with fail
      refine (unhide K2).mono ?_
      rintro e w2 ⟨rfl, f2⟩
      have F2 := hide (unhide GO _ f2)
      clear K2 f2
      go_wp2
      go_ret
      exact ⟨rfl, unhide F2⟩
    · obtain rfl : k = 1 := by omega
      clear hN HN hk
      go_wp2_with fail
      refine (unhide K2).mono ?_
      rintro e w2 ⟨rfl, f2⟩
      have F2 := hide (unhide GO _ f2)
      clear K2 f2
      go_wp2
      go_ret
      exact ⟨rfl, unhide F2⟩
  · obtain rfl : N = 1 := by omega
    rcases (by omega : f = 0 ∨ (1 : Int) < (f : Int) + 1) with hf | hf
    · subst hf
      obtain rfl : k = 1 := by omega
      clear hN HN hk
      go_wp2_with fail
      refine (unhide K2).mono ?_
      rintro e w2 ⟨rfl, f2⟩
      have F2 := hide (unhide GO _ f2)
      clear K2 f2
      go_wp2
      go_ret
      exact ⟨rfl, unhide F2⟩
    · obtain rfl : k = 1 := by omega
      clear hN HN hk
      go_wp2_with fail
      refine (unhide K2).mono ?_
      rintro e w2 ⟨rfl, f2⟩
      have F2 := hide (unhide GO _ f2)
      clear K2 f2
      go_wp2
      go_ret
      exact ⟨rfl, unhide F2⟩
end Go.Proofs.Ytebfocfofoajkab
