/- NumSteps walked. -/
import Derived.Test.YtepcfgcaekeniaaDoorOrdersW
namespace Go.Proofs.YtepcfgcaekeniaaDoor
open Go.RowKit

theorem codeN_num (b : Nat) (h : nanB b = false) : codeN b = if b < 9223372036854775808 then b + 9223372036854775808 else 18446744073709551615 - b := by
  unfold codeN; rw [if_neg (by rw [h]; decide)]
/-- The bits of the next number. -/
def nextB (a : Nat) : Nat := if a < 9223372036854775808 then a + 1 else if a = 9223372036854775808 then 0 else a - 1
theorem next_facts (a : Nat) (ha : a < 18446744073709551616) (hn : nanB a = false) (hi : a ≠ 9218868437227405312) :
    nextB a < 18446744073709551616 ∧ nanB (nextB a) = false ∧ codeN (nextB a) = codeN a + 1 ∧ codeN a + 1 < 18446744073709551616 ∧ backN (codeN a + 1) = nextB a := by
  have h1 : nextB a < 18446744073709551616 := by unfold nextB; split; omega; split <;> omega
  have hn1 := hn
  simp only [nanB, decide_eq_false_iff_not, Nat.not_lt] at hn1
  have h2 : nanB (nextB a) = false := by
    simp only [nanB, decide_eq_false_iff_not, Nat.not_lt]
    unfold nextB
    split
    · omega
    · split <;> omega
  have hy : (a < 9223372036854775808 ∧ nextB a = a + 1) ∨ (a = 9223372036854775808 ∧ nextB a = 0) ∨ (9223372036854775808 < a ∧ nextB a = a - 1) := by
    unfold nextB
    by_cases k : a < 9223372036854775808
    · exact .inl ⟨k, if_pos k⟩
    · by_cases k2 : a = 9223372036854775808
      · exact .inr (.inl ⟨k2, (if_neg k).trans (if_pos k2)⟩)
      · exact .inr (.inr ⟨by omega, (if_neg k).trans (if_neg k2)⟩)
  have h3 : codeN (nextB a) = codeN a + 1 := by
    rw [codeN_num _ h2, codeN_num _ hn]
    generalize nextB a = y at hy
    split <;> split <;> omega
  have h4 : codeN a + 1 < 18446744073709551616 := by rw [← h3]; exact codeN_lt _ h1
  refine ⟨h1, h2, h3, h4, ?_⟩
  rw [← h3]
  rcases back_code (nextB a) h1 with h | h
  · exact h
  · rw [h2] at h; cases h.2

theorem val_inf : val 9218868437227405312 = (sz 9218868437227405312 : Int) := rfl
theorem below_inf (a : Nat) (ha : a < 18446744073709551616) (hn : nanB a = false) (hi : a ≠ 9218868437227405312) : val a < val 9218868437227405312 := by
  have tp := top_pos
  rw [val_inf]
  simp only [nanB, decide_eq_false_iff_not, Nat.not_lt] at hn
  rcases Nat.lt_or_eq_of_le hn with h | h
  · exact (val_lt a h).1
  · rcases val_top a h ha with ⟨_, v⟩ | ⟨s, v⟩
    · rw [v]; omega
    · rw [sgn_eq a ha] at s
      simp at s
      omega
theorem o1 (a : Nat) (ha : a < 18446744073709551616) (hn : nanB a = false) (hi : a ≠ 9218868437227405312) : (FloatKind.f64.format.order a 9218868437227405312 == some Ordering.eq) = false := by
  have := below_inf a ha hn hi
  rw [show FloatKind.f64.format.order a 9218868437227405312 = _ from ord_eq a _ ha (by decide) hn (by decide)]
  unfold cmpI; rw [if_pos this]; rfl
theorem o2 (a : Nat) (ha : a < 18446744073709551616) (hn : nanB a = false) (hi : a ≠ 9218868437227405312) : (FloatKind.f64.format.order 9218868437227405312 a == some Ordering.gt) = true := by
  have := below_inf a ha hn hi
  rw [show FloatKind.f64.format.order 9218868437227405312 a = _ from ord_eq _ a (by decide) ha (by decide) hn]
  unfold cmpI; rw [if_neg (by omega), if_neg (by omega)]; rfl
theorem val0 : val 0 = 0 := by decide
theorem o3 (a : Nat) (ha : a < 18446744073709551616) (hn : nanB a = false) (h : a ≠ 0) (h2 : a ≠ 9223372036854775808) : (FloatKind.f64.format.order a 0 == some Ordering.eq) = false := by
  rw [show FloatKind.f64.format.order a 0 = _ from ord_eq a 0 ha (by decide) hn (by decide), val0]
  have : val a ≠ 0 := fun e => by rcases val_zero a ha e with h1 | h1 <;> omega
  unfold cmpI
  by_cases k : val a < 0
  · rw [if_pos k]; rfl
  · rw [if_neg k, if_neg this]; rfl
theorem o4 (a : Nat) (ha : a < 18446744073709551616) (hn : nanB a = false) (h : a ≠ 0) (h2 : a ≠ 9223372036854775808) : (FloatKind.f64.format.order a 0 == some Ordering.gt) = decide (a < 9223372036854775808) := by
  rw [show FloatKind.f64.format.order a 0 = _ from ord_eq a 0 ha (by decide) hn (by decide), val0]
  have hz : val a ≠ 0 := fun e => by rcases val_zero a ha e with h1 | h1 <;> omega
  unfold cmpI
  by_cases k : a < 9223372036854775808
  · have : 0 ≤ val a := by unfold val; rw [if_pos k]; omega
    rw [if_neg (by omega), if_neg hz, decide_eq_true k]; rfl
  · have : val a ≤ 0 := by unfold val; rw [if_neg k]; omega
    rw [if_pos (by omega), decide_eq_false k]; rfl

set_option maxRecDepth 100000 in
set_option maxHeartbeats 1000000 in
theorem nextafter_ok (a : Nat) (ha : a < 18446744073709551616) (hn : nanB a = false) (hi : a ≠ 9218868437227405312) (hz : a ≠ 9223372036854775808) (w : World) : Calls Tryd.prog 19 #[.float .f64 a, .float .f64 9218868437227405312] w fun e w' => e = .returned (.float .f64 (nextB a)) ∧ w' = w := by
  have hf := from_run
  have hbit := bits_run
  have hni : nanB 9218868437227405312 = false := by decide
  have p1 := o1 a ha hn hi
  have p2 := o2 a ha hn hi
  by_cases h0 : a = 0
  · subst h0
    have h3 : (FloatKind.f64.format.order 0 0 == some Ordering.eq) = true := by decide +kernel
    go_enter Tryd.func19, Tryd.ntmps19
    go_wp2_with (first | (go_at_call 31; refine (isNaN_ok _ (by first | assumption | decide) _).mono ?_; rintro e w' ⟨rfl, rfl⟩) | (go_at_call 32; go_in))
    go_ret
    exact ⟨rfl, rfl⟩
  · have p3 := o3 a ha hn h0 hz
    have p4 := o4 a ha hn h0 hz
    by_cases k : a < 9223372036854775808
    · have e1 : IntKind.u64.wrap ((a : Int) + 1) = ((nextB a : Nat) : Int) := by rw [IntKind.wrap_u64]; unfold nextB; rw [if_pos k]; omega
      rw [decide_eq_true k] at p4
      clear k h0 hz hi
      generalize nextB a = y at *
      go_enter Tryd.func19, Tryd.ntmps19
      go_wp2_with (first | (go_at_call 31; refine (isNaN_ok _ (by first | assumption | decide) _).mono ?_; rintro e w' ⟨rfl, rfl⟩))
      go_ret
      exact ⟨rfl, rfl⟩
    · have e1 : IntKind.u64.wrap ((a : Int) - 1) = ((nextB a : Nat) : Int) := by rw [IntKind.wrap_u64]; unfold nextB; rw [if_neg k, if_neg hz]; omega
      rw [decide_eq_false k] at p4
      clear k h0 hz hi
      generalize nextB a = y at *
      go_enter Tryd.func19, Tryd.ntmps19
      go_wp2_with (first | (go_at_call 31; refine (isNaN_ok _ (by first | assumption | decide) _).mono ?_; rintro e w' ⟨rfl, rfl⟩))
      go_ret
      exact ⟨rfl, rfl⟩

set_option maxRecDepth 100000 in
set_option maxHeartbeats 2000000 in
theorem steps_ok (a : Nat) (ha : a < 18446744073709551616) (w : World) (ht : Tab w) : Calls Tryd.prog 4 #[.int .u64 a] w fun e w' => e = .returned (.bool true) ∧ Below w.heap.size w w' := by
  have hf := from_run
  have hbit := bits_run
  have hs := ord_self a ha
  have ci : codeN 9218868437227405312 = 18442240474082181120 := by decide
  have hI := isInf_up a ha
  have hC := code_ok a ha
  cases hn : nanB a with
  | true =>
    rw [hn] at hs
    have e1 : codeN a = 18446744073709551615 := by unfold codeN; rw [if_pos hn]
    rw [e1] at hC
    go_enter Tryd.func4, Tryd.ntmps4
    go_wp2_with (first | (go_at_call 12; go_in) | (go_at_call 11; refine (code_ok _ (by first | assumption | decide) _).mono ?_; rintro e w' ⟨rfl, rfl⟩) | (go_at_call 14; refine (awake_ok _ (by assumption)).mono ?_; rintro e w2 ⟨rfl, hb2⟩))
    go_ret
    exact ⟨rfl, hb2⟩
  | false =>
    rw [hn] at hs
    by_cases hi : a = 9218868437227405312
    · subst hi
      go_enter Tryd.func4, Tryd.ntmps4
      go_wp2_with (first | (go_at_call 15; refine (hI _).mono ?_; rintro e w' ⟨rfl, rfl⟩) | (go_at_call 12; go_in) | (go_at_call 11; refine (code_ok _ (by first | assumption | decide) _).mono ?_; rintro e w' ⟨rfl, rfl⟩) | (go_at_call 14; refine (awake_ok _ (by assumption)).mono ?_; rintro e w2 ⟨rfl, hb2⟩))
      go_ret
      exact ⟨rfl, hb2⟩
    · obtain ⟨n1, n2, n3, n4, n5⟩ := next_facts a ha hn hi
      have hB := back_ok (codeN a + 1) n4
      rw [n5] at hB
      have hw : IntKind.u64.wrap ((codeN a : Int) + 1) = ((codeN a + 1 : Nat) : Int) := by rw [IntKind.wrap_u64]; omega
      have hCm := cmp_ok a (nextB a) ha n1
      rw [show cmp3 (codeN a) (codeN (nextB a)) = -1 by rw [n3]; unfold cmp3; rw [if_pos (by omega)]] at hCm
      rw [decide_eq_false hi] at hI
      by_cases hz : a = 9223372036854775808
      · subst hz
        have p0 : (FloatKind.f64.format.order 9223372036854775808 0 == some Ordering.eq) = true := by decide +kernel
        have hn0 : nextB 9223372036854775808 = 0 := by decide
        rw [hn0] at hB hCm
        clear hn0 n1 n2 n3 n4 n5 hi
        generalize codeN 9223372036854775808 = p at *
        go_enter Tryd.func4, Tryd.ntmps4
        go_wp2_with (first | (go_at_call 15; refine (hI _).mono ?_; rintro e w' ⟨rfl, rfl⟩) | (go_at_call 11; refine (hC _).mono ?_; rintro e w' ⟨rfl, rfl⟩) | (go_at_call 16; refine (hB _).mono ?_; rintro e w' ⟨rfl, rfl⟩) | (go_at_call 10; refine (hCm _).mono ?_; rintro e w' ⟨rfl, rfl⟩) | (go_at_call 17; refine (signbit_ok _ (by decide) _).mono ?_; rintro e w' ⟨rfl, rfl⟩) | (go_at_call 14; refine (awake_ok _ (by assumption)).mono ?_; rintro e w2 ⟨rfl, hb2⟩))
        go_ret
        exact ⟨rfl, hb2⟩
      · have hN := nextafter_ok a ha hn hi hz
        have hS := signbit_ok a ha
        have hq : (FloatKind.f64.format.order a 0 == some Ordering.eq) = false ∨ ((FloatKind.f64.format.order a 0 == some Ordering.eq) = true ∧ decide (9223372036854775808 ≤ a) = false) := by
          by_cases h0 : a = 0
          · subst h0; exact .inr ⟨by decide +kernel, by decide⟩
          · exact .inl (o3 a ha hn h0 hz)
        clear n1 n2 n3 n4 n5 hi hz
        generalize codeN a = p at *
        generalize nextB a = y at *
        rcases hq with q1 | ⟨q1, q2⟩
        · go_enter Tryd.func4, Tryd.ntmps4
          go_wp2_with (first | (go_at_call 15; refine (hI _).mono ?_; rintro e w' ⟨rfl, rfl⟩) | (go_at_call 11; refine (hC _).mono ?_; rintro e w' ⟨rfl, rfl⟩) | (go_at_call 16; refine (hB _).mono ?_; rintro e w' ⟨rfl, rfl⟩) | (go_at_call 10; refine (hCm _).mono ?_; rintro e w' ⟨rfl, rfl⟩) | (go_at_call 12; go_in) | (go_at_call 19; refine (hN _).mono ?_; rintro e w' ⟨rfl, rfl⟩) | (go_at_call 14; refine (awake_ok _ (by assumption)).mono ?_; rintro e w2 ⟨rfl, hb2⟩))
          go_ret
          exact ⟨rfl, hb2⟩
        · rw [q2] at hS
          go_enter Tryd.func4, Tryd.ntmps4
          go_wp2_with (first | (go_at_call 15; refine (hI _).mono ?_; rintro e w' ⟨rfl, rfl⟩) | (go_at_call 11; refine (hC _).mono ?_; rintro e w' ⟨rfl, rfl⟩) | (go_at_call 16; refine (hB _).mono ?_; rintro e w' ⟨rfl, rfl⟩) | (go_at_call 10; refine (hCm _).mono ?_; rintro e w' ⟨rfl, rfl⟩) | (go_at_call 12; go_in) | (go_at_call 19; refine (hN _).mono ?_; rintro e w' ⟨rfl, rfl⟩) | (go_at_call 17; refine (hS _).mono ?_; rintro e w' ⟨rfl, rfl⟩) | (go_at_call 14; refine (awake_ok _ (by assumption)).mono ?_; rintro e w2 ⟨rfl, hb2⟩))
          go_ret
          exact ⟨rfl, hb2⟩
end Go.Proofs.YtepcfgcaekeniaaDoor
