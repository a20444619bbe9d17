/- NumChains walked. -/
import Derived.Test.YtepcfgcaekeniabDoorAwake
namespace Go.Proofs.YtepcfgcaekeniabDoor
open Go.RowKit

theorem cmp3_le (p q : Nat) : cmp3 p q ≤ 0 ↔ p ≤ q := by unfold cmp3; split <;> (try split) <;> omega
theorem cmp3_gt (p q : Nat) : 0 < cmp3 p q ↔ q < p := by unfold cmp3; split <;> (try split) <;> omega
theorem cmp3_eq (p q : Nat) : cmp3 p q = 0 ↔ p = q := by unfold cmp3; split <;> (try split) <;> omega
theorem cmp3_lt (p q : Nat) : cmp3 p q = -1 ↔ p < q := by unfold cmp3; split <;> (try split) <;> omega

theorem ord_lt (a b : Nat) (ha : a < 18446744073709551616) (hb : b < 18446744073709551616) (h : (FloatKind.f64.format.order a b == some Ordering.lt) = true) : codeN a < codeN b := by
  by_cases na : nanB a = true
  · rw [show FloatKind.f64.format.order a b = none from ord_nan_l a b na] at h; cases h
  by_cases nb : nanB b = true
  · rw [show FloatKind.f64.format.order a b = none from ord_nan_r a b nb] at h; cases h
  have na' : nanB a = false := by simpa using na
  have nb' : nanB b = false := by simpa using nb
  rw [show FloatKind.f64.format.order a b = _ from ord_eq a b ha hb na' nb'] at h
  refine code_lt a b ha hb na' nb' ?_
  unfold cmpI at h
  split at h
  · assumption
  · split at h <;> cases h
theorem ord_same (a b : Nat) (ha : a < 18446744073709551616) (hb : b < 18446744073709551616) (h : (FloatKind.f64.format.order a b == some Ordering.eq) = true) (h0 : (FloatKind.f64.format.order a 0 != some Ordering.eq) = true) : a = b := by
  by_cases na : nanB a = true
  · rw [show FloatKind.f64.format.order a b = none from ord_nan_l a b na] at h; cases h
  by_cases nb : nanB b = true
  · rw [show FloatKind.f64.format.order a b = none from ord_nan_r a b nb] at h; cases h
  have na' : nanB a = false := by simpa using na
  have nb' : nanB b = false := by simpa using nb
  rw [show FloatKind.f64.format.order a b = _ from ord_eq a b ha hb na' nb'] at h
  rw [show FloatKind.f64.format.order a 0 = _ from ord_eq a 0 ha (by decide) na' (by decide)] at h0
  have hv : val a = val b := by
    unfold cmpI at h
    split at h
    · cases h
    · split at h
      · assumption
      · cases h
  rcases val_eq a b ha hb hv with h1 | h1
  · exact h1
  · have hz : val 0 = 0 := by decide
    rw [h1.1, hz] at h0
    cases h0

theorem ord_cases (a b : Nat) (ha : a < 18446744073709551616) (hb : b < 18446744073709551616) :
    (FloatKind.f64.format.order a b = some Ordering.lt ∧ codeN a < codeN b) ∨ FloatKind.f64.format.order a b = some Ordering.gt ∨ FloatKind.f64.format.order a b = none ∨ (FloatKind.f64.format.order a b = some Ordering.eq ∧ (FloatKind.f64.format.order a 0 != some Ordering.eq) = false) ∨ (FloatKind.f64.format.order a b = some Ordering.eq ∧ (FloatKind.f64.format.order a 0 != some Ordering.eq) = true ∧ codeN a = codeN b) := by
  have ol := ord_lt a b ha hb
  have os := ord_same a b ha hb
  cases e : FloatKind.f64.format.order a b with
  | none => exact .inr (.inr (.inl rfl))
  | some o =>
    rw [e] at ol os
    cases o with
    | lt => exact .inl ⟨rfl, ol rfl⟩
    | gt => exact .inr (.inl rfl)
    | eq =>
      cases z : (FloatKind.f64.format.order a 0 != some Ordering.eq) with
      | false => exact .inr (.inr (.inr (.inl ⟨rfl, rfl⟩)))
      | true => exact .inr (.inr (.inr (.inr ⟨rfl, rfl, congrArg codeN (os rfl z)⟩)))

theorem one_cases (p q r : Nat) : (cmp3 p q = 1 ∧ ((p : Int) == q) = false ∧ q < p) ∨ ((cmp3 p q = -1 ∧ ((p : Int) == q) = false ∧ p < q ∨ cmp3 p q = 0 ∧ ((p : Int) == q) = true ∧ p = q) ∧ (decide (cmp3 q r ≤ 0) = false ∨ decide (cmp3 q r ≤ 0) = true ∧ decide (0 < cmp3 p r) = false)) := by
  have i1 := cmp3_le q r
  have i2 := cmp3_gt p r
  rcases Nat.lt_trichotomy p q with h | h | h
  · refine .inr ⟨.inl ⟨(cmp3_lt p q).2 h, by simp; omega, h⟩, ?_⟩
    by_cases e : q ≤ r
    · exact .inr ⟨decide_eq_true (i1.2 e), decide_eq_false (fun k => by have := i2.1 k; omega)⟩
    · exact .inl (decide_eq_false (fun k => e (i1.1 k)))
  · refine .inr ⟨.inr ⟨(cmp3_eq p q).2 h, by simp [h], h⟩, ?_⟩
    by_cases e : q ≤ r
    · exact .inr ⟨decide_eq_true (i1.2 e), decide_eq_false (fun k => by have := i2.1 k; omega)⟩
    · exact .inl (decide_eq_false (fun k => e (i1.1 k)))
  · exact .inl ⟨by unfold cmp3; rw [if_neg (by omega), if_pos h], by simp; omega, h⟩

set_option maxRecDepth 100000 in
set_option maxHeartbeats 4000000 in
theorem chains_ok (a b c : Nat) (ha : a < 18446744073709551616) (hb : b < 18446744073709551616) (hc : c < 18446744073709551616) (w : World) (ht : Tab w) : Calls Tryd.prog 6 #[.int .u64 a, .int .u64 b, .int .u64 c] w fun e w' => e = .returned (.bool true) ∧ Below w.heap.size w w' := by
  have hf := from_run
  rcases one_cases (codeN a) (codeN b) (codeN c) with ⟨c1, c2, c3⟩ | ⟨⟨c1, c2, c3⟩ | ⟨c1, c2, c3⟩, o1 | ⟨o1, o2⟩⟩ <;> rcases ord_cases a b ha hb with ⟨t1, t2⟩ | t1 | t1 | ⟨t1, t2⟩ | ⟨t1, t2, t3⟩
  all_goals first
    | (exfalso; omega)
    | (clear c3; try clear t3
       go_enter Tryd.func6, Tryd.ntmps6
       go_wp2_with (first | (go_at_call 16; refine (cmp_ok _ _ (by assumption) (by assumption) _).mono ?_; rintro e w' ⟨rfl, rfl⟩) | (go_at_call 17; refine (code_ok _ (by assumption) _).mono ?_; rintro e w' ⟨rfl, rfl⟩) | (go_at_call 10; refine (awake_ok _ (by assumption)).mono ?_; rintro e w2 ⟨rfl, hb2⟩))
       go_ret
       exact ⟨rfl, hb2⟩)
end Go.Proofs.YtepcfgcaekeniabDoor
