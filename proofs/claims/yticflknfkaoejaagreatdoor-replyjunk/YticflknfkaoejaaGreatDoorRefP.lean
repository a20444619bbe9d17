/- The document's own Parse. -/
import Derived.Test.YticflknfkaoejaaGreatDoorRefD
import Derived.Test.YticflknfkaoejaaGreatDoorRefB
namespace Go.Proofs.YticflknfkaoejaaGreatDoor
open Go.RowKit

theorem ext_take (s : ByteArray) (k : Nat) : s.extract 0 k = ⟨(s.data.toList.take k).toArray⟩ := by
  apply ByteArray.ext
  rw [ByteArray.data_extract]
  obtain ⟨⟨l⟩⟩ := s
  simp [List.extract_toArray, List.extract_eq_take_drop]
theorem ext_drop (s : ByteArray) (k : Nat) : s.extract k s.size = ⟨(s.data.toList.drop k).toArray⟩ := by
  apply ByteArray.ext
  rw [ByteArray.data_extract]
  obtain ⟨⟨l⟩⟩ := s
  show l.toArray.extract k l.length = (l.drop k).toArray
  rw [List.extract_toArray, List.extract_eq_take_drop, List.take_of_length_le (by simp)]
theorem to2 (s : ByteArray) (h : 2 ≤ s.size) (w : World) : (Instr.sliceAt 9 (.string s) none (some (.int .i64 2)) none).run Tryz.prog w = .ok (.string ⟨(s.data.toList.take 2).toArray⟩) w := by
  rw [run_sliceAt_string w 9 _ _ _ _ Tryz.underlying9, ← ext_take]
  go_simp
  intro k
  omega
theorem from2 (s : ByteArray) (h : 2 ≤ s.size) (w : World) : (Instr.sliceAt 9 (.string s) (some (.int .i64 2)) none none).run Tryz.prog w = .ok (.string ⟨(s.data.toList.drop 2).toArray⟩) w := by
  rw [run_sliceAt_string w 9 _ _ _ _ Tryz.underlying9, ← ext_drop]
  go_simp
  intro k
  omega
theorem from1 (s : ByteArray) (h : 1 ≤ s.size) (w : World) : (Instr.sliceAt 9 (.string s) (some (.int .i64 1)) none none).run Tryz.prog w = .ok (.string ⟨(s.data.toList.drop 1).toArray⟩) w := by
  rw [run_sliceAt_string w 9 _ _ _ _ Tryz.underlying9, ← ext_drop]
  go_simp
  intro k
  omega

theorem unh_lt (l : List UInt8) (a u : Nat) (h : unh l a = some u) : u < (a + 1) * 16 ^ l.length := by
  induction l generalizing a with
  | nil => cases h; simp
  | cons c l ih =>
    rw [unh] at h
    cases hv : hexv c with
    | none => rw [hv] at h; cases h
    | some v =>
      rw [hv] at h
      have h1 := ih (a * 16 + v) h
      have hv16 := hexv_lt c v hv
      refine Nat.lt_of_lt_of_le h1 ?_
      rw [List.length_cons, Nat.pow_succ, Nat.mul_comm (16 ^ l.length) 16, ← Nat.mul_assoc]
      exact Nat.mul_le_mul_right _ (by omega)

/-- A number read, or none, as the document's own Parse tells it. -/
def refV (o : Option Nat) : Value := .tuple #[.float .f64 (o.getD 0), .bool o.isSome]

/-- What a text behind a sign tells: infinity, digits, or nothing. -/
def WholeR (neg : Bool) (r : List UInt8) (o : Option Nat) : Prop :=
  (r = [105, 110, 102] ∧ o = some (if neg then 18442240474082181120 else 9218868437227405312)) ∨ (r ≠ [105, 110, 102] ∧ Digs r ∧ o = some (wb neg (dv r 0))) ∨ (r ≠ [105, 110, 102] ∧ ¬ Digs r ∧ o = none)

set_option maxRecDepth 100000 in
set_option maxHeartbeats 1000000 in
theorem refParse_nan (w : World) : Calls Tryz.prog 19 #[.string ⟨#[110, 97, 110]⟩] w fun e w' => e = .returned (refV (some 9221120237041090561)) ∧ w' = w := by
  go_enter Tryz.func19, Tryz.ntmps19
  go_wp2_with (go_at_call 32; refine (nan_ok _).mono ?_; rintro e w' ⟨rfl, rfl⟩)
  go_ret2
  exact ⟨rfl, rfl⟩

set_option maxRecDepth 100000 in
set_option maxHeartbeats 1000000 in
theorem refParse_x (s : ByteArray) (hs : s.size < 9223372036854775807) (l : List UInt8) (hl : s.data.toList = 48 :: 120 :: l) (hne : l ≠ []) (w : World) : Calls Tryz.prog 19 #[.string s] w fun e w' => e = .returned (refV (pHex l)) ∧ w' = w := by
  have hf := from_run
  have hsz : s.size = 2 + l.length := by
    have := congrArg List.length hl; simp at this; omega
  have hl1 : 1 ≤ l.length := by rcases l with _ | ⟨a, b⟩; exact absurd rfl hne; simp
  have n1 : (s.toList == [110, 97, 110]) = false := by rw [ByteArray.toList_eq, hl]; rfl
  have h2 := to2 s (by omega)
  have h3 := from2 s (by omega)
  rw [hl] at h2 h3
  simp only [List.take_succ_cons, List.take_zero, List.drop_succ_cons, List.drop_zero] at h2 h3
  obtain ⟨N, hN⟩ : ∃ N, s.size = N := ⟨_, rfl⟩
  have k1 : ((2 : Int) < (N : Int)) = True := by simp; omega
  have hU := unhex_ok ⟨l.toArray⟩ (by show l.toArray.size < _; rw [List.size_toArray]; omega)
  have hU2 : (∃ u, pHex l = some u ∧ u < 18446744073709551616 ∧ nanB u = false ∧ ∀ w, Calls Tryz.prog 33 #[.string ⟨l.toArray⟩] w fun e w' => e = .returned (.tuple #[.int .u64 u, .bool true]) ∧ w' = w) ∨ (∃ u, pHex l = none ∧ u < 18446744073709551616 ∧ nanB u = true ∧ ∀ w, Calls Tryz.prog 33 #[.string ⟨l.toArray⟩] w fun e w' => e = .returned (.tuple #[.int .u64 u, .bool true]) ∧ w' = w) ∨ (pHex l = none ∧ ∀ w, Calls Tryz.prog 33 #[.string ⟨l.toArray⟩] w fun e w' => (∃ v : Nat, e = .returned (.tuple #[.int .u64 v, .bool false])) ∧ w' = w) := by
    unfold UnhexEnd at hU
    show _
    by_cases h16 : l.length = 16
    · cases hu : unh l 0 with
      | none =>
        right; right
        refine ⟨by unfold pHex; rw [if_pos h16, hu]; rfl, fun w => (hU w).mono fun e w' h => ?_⟩
        have h' := h.1
        rw [if_pos h16, hu] at h'
        exact ⟨h', h.2⟩
      | some u =>
        have hlt := unh_lt l 0 u hu
        rw [h16] at hlt
        have hlt2 : u < 18446744073709551616 := by simpa using hlt
        have hC : ∀ w, Calls Tryz.prog 33 #[.string ⟨l.toArray⟩] w fun e w' => e = .returned (.tuple #[.int .u64 u, .bool true]) ∧ w' = w := fun w => (hU w).mono fun e w' h => by
          have h' := h.1
          rw [if_pos h16, hu] at h'
          exact ⟨h', h.2⟩
        cases hn : nanB u with
        | true => exact .inr (.inl ⟨u, by unfold pHex; rw [if_pos h16, hu, Option.filter_some, if_neg (by rw [hn]; decide)], hlt2, hn, hC⟩)
        | false => exact .inl ⟨u, by unfold pHex; rw [if_pos h16, hu, Option.filter_some, if_pos (by rw [hn]; decide)], hlt2, hn, hC⟩
    · right; right
      refine ⟨by unfold pHex; rw [if_neg h16], fun w => (hU w).mono fun e w' h => ?_⟩
      have h' := h.1
      rw [if_neg h16] at h'
      exact ⟨h', h.2⟩
  clear hU hsz hl hs hne hl1
  rcases hU2 with ⟨u, e1, e2, e3, e4⟩ | ⟨u, e1, e2, e3, e4⟩ | ⟨e1, e4⟩
  · rw [e1]
    clear e1
    go_enter Tryz.func19, Tryz.ntmps19
    go_wp2_with (first | (go_at_call 33; refine (e4 _).mono ?_; rintro e w' ⟨rfl, rfl⟩) | (go_at_call 34; refine (refNan_ok u e2 _).mono ?_; rintro e w' ⟨rfl, rfl⟩))
    go_ret2
    exact ⟨rfl, rfl⟩
  · rw [e1]
    clear e1
    go_enter Tryz.func19, Tryz.ntmps19
    go_wp2_with (first | (go_at_call 33; refine (e4 _).mono ?_; rintro e w' ⟨rfl, rfl⟩) | (go_at_call 34; refine (refNan_ok u e2 _).mono ?_; rintro e w' ⟨rfl, rfl⟩))
    go_ret2
    exact ⟨rfl, rfl⟩
  · rw [e1]
    clear e1
    go_enter Tryz.func19, Tryz.ntmps19
    go_wp2_with (first | (go_at_call 33; refine (e4 _).mono ?_; rintro e w' ⟨⟨v, rfl⟩, rfl⟩))
    go_ret2
    exact ⟨rfl, rfl⟩

theorem dv_lt (l : List UInt8) (a : Nat) (h : ∀ c ∈ l, 48 ≤ c.toNat ∧ c.toNat ≤ 57) : dv l a < (a + 1) * 10 ^ l.length := by
  induction l generalizing a with
  | nil => simp [dv]
  | cons c l ih =>
    have hc := h c (by simp)
    have h1 := ih (10 * a + (c.toNat - 48)) (fun x hx => h x (by simp [hx]))
    rw [dv]
    refine Nat.lt_of_lt_of_le h1 ?_
    rw [List.length_cons, Nat.pow_succ, Nat.mul_comm (10 ^ l.length) 10, ← Nat.mul_assoc]
    exact Nat.mul_le_mul_right _ (by omega)
theorem digs_lt (l : List UInt8) (h : Digs l) : dv l 0 < 1000000000000000 := by
  have h1 := dv_lt l 0 h.2.1
  have h2 : 10 ^ l.length ≤ 10 ^ 15 := Nat.pow_le_pow_right (by omega) h.2.2.1
  have h3 : (10 : Nat) ^ 15 = 1000000000000000 := by decide
  omega

theorem or_sign (q : Nat) (hq : q < 1000000000000000) : bits .or .u64 9223372036854775808 (wr q : Int) = ((wb true q : Nat) : Int) := by
  have hw := wr_lt q (by omega)
  rw [show (9223372036854775808 : Int) = ((9223372036854775808 : Nat) : Int) from rfl, u64_or_nat _ _ (by decide) (by omega)]
  have := Nat.two_pow_add_eq_or_of_lt (i := 63) (b := wr q) (by omega) 1
  rw [Nat.mul_one] at this
  rw [show (9223372036854775808 : Nat) = 2 ^ 63 by decide, ← this]
  rfl
theorem or_nought (q : Nat) (hq : q < 1000000000000000) : bits .or .u64 0 (wr q : Int) = ((wb false q : Nat) : Int) := by
  have hw := wr_lt q (by omega)
  rw [show (0 : Int) = ((0 : Nat) : Int) from rfl, u64_or_nat _ _ (by decide) (by omega), Nat.zero_or]
  rfl

set_option maxRecDepth 100000 in
set_option maxHeartbeats 2000000 in
theorem refParse_w (neg : Bool) (s : ByteArray) (hs : s.size < 9223372036854775807) (r : List UInt8) (hl : s.data.toList = if neg then 45 :: r else r) (hneg : neg = false → r[0]? ≠ some 45) (hnan : s.data.toList ≠ [110, 97, 110]) (hx : ∀ c l, s.data.toList ≠ 48 :: 120 :: c :: l) (o : Option Nat) (ho : WholeR neg r o) (w : World) : Calls Tryz.prog 19 #[.string s] w fun e w' => e = .returned (refV o) ∧ w' = w := by
  have hf := from_run
  have n1 : (s.toList == [110, 97, 110]) = false := by rw [ByteArray.toList_eq]; simpa using hnan
  have hr9 : r.length < 9223372036854775807 := by
    have := congrArg List.length hl
    cases neg <;> simp at this <;> omega
  obtain ⟨N, hN⟩ : ∃ N, s.size = N := ⟨_, rfl⟩
  have hlen : s.data.toList.length = N := by rw [← hN]; simp
  have hpre : (((2 : Int) < (N : Int)) = False) ∨ (((2 : Int) < (N : Int)) = True ∧ ∃ S : ByteArray, (S.toList == [48, 120]) = false ∧ ∀ w, (Instr.sliceAt 9 (.string s) none (some (.int .i64 2)) none).run Tryz.prog w = .ok (.string S) w) := by
    by_cases k : 2 < N
    · right
      refine ⟨by simp; omega, _, ?_, to2 s (by omega)⟩
      rw [ByteArray.toList_eq]
      simp only [beq_eq_false_iff_ne]
      intro e
      match hm : s.data.toList, e with
      | a :: b :: c :: l, e =>
        simp at e
        exact hx c l (by rw [hm, e.1, e.2])
      | [a, b], _ => rw [hm] at hlen; simp at hlen; omega
      | [a], _ => rw [hm] at hlen; simp at hlen; omega
      | [], _ => rw [hm] at hlen; simp at hlen; omega
    · left; simp; omega
  have hD := digs_ok ⟨r.toArray⟩ (by show r.toArray.size < _; rw [List.size_toArray]; omega)
  have hD1 : Digs r → ∀ w, Calls Tryz.prog 35 #[.string ⟨r.toArray⟩] w fun e w' => e = .returned (.tuple #[.int .u64 (dv r 0), .bool true]) ∧ w' = w := fun h w => (hD w).mono fun e w' k => ⟨k.1.1 h, k.2⟩
  have hD2 : ¬ Digs r → ∀ w, Calls Tryz.prog 35 #[.string ⟨r.toArray⟩] w fun e w' => (∃ v : Nat, e = .returned (.tuple #[.int .u64 v, .bool false])) ∧ w' = w := fun h w => (hD w).mono fun e w' k => ⟨k.1.2 h, k.2⟩
  have hrl : (⟨r.toArray⟩ : ByteArray).toList = r := by rw [ByteArray.toList_eq]
  clear hD hnan hx
  cases neg with
  | true =>
    rw [if_pos rfl] at hl
    have hi0 : ∀ w, (Instr.index 9 (.string s) (.int .i64 0)).run Tryz.prog w = .ok (.int .u8 45) w := fun w => ix_of s 0 45 (by rw [hl]; rfl) w
    have hcut := from1 s (by rw [hl] at hlen; simp at hlen; omega)
    rw [hl] at hcut
    simp only [List.drop_succ_cons, List.drop_zero] at hcut
    have hpos : (0 < N) = True := by rw [hl] at hlen; simp at hlen; simp; omega
    obtain ⟨R, hR⟩ : ∃ R : ByteArray, R = ⟨r.toArray⟩ := ⟨_, rfl⟩
    rw [← hR] at hD1 hD2 hrl hcut
    clear hR hneg
    rcases ho with ⟨h1, rfl⟩ | ⟨h1, h2, rfl⟩ | ⟨h1, h2, rfl⟩
    · have ci : (R.toList == [105, 110, 102]) = true := by rw [hrl]; simp [h1]
      have oo : bits .or .u64 9223372036854775808 9218868437227405312 = 18442240474082181120 := by decide
      clear hD1 hD2 hl hlen hrl hr9 h1
      rcases hpre with k | ⟨k, S, k2, k3⟩
      all_goals
        go_enter Tryz.func19, Tryz.ntmps19
        go_wp2_with (fail)
        go_ret2
        exact ⟨rfl, rfl⟩
    · have ci : (R.toList == [105, 110, 102]) = false := by rw [hrl]; simpa using h1
      have hDD := hD1 h2
      have hq := digs_lt r h2
      have oo := or_sign _ hq
      generalize dv r 0 = q at *
      generalize wb true q = b at *
      clear hD1 hD2 hl hlen hrl hr9 h1 h2
      rcases hpre with k | ⟨k, S, k2, k3⟩
      all_goals
        go_enter Tryz.func19, Tryz.ntmps19
        go_wp2_with (first | (go_at_call 35; refine (hDD _).mono ?_; rintro e w' ⟨rfl, rfl⟩) | (go_at_call 36; refine (refBits_ok q hq _).mono ?_; rintro e w' ⟨rfl, rfl⟩))
        go_ret2
        exact ⟨rfl, rfl⟩
    · have ci : (R.toList == [105, 110, 102]) = false := by rw [hrl]; simpa using h1
      have hDD := hD2 h2
      clear hD1 hD2 hl hlen hrl hr9 h1 h2
      rcases hpre with k | ⟨k, S, k2, k3⟩
      all_goals
        go_enter Tryz.func19, Tryz.ntmps19
        go_wp2_with (first | (go_at_call 35; refine (hDD _).mono ?_; rintro e w' ⟨⟨v, rfl⟩, rfl⟩))
        go_ret2
        exact ⟨rfl, rfl⟩
  | false =>
    rw [if_neg (by decide)] at hl
    have hz : ((0 < N) = False) ∨ ((0 < N) = True ∧ ∃ c0 : Nat, ((c0 : Int) == 45) = false ∧ ∀ w, (Instr.index 9 (.string s) (.int .i64 0)).run Tryz.prog w = .ok (.int .u8 (c0 : Int)) w) := by
      rcases r with _ | ⟨c, l⟩
      · left; rw [hl] at hlen; simp at hlen; simp; omega
      · right
        refine ⟨by rw [hl] at hlen; simp at hlen; simp; omega, c.toNat, ?_, fun w => ix_of s 0 c (by rw [hl]; rfl) w⟩
        have := hneg rfl
        simp at this
        simp only [beq_eq_false_iff_ne]
        intro e
        exact this (UInt8.toNat_inj.1 (by rw [show (45 : UInt8).toNat = 45 from rfl]; omega))
    have hsr : (⟨r.toArray⟩ : ByteArray) = s := by apply ByteArray.ext; rw [← hl]
    rw [hsr] at hD1 hD2 hrl
    clear hsr hneg
    rcases ho with ⟨h1, rfl⟩ | ⟨h1, h2, rfl⟩ | ⟨h1, h2, rfl⟩
    · have ci : (s.toList == [105, 110, 102]) = true := by rw [hrl]; simp [h1]
      have oo : bits .or .u64 0 9218868437227405312 = 9218868437227405312 := by decide
      clear hD1 hD2 hl hlen hrl hr9 h1
      rcases hpre with k | ⟨k, S, k2, k3⟩ <;> rcases hz with z1 | ⟨z1, c0, z2, z3⟩
      all_goals
        go_enter Tryz.func19, Tryz.ntmps19
        go_wp2_with (fail)
        go_ret2
        exact ⟨rfl, rfl⟩
    · have ci : (s.toList == [105, 110, 102]) = false := by rw [hrl]; simpa using h1
      have hDD := hD1 h2
      have hq := digs_lt r h2
      have oo := or_nought _ hq
      generalize dv r 0 = q at *
      generalize wb false q = b at *
      clear hD1 hD2 hl hlen hrl hr9 h1 h2
      rcases hpre with k | ⟨k, S, k2, k3⟩ <;> rcases hz with z1 | ⟨z1, c0, z2, z3⟩
      all_goals
        go_enter Tryz.func19, Tryz.ntmps19
        go_wp2_with (first | (go_at_call 35; refine (hDD _).mono ?_; rintro e w' ⟨rfl, rfl⟩) | (go_at_call 36; refine (refBits_ok q hq _).mono ?_; rintro e w' ⟨rfl, rfl⟩))
        go_ret2
        exact ⟨rfl, rfl⟩
    · have ci : (s.toList == [105, 110, 102]) = false := by rw [hrl]; simpa using h1
      have hDD := hD2 h2
      clear hD1 hD2 hl hlen hrl hr9 h1 h2
      rcases hpre with k | ⟨k, S, k2, k3⟩ <;> rcases hz with z1 | ⟨z1, c0, z2, z3⟩
      all_goals
        go_enter Tryz.func19, Tryz.ntmps19
        go_wp2_with (first | (go_at_call 35; refine (hDD _).mono ?_; rintro e w' ⟨⟨v, rfl⟩, rfl⟩))
        go_ret2
        exact ⟨rfl, rfl⟩
end Go.Proofs.YticflknfkaoejaaGreatDoor
