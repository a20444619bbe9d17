/- calc's Dot and the document's own. -/
import Derived.Test.YtggjcfmoebghjaaRefS
import Derived.Test.YtggjcfmoebghjaaSc
import Derived.BigQuiet
namespace Go.Proofs.Ytggjcfmoebghjaa
open Go.RowKit

theorem mul_run_none (x y : Nat) (h : mulB x y = none) (t : TypeId) (w : World) : (binOp .mul t (.float .f64 x) (.float .f64 y)).run Try.prog w = .ok (.float .f64 (anyNaN x y w)) w.drew := by
  have h' : FloatKind.f64.format.mul x y = none := h
  simp [binOp, Op.floatArith, h', anyNaN, Question.forced]
theorem mul_run_some (x y r : Nat) (h : mulB x y = some r) (t : TypeId) (w : World) : (binOp .mul t (.float .f64 x) (.float .f64 y)).run Try.prog w = .ok (.float .f64 r) w :=
  run_float_arith w .mul t .f64 x y r h
theorem prod_num (x y r : Nat) (h : mulB x y = some r) : nanB r = false ∧ r < 18446744073709551616 := by
  have hl := Ieee.Format.mul_lt Ieee.double h
  refine ⟨?_, hl⟩
  unfold mulB Ieee.Format.mul at h
  obtain ⟨d, hd, rfl⟩ := Option.map_eq_some_iff.1 h
  apply write_num
  revert hd
  cases Ieee.double.read x <;> cases Ieee.double.read y <;> simp only [Ieee.Datum.product] <;> intro hd <;> (try split at hd) <;> cases hd <;> rfl
theorem mul_is (x y : Nat) (w : World) : ∃ p n, (∀ t, (binOp .mul t (.float .f64 x) (.float .f64 y)).run Try.prog w = .ok (.float .f64 p) (w.drewN n)) ∧ Is (mulB x y) p := by
  cases e : mulB x y with
  | none => exact ⟨anyNaN x y w, 1, fun t => mul_run_none x y e t w, (anyNaN_nan x y w).2, .inr ⟨rfl, (anyNaN_nan x y w).1⟩⟩
  | some r => exact ⟨r, 0, fun t => mul_run_some x y r e t w, (prod_num x y r e).2, .inl ⟨rfl, (prod_num x y r e).1⟩⟩
/-- One product more. -/
def dotS (o : Option Nat) (p : Nat × Nat) : Option Nat := o.bind fun s => (mulB p.1 p.2).bind fun q => sumB s q
/-- The sum of products; none: it is no number. -/
def dotO (x y : List Nat) : Option Nat := (x.zip y).foldl dotS (some 0)
theorem dotO_step (x y : List Nat) (k : Nat) (h1 : k < x.length) (h2 : k < y.length) : dotO (x.take (k + 1)) (y.take (k + 1)) = dotS (dotO (x.take k) (y.take k)) (x.getD k 0, y.getD k 0) := by
  unfold dotO
  rw [take_step x k h1, take_step y k h2, List.zip_append (by simp; omega), List.foldl_append]
  rfl
theorem dotS_is (o : Option Nat) (s x y p : Nat) (hs : Is o s) (hp : Is (mulB x y) p) (w : World) : ∃ s' n, (∀ t, (binOp .add t (.float .f64 s) (.float .f64 p)).run Try.prog w = .ok (.float .f64 s') (w.drewN n)) ∧ Is (dotS o (x, y)) s' := by
  obtain ⟨s', n, h1, h2⟩ := add_is o s p hs w
  refine ⟨s', n, h1, ?_⟩
  rcases hp with ⟨p1, ⟨e, p2⟩ | ⟨e, p2⟩⟩
  · have : dotS o (x, y) = addO o p := by unfold dotS addO; simp only [e]; rfl
    rw [this]; exact h2
  · have e2 : addO o p = none := by
      unfold addO
      cases o with
      | none => rfl
      | some s => exact sumB_nan_r _ _ p2
    have : dotS o (x, y) = none := by unfold dotS; simp only [e]; cases o <;> rfl
    rw [this]; rw [e2] at h2; exact h2

theorem dot_end (x y : List Nat) (k : Nat) (h : k = min x.length y.length) : dotO (x.take k) (y.take k) = dotO x y := by
  show List.foldl dotS (some 0) (List.zipWith Prod.mk (x.take k) (y.take k)) = List.foldl dotS (some 0) (List.zipWith Prod.mk x y)
  rw [← List.take_zipWith, List.take_of_length_le (by simp; omega)]

set_option maxRecDepth 100000 in
set_option maxHeartbeats 1000000 in
theorem refDot_ok (a b : Option Addr) (ca cb : Nat) (x y : List Nat) (w : World) (hx : Fls w a x) (hy : Fls w b y) (hn : x.length ≤ 1000) : Calls Try.prog 28 #[.slice a x.length ca, .slice b y.length cb] w fun e w' => ∃ s, e = .returned (.float .f64 s) ∧ (∃ n, w' = w.drewN n) ∧ Is (dotO x y) s := by
  have HX := hide hx
  have HY := hide hy
  clear hx hy
  go_enter Try.func28, Try.ntmps28
  go_wp2
  go_loopw [5, 6] (fun vs vi wr => ∃ (k s n : Nat), k ≤ x.length ∧ k ≤ y.length ∧ vs = .float .f64 s ∧ vi = .int .i64 k ∧ wr = w.drewN n ∧ Is (dotO (x.take k) (y.take k)) s) (fun vs vi wr => x.length - (RowKit.intOf vi).toNat)
  case atStart => exact ⟨0, 0, 0, Nat.zero_le _, Nat.zero_le _, rfl, rfl, rfl, by decide, .inl ⟨rfl, rfl⟩⟩
  case round =>
    obtain ⟨k, s, n, hk, hk2, rfl, rfl, rfl, hI⟩ := hrel
    by_cases hlt : k < x.length
    · have hlt' : (k : Int) < x.length := by omega
      by_cases hlt2 : k < y.length
      · have hlt2' : (k : Int) < y.length := by omega
        obtain ⟨xb, xo, rfl, c, hb⟩ := unhide HX k hlt
        obtain ⟨yb, yo, rfl, c2, hb2⟩ := unhide HY k hlt2
        have c' : ∀ n, (w.drewN n).cell? ⟨xb, xo + k, none⟩ = some (.float .f64 (x.getD k 0)) := fun _ => c
        have c2' : ∀ n, (w.drewN n).cell? ⟨yb, yo + k, none⟩ = some (.float .f64 (y.getD k 0)) := fun _ => c2
        obtain ⟨p, m, hm, hP⟩ := mul_is (x.getD k 0) (y.getD k 0) (w.drewN (n + 1))
        obtain ⟨s', m2, ha, hI'⟩ := dotS_is _ s _ _ p hI hP (w.drewN (n + 1 + m))
        have HI := hide ((dotO_step x y k hlt hlt2).symm ▸ hI' : Is (dotO (x.take (k + 1)) (y.take (k + 1))) s')
        clear hI hI' hP hb hb2 c c2
        generalize x.getD k 0 = X at *
        generalize y.getD k 0 = Y at *
        go_wp2_with fail
        go_region
        go_wp2
        go_roundw
        case rel => exact ⟨k + 1, s', _, by omega, by omega, rfl, by go_num, rfl, unhide HI⟩
        case measure => simp [RowKit.intOf]; omega
      · have hlt2' : ¬ (k : Int) < y.length := by omega
        have HI := hide (show Is (dotO x y) s by
          rw [dot_end x y k (by omega)] at hI
          exact hI)
        clear hI hk hk2
        go_wp2
        go_ret
        exact ⟨s, rfl, ⟨n, rfl⟩, unhide HI⟩
    · have hlt' : ¬ (k : Int) < x.length := by omega
      have HI := hide (show Is (dotO x y) s by
        rw [dot_end x y k (by omega)] at hI
        exact hI)
      clear hI hk hk2
      go_wp2
      go_ret
      exact ⟨s, rfl, ⟨n, rfl⟩, unhide HI⟩
set_option maxRecDepth 100000 in
set_option maxHeartbeats 1000000 in
theorem dot_ok (a b : Option Addr) (ca cb : Nat) (x y : List Nat) (w : World) (hx : Fls w a x) (hy : Fls w b y) (hn : x.length ≤ 1000) (hn2 : y.length ≤ 1000) : Calls Try.prog 14 #[.slice a x.length ca, .slice b y.length cb] w fun e w' => e = .returned (.float .f64 (one (dotO x y))) ∧ ∃ n, w' = w.drewN n := by
  have HX := hide hx
  have HY := hide hy
  clear hx hy
  by_cases h : y.length < x.length
  all_goals
    have h' : ((y.length : Int) < x.length) = (y.length < x.length) := by simp
    simp only [h] at h'
    go_enter Try.func14, Try.ntmps14
    go_wp2_with fail
    go_loopw [5, 6, 12] (fun vs _ vi wr => ∃ (k s n : Nat), k ≤ x.length ∧ k ≤ y.length ∧ vs = .float .f64 s ∧ vi = .int .i64 k ∧ wr = w.drewN n ∧ Is (dotO (x.take k) (y.take k)) s) (fun vs _ vi wr => x.length - (RowKit.intOf vi).toNat)
    case atStart => exact ⟨0, 0, 0, Nat.zero_le _, Nat.zero_le _, rfl, rfl, rfl, by decide, .inl ⟨rfl, rfl⟩⟩
    case round =>
      obtain ⟨k, s, n, hk, hk2, rfl, rfl, rfl, hI⟩ := hrel
      by_cases hlt : k < x.length ∧ k < y.length
      · obtain ⟨hlt, hlt2⟩ := hlt
        have hlt' : (k : Int) < x.length := by omega
        have hlt2' : (k : Int) < y.length := by omega
        obtain ⟨xb, xo, rfl, c, hb⟩ := unhide HX k hlt
        obtain ⟨yb, yo, rfl, c2, hb2⟩ := unhide HY k hlt2
        have c' : ∀ n, (w.drewN n).cell? ⟨xb, xo + k, none⟩ = some (.float .f64 (x.getD k 0)) := fun _ => c
        have c2' : ∀ n, (w.drewN n).cell? ⟨yb, yo + k, none⟩ = some (.float .f64 (y.getD k 0)) := fun _ => c2
        obtain ⟨p, m, hm, hP⟩ := mul_is (x.getD k 0) (y.getD k 0) (w.drewN (n + 1))
        obtain ⟨s', m2, ha, hI'⟩ := dotS_is _ s _ _ p hI hP (w.drewN (n + 1 + m))
        have HI := hide ((dotO_step x y k hlt hlt2).symm ▸ hI' : Is (dotO (x.take (k + 1)) (y.take (k + 1))) s')
        clear hI hI' hP hb hb2 c c2
        generalize x.getD k 0 = X at *
        generalize y.getD k 0 = Y at *
        go_wp2_with fail
        go_region
        go_wp2
        go_roundw
        case rel => exact ⟨k + 1, s', _, by omega, by omega, rfl, by go_num, rfl, unhide HI⟩
        case measure => simp [RowKit.intOf]; omega
      · have HI := hide (show Is (dotO x y) s by
          rw [dot_end x y k (by omega)] at hI
          exact hI)
        clear hI
        first
          | have hq : ¬ (k : Int) < y.length := by omega
            clear hlt hk hk2
            go_wp2_with (go_at_call 29; refine (one_ok _ _ (unhide HI) _).mono ?_; rintro e w' ⟨rfl, rfl⟩)
            go_ret
            exact ⟨rfl, n, rfl⟩
          | have hq : ¬ (k : Int) < x.length := by omega
            clear hlt hk hk2
            go_wp2_with (go_at_call 29; refine (one_ok _ _ (unhide HI) _).mono ?_; rintro e w' ⟨rfl, rfl⟩)
            go_ret
            exact ⟨rfl, n, rfl⟩
end Go.Proofs.Ytggjcfmoebghjaa
