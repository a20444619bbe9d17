/- calc's Spread; the document's SameBits. -/
import Derived.Test.YtggjcfmoebghjaaAwake
namespace Go.Proofs.Ytggjcfmoebghjaa
open Go.RowKit

theorem nan16_ok (b : Nat) (hb : b < 18446744073709551616) (w : World) : Calls Try.prog 36 #[.float .f64 b] w fun e w' => e = .returned (.bool (nanB b)) ∧ w' = w := by
  have hbit := bits_run
  have e1 : bits .and .u64 (b : Int) 9223372036854775807 = ((b % 9223372036854775808 : Nat) : Int) := by
    rw [show (9223372036854775807 : Int) = ((9223372036854775807 : Nat) : Int) from rfl, u64_and_nat b _ hb (by decide), show (9223372036854775807 : Nat) = 2 ^ 63 - 1 from rfl, Nat.and_two_pow_sub_one_eq_mod]
  have G := hide (show decide (9218868437227405312 < ((b % 9223372036854775808 : Nat) : Int)) = nanB b by
    unfold nanB; exact decide_eq_decide.2 (by omega))
  generalize b % 9223372036854775808 = m at *
  go_enter Try.func36, Try.ntmps36
  go_wp2
  go_ret
  exact ⟨by rw [← unhide G]; rfl, rfl⟩
theorem results_four {fn : Func} {t u v x : Tmp} (h : fn.results = #[.tmp t, .tmp u, .tmp v, .tmp x]) (tmps : Array Value) (P : Program) (w : World) :
    (results fn tmps).run P w = .ok (.tuple #[tmps.getD t undef, tmps.getD u undef, tmps.getD v undef, tmps.getD x undef]) w := by simp [results, h]
/-- The same bits, or both none. -/
def sameB (x y : Nat) : Bool := x == y || nanB x && nanB y
theorem same16_ok (x y : Nat) (hx : x < 18446744073709551616) (hy : y < 18446744073709551616) (w : World) : Calls Try.prog 18 #[.float .f64 x, .float .f64 y] w fun e w' => e = .returned (.bool (sameB x y)) ∧ w' = w := by
  have hbit := bits_run
  by_cases hxy : x = y
  · subst hxy
    go_enter Try.func18, Try.ntmps18
    go_wp2
    go_ret
    exact ⟨by simp [sameB], rfl⟩
  · have h1 : ((x : Int) == (y : Int)) = false := by simpa using fun h => hxy (by omega)
    have h2 : sameB x y = (nanB x && nanB y) := by simp [sameB, hxy]
    go_enter Try.func18, Try.ntmps18
    by_cases hn : nanB x = true
    · rw [hn] at h2
      go_wp2_with (go_at_call 36; refine (nan16_ok _ (by assumption) _).mono ?_; rintro e w' ⟨rfl, h⟩; rw [h]; clear h; (try simp only [hn]))
      go_ret
      exact ⟨by rw [h2]; rfl, rfl⟩
    · rw [show nanB x = false by simpa using hn] at h2
      go_wp2_with (go_at_call 36; refine (nan16_ok _ (by assumption) _).mono ?_; rintro e w' ⟨rfl, h⟩; rw [h]; clear h; (try simp only [hn]))
      go_ret
      exact ⟨by rw [h2]; rfl, rfl⟩

set_option maxRecDepth 100000 in
set_option maxHeartbeats 1000000 in
theorem spread_ok (a : Option Addr) (cap : Nat) (l : List Nat) (w : World) (hl : Fls w a l) (hn : l.length ≤ 1000) : Calls Try.prog 17 #[.slice a l.length cap] w fun e w' => e = .returned (.tuple #[.float .f64 (least l), .float .f64 (most l), .float .f64 (one (sumO l)), .float .f64 (one (meanO l))]) ∧ ∃ n, w' = w.drewN n := by
  have C1 := hide (min_ok a cap l w hl hn)
  have C2 := hide (max_ok a cap l w hl hn)
  have C3 := hide (sum_ok a cap l w hl hn)
  have C4 := hide (fun n => mean_ok a cap l (w.drewN n) hl hn)
  clear hl
  go_enter Try.func17, Try.ntmps17
  go_wp2_with fail
  refine (unhide C1).mono ?_
  rintro e w' ⟨rfl, h⟩; rw [h]; clear h
  go_wp2_with fail
  refine (unhide C2).mono ?_
  rintro e w' ⟨rfl, h⟩; rw [h]; clear h
  go_wp2_with fail
  refine (unhide C3).mono ?_
  rintro e w' ⟨rfl, n, h⟩; rw [h]; clear h
  go_wp2_with fail
  refine (unhide C4 n).mono ?_
  rintro e w' ⟨rfl, m, h⟩; rw [h]; clear h
  clear C1 C2 C3 C4
  go_wp2
  refine bodyPost_ret (results_four rfl _ _ _) rfl ?_
  exact ⟨rfl, n + m, rfl⟩
end Go.Proofs.Ytggjcfmoebghjaa
