/- num's Same. -/
import Derived.Test.YtggjcfmoebghjaaNum1
namespace Go.Proofs.Ytggjcfmoebghjaa
open Go.RowKit

theorem same_ok (a b : Nat) (ha : a < 18446744073709551616) (hb : b < 18446744073709551616) (w : World) : Calls Try.prog 23 #[.float .f64 a, .float .f64 b] w fun e w' => e = .returned (.bool (cmp3 (codeN a) (codeN b) == 0)) ∧ w' = w := by
  go_enter Try.func23, Try.ntmps23
  go_wp2_with (go_at_call 16; refine (cmp_ok a b ha hb _).mono ?_; rintro e w' ⟨rfl, rfl⟩)
  go_ret
  exact ⟨rfl, rfl⟩
end Go.Proofs.Ytggjcfmoebghjaa
