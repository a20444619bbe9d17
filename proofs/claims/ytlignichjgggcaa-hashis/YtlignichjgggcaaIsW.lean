/- HashIs walked. -/
import Derived.Test.YtlignichjgggcaaHash4
namespace Go.Proofs.Ytlignichjgggcaa
open Go.RowKit

theorem is_ok (s : Nat) (d : ByteArray) (hs : s < 18446744073709551616) (w : World) : Calls Try.prog 5 #[.int .u64 s, .string d] w fun e w' => e = .returned (.bool true) ∧ w' = w := by
  have KA := hide (awake_ok w)
  by_cases h : d.size ≤ 500
  · have K1 := hide (of_ok s d hs (by omega) w)
    have K2 := hide (refOf_ok s d hs (by omega) w)
    have h1 : ¬ (500 : Int) < d.size := by omega
    generalize ofN s d = m at *

    go_enter Try.func5, Try.ntmps5
    go_wp2_with fail
    refine (unhide K1).mono ?_
    rintro e w' ⟨rfl, h⟩; rw [h]; clear h w'
    go_wp2_with fail
    refine (unhide K2).mono ?_
    rintro e w' ⟨rfl, h⟩; rw [h]; clear h w'
    go_wp2_with fail
    refine (unhide KA).mono ?_
    rintro e w' ⟨rfl, h⟩; rw [h]; clear h w'
    go_wp2
    go_ret
    exact ⟨rfl, rfl⟩
  · have h1 : (500 : Int) < d.size := by omega
    go_enter Try.func5, Try.ntmps5
    go_wp2_with fail
    refine (unhide KA).mono ?_
    rintro e w' ⟨rfl, h⟩; rw [h]; clear h w'
    go_wp2
    go_ret
    exact ⟨rfl, rfl⟩
end Go.Proofs.Ytlignichjgggcaa
