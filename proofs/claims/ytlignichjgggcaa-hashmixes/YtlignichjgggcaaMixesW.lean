/- HashMixes walked. -/
import Derived.Test.YtlignichjgggcaaHash4
namespace Go.Proofs.Ytlignichjgggcaa
open Go.RowKit

theorem mixes_ok (a b : Nat) (ha : a < 18446744073709551616) (hb : b < 18446744073709551616) (w : World) : Calls Try.prog 6 #[.int .u64 a, .int .u64 b] w fun e w' => e = .returned (.bool true) ∧ w' = w := by
  have K1 := hide (mix_ok a ha w)
  have K2 := hide (mix_ok b hb w)
  have K3 := hide (refMix_ok a ha w)
  have KA := hide (awake_ok w)
  have hs := mix_same a b ha hb
  have HE : Hid ((mixN a = mixN b ∧ a = b) ∨ (¬ mixN a = mixN b ∧ ¬ a = b)) := hide (by
    by_cases h : a = b
    · exact .inl ⟨hs.2 h, h⟩
    · exact .inr ⟨fun e => h (hs.1 e), h⟩)
  clear hs
  generalize mixN a = x at *
  generalize mixN b = y at *
  go_enter Try.func6, Try.ntmps6
  go_wp2_with fail
  refine (unhide K1).mono ?_
  rintro e w' ⟨rfl, h⟩; rw [h]; clear h w'
  go_wp2_with fail
  refine (unhide K3).mono ?_
  rintro e w' ⟨rfl, h⟩; rw [h]; clear h w'
  go_wp2_with fail
  refine (unhide K1).mono ?_
  rintro e w' ⟨rfl, h⟩; rw [h]; clear h w'
  go_wp2_with fail
  refine (unhide K2).mono ?_
  rintro e w' ⟨rfl, h⟩; rw [h]; clear h w'
  rcases unhide HE with ⟨h1, h2⟩ | ⟨h1, h2⟩
  · subst h1 h2
    go_wp2_with fail
    refine (unhide KA).mono ?_
    rintro e w' ⟨rfl, h⟩; rw [h]; clear h w'
    go_wp2
    go_ret
    exact ⟨rfl, rfl⟩
  · have d1 : ((x : Int) == (y : Int)) = false := by simp; omega
    have d2 : ((a : Int) == (b : Int)) = false := by simp; omega
    go_wp2_with fail
    refine (unhide KA).mono ?_
    rintro e w' ⟨rfl, h⟩; rw [h]; clear h w'
    go_wp2
    go_ret
    exact ⟨rfl, rfl⟩
end Go.Proofs.Ytlignichjgggcaa
