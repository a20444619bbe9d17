/- RedoBounds: all the ways together. -/
import Derived.Test.YtockkjkaopihjaaBounds1
import Derived.Test.YtockkjkaopihjaaBounds2
namespace Go.Proofs.Ytockkjkaopihjaa
open Go.RowKit

theorem bounds_ok (at_ ws n : Int) (w : World) (ha : -9223372036854775808 ≤ at_ ∧ at_ ≤ 9223372036854775807) :
    Calls Try.prog 8 #[.int .i64 at_, .int .i64 ws, .int .i64 n] w fun e w' => e = .returned (.bool true) ∧ Below w.heap.size w w' := by
  by_cases hb : 0 ≤ at_ ∧ at_ % 8 = 0 ∧ 16 ≤ ws ∧ ws ≤ 256 - at_
  · obtain ⟨h1, h2, h3, h4⟩ := hb
    obtain ⟨a, rfl⟩ := Int.eq_ofNat_of_zero_le h1
    obtain ⟨s, rfl⟩ := Int.eq_ofNat_of_zero_le (show 0 ≤ ws by omega)
    by_cases h5 : 240 < s
    · exact bounds_great a s n w (by omega) (by omega) (by omega) h5
    · by_cases h6 : a = 0
      · subst h6
        exact bounds_zero s n w (by omega) (by omega) (by omega)
      · exact bounds_more a s n w (by omega) (by omega) (by omega) (by omega) (by omega)
  · exact bounds_bad at_ ws n w ha hb
end Go.Proofs.Ytockkjkaopihjaa
