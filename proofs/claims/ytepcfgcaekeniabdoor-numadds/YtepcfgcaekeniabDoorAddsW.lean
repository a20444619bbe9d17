/- NumAdds walked. -/
import Derived.Test.YtepcfgcaekeniabDoorAwake
namespace Go.Proofs.YtepcfgcaekeniabDoor
open Go.RowKit

set_option maxRecDepth 100000 in
set_option maxHeartbeats 1000000 in
theorem adds_ok (a b : Nat) (w : World) (ht : Tab w) : Calls Tryd.prog 3 #[.int .u64 a, .int .u64 b] w fun e w' => e = .returned (.bool true) ∧ Below w.heap.size w w' := by
  have hf := from_run
  have hb := bits_run
  cases h : sumB a b with
  | none =>
    have hr := add_run_none a b h
    have hn : ∀ w, (FloatKind.f64.format.order (anyNaN a b w) (anyNaN a b w) != some Ordering.eq) = true := fun w => (ord_self _ (anyNaN_nan a b w).2).trans (anyNaN_nan a b w).1
    have htd : Tab w.drew.drew := ht
    go_enter Tryd.func3, Tryd.ntmps3
    go_wp2_with (first | (go_at_call 8; refine (add_none a b h _).mono ?_; rintro e w' ⟨rfl, rfl⟩) | (go_at_call 10; refine (awake_ok _ (by assumption)).mono ?_; rintro e w2 ⟨rfl, hb2⟩))
    go_ret
    exact ⟨rfl, below_step ((Below.refl _ w).drew.drew) hb2⟩
  | some r =>
    obtain ⟨h1, h2⟩ := sum_num a b r h
    have hr := add_run_some a b r h
    have hn : (FloatKind.f64.format.order r r != some Ordering.eq) = false := (ord_self _ h2).trans h1
    go_enter Tryd.func3, Tryd.ntmps3
    go_wp2_with (first | (go_at_call 8; refine (add_some a b r h _).mono ?_; rintro e w' ⟨rfl, rfl⟩) | (go_at_call 10; refine (awake_ok _ (by assumption)).mono ?_; rintro e w2 ⟨rfl, hb2⟩))
    go_ret
    exact ⟨rfl, hb2⟩
end Go.Proofs.YtepcfgcaekeniabDoor
