/- HashBack walked. -/
import Derived.Test.YtlignichjgggcaaHash4
namespace Go.Proofs.Ytlignichjgggcaa
open Go.RowKit

/-- One step towards the way back, and the steps from the factor on. -/
def stepI (v : Int) : Int := IntKind.u64.wrap (v * IntKind.u64.wrap (2 - IntKind.u64.wrap (15485907386658061715 * v)))
def invI : Nat → Int
  | 0 => 15485907386658061715
  | k + 1 => stepI (invI k)
theorem inv_six : invI 6 = 14982988110149298331 := by decide +kernel
theorem wrapI (n : Nat) : IntKind.u64.wrap ((n : Int) * 14982988110149298331) = (mulI n : Int) := by
  have := wrapN (n * 14982988110149298331)
  rw [Int.natCast_mul] at this
  exact this
theorem mulI_lt (x : Nat) : mulI x < 18446744073709551616 := Nat.mod_lt _ (by decide)

theorem back_ok (x : Nat) (hx : x < 18446744073709551616) (w : World) : Calls Try.prog 4 #[.int .u64 x] w fun e w' => e = .returned (.bool true) ∧ w' = w := by
  have K1 := hide (mix_ok x hx w)
  have KA := hide (awake_ok w)
  have HB := hide (back_mix x hx)
  have hm := mix_lt x
  generalize mixN x = m at *
  go_enter Try.func4, Try.ntmps4
  go_wp2_with fail
  refine (unhide K1).mono ?_
  rintro e w' ⟨rfl, h⟩; rw [h]; clear h w'
  go_wp2_with fail
  go_loop [4, 5] (fun vv vi => ∃ (k : Nat) (v : Int), vi = .int .i64 k ∧ vv = .int .u64 v ∧ Hid (k ≤ 6 ∧ v = invI k)) (fun _ vi => 6 - (RowKit.intOf vi).toNat)
  case atStart => exact ⟨0, _, rfl, rfl, hide ⟨by omega, rfl⟩⟩
  case round =>
    obtain ⟨k, v, rfl, rfl, HK⟩ := hrel
    obtain ⟨h6, hv⟩ := unhide HK
    by_cases hk : k < 6
    · have hk' : (k : Int) < 6 := by omega
      have HN := hide (show k + 1 ≤ 6 ∧ stepI v = invI (k + 1) from ⟨hk, by rw [hv]; rfl⟩)
      clear HK hv
      go_wp2
      exact ⟨⟨k + 1, stepI v, by go_num, rfl, HN⟩, by simp [RowKit.intOf]; omega⟩
    · have hk' : ¬ (k : Int) < 6 := by omega
      obtain rfl : k = 6 := by omega
      rw [inv_six] at hv
      subst hv
      have E1 := wrapI (foldN m)
      have l1 := mulI_lt (foldN m)
      have E2 := wrapI (foldN (mulI (foldN m)))
      have l2 := mulI_lt (foldN (mulI (foldN m)))
      have F1 := xorS m hm
      have F2 := xorS _ l1
      have F3 := xorS _ l2
      rw [show foldN (mulI (foldN (mulI (foldN m)))) = x from unhide HB] at F3
      generalize foldN m = y1 at *
      generalize mulI y1 = y2 at *
      generalize foldN y2 = y3 at *
      generalize mulI y3 = y4 at *
      clear HK h6 hk HB
      go_wp2_with fail
      refine (unhide KA).mono ?_
      rintro e w' ⟨rfl, h⟩; rw [h]; clear h w'
      go_wp2
      go_ret
      exact ⟨rfl, rfl⟩
end Go.Proofs.Ytlignichjgggcaa
