/- The document's own look whether bits are a number's, and whether two numbers are the same to the bit. -/
import Derived.Test.YticflknfkaoejaaDoorAwake
namespace Go.Proofs.YticflknfkaoejaaDoor
open Go.RowKit

theorem iandNot_top (b : Nat) (hb : b < 18446744073709551616) : bits .andNot .u64 (b : Int) 9223372036854775808 = ((b % 9223372036854775808 : Nat) : Int) := by
  rw [show (9223372036854775808 : Int) = ((9223372036854775808 : Nat) : Int) from rfl, u64_andNot_nat b _ hb (by decide), ← and_low]

theorem refNan_ok (b : Nat) (hb : b < 18446744073709551616) (w : World) : Calls Tryd.prog 31 #[.int .u64 b] w fun e w' => e = .returned (.bool (nanB b)) ∧ w' = w := by
  obtain ⟨x, hx⟩ : ∃ x, x = b % 9223372036854775808 := ⟨_, rfl⟩
  have h1 := iandNot_top b hb
  rw [← hx] at h1
  have h2 : decide ((9218868437227405312 : Int) < (x : Int)) = nanB b := by unfold nanB; rw [← hx]; exact decide_eq_decide.2 (by omega)
  clear hx
  go_enter Tryd.func31, Tryd.ntmps31
  go_wp2
  go_ret
  exact ⟨rfl, rfl⟩
end Go.Proofs.YticflknfkaoejaaDoor
