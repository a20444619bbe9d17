/- The document's own codes. -/
import Derived.Test.YticflknfkaoejaaDoorNan
namespace Go.Proofs.YticflknfkaoejaaDoor
open Go.RowKit

theorem or_top (b : Nat) (h : b < 9223372036854775808) : b ||| 9223372036854775808 = b + 9223372036854775808 := by
  have := Nat.two_pow_add_eq_or_of_lt (i := 63) (b := b) h 1
  rw [Nat.or_comm]
  simpa [Nat.add_comm] using this.symm
theorem refCode_ok (b : Nat) (hb : b < 18446744073709551616) (w : World) : Calls Tryd.prog 45 #[.float .f64 b] w fun e w' => e = .returned (.int .u64 (codeN b)) ∧ w' = w := by
  have hbit := bits_run
  cases hn : nanB b with
  | true =>
    go_enter Tryd.func45, Tryd.ntmps45
    go_wp2_with (go_at_call 31; refine (refNan_ok b hb _).mono ?_; rintro e w' ⟨rfl, rfl⟩)
    go_ret
    exact ⟨by unfold codeN; rw [hn]; rfl, rfl⟩
  | false =>
    by_cases h : b < 9223372036854775808
    · have h1 : bits .and .u64 (b : Int) 9223372036854775808 = 0 := by rw [iand_top b hb, if_pos h]
      have h2 : bits .or .u64 (b : Int) 9223372036854775808 = ((codeN b : Nat) : Int) := by
        rw [show (9223372036854775808 : Int) = ((9223372036854775808 : Nat) : Int) from rfl, u64_or_nat b _ hb (by decide), or_top b h]
        unfold codeN; rw [if_neg (by rw [hn]; decide), if_pos h]
      go_enter Tryd.func45, Tryd.ntmps45
      go_wp2_with (go_at_call 31; refine (refNan_ok b hb _).mono ?_; rintro e w' ⟨rfl, rfl⟩)
      go_ret
      exact ⟨rfl, rfl⟩
    · have h1 : bits .and .u64 (b : Int) 9223372036854775808 = 9223372036854775808 := by rw [iand_top b hb, if_neg h]
      have h2 : bits .xor .u64 IntKind.u64.max (b : Int) = ((codeN b : Nat) : Int) := by rw [ixor_all b hb]; unfold codeN; rw [if_neg (by rw [hn]; decide), if_neg h]; omega
      go_enter Tryd.func45, Tryd.ntmps45
      go_wp2_with (go_at_call 31; refine (refNan_ok b hb _).mono ?_; rintro e w' ⟨rfl, rfl⟩)
      go_ret
      exact ⟨rfl, rfl⟩
set_option maxRecDepth 100000 in
theorem refCmp_ok (a b : Nat) (ha : a < 18446744073709551616) (hb : b < 18446744073709551616) (w : World) : Calls Tryd.prog 34 #[.float .f64 a, .float .f64 b] w fun e w' => e = .returned (.int .i64 (cmp3 (codeN a) (codeN b))) ∧ w' = w := by
  rcases Nat.lt_trichotomy (codeN a) (codeN b) with h | h | h
  · have h1 : ((codeN a : Int) < codeN b) = True := by simp; omega
    go_enter Tryd.func34, Tryd.ntmps34
    go_wp2_with (go_at_call 45; refine (refCode_ok _ (by assumption) _).mono ?_; rintro e w' ⟨rfl, rfl⟩)
    go_ret
    exact ⟨by unfold cmp3; rw [if_pos h]; rfl, rfl⟩
  · have h1 : ((codeN a : Int) < codeN b) = False := by simp; omega
    have h2 : ((codeN b : Int) < codeN a) = False := by simp; omega
    have h3 := Lib.hid h
    clear h
    go_enter Tryd.func34, Tryd.ntmps34
    go_wp2_with (go_at_call 45; refine (refCode_ok _ (by assumption) _).mono ?_; rintro e w' ⟨rfl, rfl⟩)
    go_ret
    exact ⟨by unfold cmp3; rw [h3.out, if_neg (by omega), if_neg (by omega)]; rfl, rfl⟩
  · have h1 : ((codeN a : Int) < codeN b) = False := by simp; omega
    have h2 : ((codeN b : Int) < codeN a) = True := by simp; omega
    go_enter Tryd.func34, Tryd.ntmps34
    go_wp2_with (go_at_call 45; refine (refCode_ok _ (by assumption) _).mono ?_; rintro e w' ⟨rfl, rfl⟩)
    go_ret
    exact ⟨by unfold cmp3; rw [if_neg (by omega), if_pos h]; rfl, rfl⟩
end Go.Proofs.YticflknfkaoejaaDoor
