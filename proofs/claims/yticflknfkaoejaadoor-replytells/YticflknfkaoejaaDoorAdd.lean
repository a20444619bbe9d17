/- Sums of numbers; num's Add. -/
import Derived.Test.YticflknfkaoejaaDoorInf
namespace Go.Proofs.YticflknfkaoejaaDoor
open Go.RowKit

/-- The sum's bits; none: it is no number. -/
abbrev sumB (x y : Nat) : Option Nat := Ieee.double.add x y
/-- What the machine hands back for a sum that is no number. -/
def anyNaN (x y : Nat) (w : World) : Nat := (Question.nanBits .f64 x y).cut (w.tape w.drawn (.nanBits .f64 x y))
theorem nan_form (a q : Nat) (ha : a = 0 ∨ a = 1) (hq : q < 4503599627370495) : nanB (a * 2 ^ 63 + 9218868437227405312 + 1 + q) = true ∧ a * 2 ^ 63 + 9218868437227405312 + 1 + q < 18446744073709551616 := by
  unfold nanB
  rcases ha with rfl | rfl
  · exact ⟨decide_eq_true (by omega), by omega⟩
  · exact ⟨decide_eq_true (by omega), by omega⟩
theorem anyNaN_nan (x y : Nat) (w : World) : nanB (anyNaN x y w) = true ∧ anyNaN x y w < 18446744073709551616 :=
  nan_form _ _ (by omega) (Nat.mod_lt _ (by decide))

theorem add_run_none (x y : Nat) (h : sumB x y = none) (t : TypeId) (w : World) : (binOp .add t (.float .f64 x) (.float .f64 y)).run Tryd.prog w = .ok (.float .f64 (anyNaN x y w)) w.drew := by
  have h' : FloatKind.f64.format.add x y = none := h
  simp [binOp, Op.floatArith, h', anyNaN, Question.forced]
theorem add_run_some (x y r : Nat) (h : sumB x y = some r) (t : TypeId) (w : World) : (binOp .add t (.float .f64 x) (.float .f64 y)).run Tryd.prog w = .ok (.float .f64 r) w :=
  run_float_arith w .add t .f64 x y r h

theorem nearest_num (neg : Bool) (mag : Nat) (place : Int) : nanB (Ieee.double.nearest neg mag place) = false := by
  have hw : ∀ r, r ≤ 9218868437227405312 → nanB (Ieee.double.word neg r) = false := by
    intro r hr
    unfold Ieee.Format.word
    rw [sigW]
    simp only [nanB, decide_eq_false_iff_not, Nat.not_lt]
    split <;> omega
  unfold Ieee.Format.nearest
  split
  · exact hw _ (by omega)
  · exact hw _ (by rw [← infR]; exact Nat.min_le_right _ _)
theorem sum_num (x y r : Nat) (h : sumB x y = some r) : nanB r = false ∧ r < 18446744073709551616 := by
  have hl := Ieee.Format.add_lt Ieee.double h
  refine ⟨?_, hl⟩
  unfold sumB Ieee.Format.add at h
  obtain ⟨d, hd, rfl⟩ := Option.map_eq_some_iff.1 h
  cases d with
  | number s m e => exact nearest_num s m e
  | infinity s =>
    show nanB (Ieee.double.word s Ieee.double.infRung) = false
    cases s <;> decide
  | nan s t =>
    exfalso
    revert hd
    cases Ieee.double.read x <;> cases Ieee.double.read y <;> simp only [Ieee.Datum.sum] <;> intro hd <;> (try split at hd) <;> cases hd

end Go.Proofs.YticflknfkaoejaaDoor
