/- Digits and the numbers that they tell. -/
import Derived.Test.YticflknfkaoejaaDoorWh2
import Derived.Lib.ItoaNum
namespace Go.Proofs.YticflknfkaoejaaDoor
open Go.RowKit

/-- The number that digits tell, behind a number that stands ahead of them. -/
def dv : List UInt8 → Nat → Nat
  | [], a => a
  | c :: l, a => dv l (10 * a + (c.toNat - 48))
theorem dv_append (l : List UInt8) (c : UInt8) (a : Nat) : dv (l ++ [c]) a = 10 * dv l a + (c.toNat - 48) := by
  induction l generalizing a with
  | nil => rfl
  | cons b l ih => rw [List.cons_append, dv, ih, dv]
theorem dv_ge (l : List UInt8) (a : Nat) : a ≤ dv l a := by
  induction l generalizing a with
  | nil => exact Nat.le_refl _
  | cons b l ih => rw [dv]; have := ih (10 * a + (b.toNat - 48)); omega
theorem dec_props (u : Nat) : (∀ c ∈ Lib.decDigits u, 48 ≤ c.toNat ∧ c.toNat ≤ 57) ∧ dv (Lib.decDigits u) 0 = u ∧ 1 ≤ (Lib.decDigits u).length ∧ (Lib.decDigits u).length ≤ u + 1 := by
  induction u using Nat.strongRecOn with
  | ind u ih =>
    have hd : ∀ k, k < 10 → (UInt8.ofNat (48 + k)).toNat = 48 + k := by decide
    rw [Lib.decDigits]
    split
    · rename_i h
      refine ⟨fun c hc => ?_, ?_, by simp, by simp⟩
      · rw [List.mem_singleton] at hc; subst hc; rw [hd u h]; omega
      · rw [dv, dv, hd u h]; omega
    · rename_i h
      obtain ⟨i1, i2, i3, i4⟩ := ih (u / 10) (by omega)
      refine ⟨fun c hc => ?_, ?_, by simp, by simp; omega⟩
      · rw [List.mem_append] at hc
        rcases hc with hc | hc
        · exact i1 c hc
        · rw [List.mem_singleton] at hc; subst hc; rw [hd _ (Nat.mod_lt _ (by omega))]; omega
      · rw [dv_append, i2, hd _ (Nat.mod_lt _ (by omega))]; omega
end Go.Proofs.YticflknfkaoejaaDoor
