/- What came in: numbers and slices of numbers, as the row's frame tells them. -/
import Derived.Test.YtggjcfmoebghjaaAwake
namespace Go.Proofs.Ytggjcfmoebghjaa
open Go.RowKit

theorem wf_u64 (a : Int) (h : (Lit.int .u64 a).wf = true) : ∃ n : Nat, a = n ∧ n < 18446744073709551616 := by
  simp [Lit.wf, IntKind.min, IntKind.max, IntKind.signed, IntKind.bits] at h
  exact ⟨a.toNat, by omega, by omega⟩
theorem wf_i64 (a : Int) (h : (Lit.int .i64 a).wf = true) : -9223372036854775808 ≤ a ∧ a ≤ 9223372036854775807 := by
  simp [Lit.wf, IntKind.min, IntKind.max, IntKind.signed, IntKind.bits] at h
  exact h

/-- It is nil; or it leads to a row of 'cap' cells, the numbers 'zs'. -/
def IsRow (k : IntKind) (w : World) (a : Option Addr) (len cap : Nat) (zs : List Int) : Prop :=
  (a = none ∧ len = 0 ∧ cap = 0 ∧ zs = []) ∨
  ∃ x, a = some x ∧ len ≤ cap ∧ cap ≤ maxLen ∧ zs.length = cap ∧ (∀ i, i < zs.length → w.cell? (x.add i) = some (.int k (zs.getD i 0))) ∧ ∀ n ∈ zs, (Lit.int k n).wf = true

/-- A slice of numbers that came in: its first 'len' numbers. -/
def Nums (k : IntKind) (w : World) (a : Option Addr) (len : Nat) (zs : Nat → Int) : Prop := ∀ i, i < len → ∃ xb xo, a = some ⟨xb, xo, none⟩ ∧ w.cell? ⟨xb, xo + i, none⟩ = some (.int k (zs i))

theorem IsRow.nums {k : IntKind} {w : World} {a : Option Addr} {len cap : Nat} {zs : List Int} (h : IsRow k w a len cap zs) : Nums k w a len (fun k => zs.getD k 0) ∧ len ≤ maxLen ∧ ∀ i, i < len → (Lit.int k (zs.getD i 0)).wf = true := by
  rcases h with ⟨_, rfl, _, _⟩ | ⟨x, rfl, hl, hm, hz, hc, hw⟩
  · exact ⟨fun k hk => by omega, Nat.zero_le _, fun k hk => by omega⟩
  · refine ⟨fun k hk => ?_, Nat.le_trans hl hm, fun i hi => hw _ (by
      have e : zs.getD i 0 = zs[i]'(by omega) := by simp [show i < zs.length by omega]
      rw [e]; exact List.getElem_mem _)⟩
    have c := hc k (by omega)
    obtain ⟨xb, xo, sp⟩ := x
    cases sp with
    | none =>
      refine ⟨xb, xo, rfl, ?_⟩
      have hadd : (⟨xb, xo, none⟩ : Addr).add k = ⟨xb, xo + k, none⟩ := by unfold Addr.add; split <;> simp_all
      rw [hadd] at c; exact c
    | some q =>
      exfalso
      have c0 := hc 0 (by omega)
      have hadd : (⟨xb, xo, some q⟩ : Addr).add 0 = ⟨xb, xo, some q⟩ := by unfold Addr.add; split <;> simp_all
      rw [hadd] at c0
      simp only [World.cell?] at c0
      split at c0
      · simp at c0
      · simp at c0
theorem Nums.on {k : IntKind} {w w' : World} {a : Option Addr} {len : Nat} {zs : Nat → Int} (h : Nums k w a len zs) (b : Below w.heap.size w w') : Nums k w' a len zs := by
  intro i hi
  obtain ⟨xb, xo, e, c⟩ := h i hi
  exact ⟨xb, xo, e, (b.cell (World.block_lt_of_cell? w _ c)).trans c⟩
theorem IsRow.nats {w : World} {a : Option Addr} {len cap : Nat} {zs : List Int} (h : IsRow .u64 w a len cap zs) (i : Nat) (hi : i < len) : (zs.getD i 0).toNat < 18446744073709551616 := by
  obtain ⟨n, e, hn⟩ := wf_u64 _ (h.nums.2.2 i hi)
  omega
end Go.Proofs.Ytggjcfmoebghjaa
