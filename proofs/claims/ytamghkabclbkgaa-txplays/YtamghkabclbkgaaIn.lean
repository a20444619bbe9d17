/- A slice of numbers that came in, as the row's frame tells it. -/
import Derived.Test.YtamghkabclbkgaaArr
namespace Go.Proofs.Ytamghkabclbkgaa
open Go.RowKit

/-- It is nil; or it leads to a row of 'cap' cells, the numbers 'zs'. -/
def IsRow (k : IntKind) (w : World) (a : Option Addr) (len cap : Nat) (zs : List Int) : Prop :=
  (a = none ∧ len = 0 ∧ cap = 0 ∧ zs = []) ∨
  ∃ x, a = some x ∧ len ≤ cap ∧ cap ≤ maxLen ∧ zs.length = cap ∧ (∀ i, i < zs.length → w.cell? (x.add i) = some (.int k (zs.getD i 0))) ∧ ∀ n ∈ zs, (Lit.int k n).wf = true

theorem IsRow.nums {w : World} {a : Option Addr} {len cap : Nat} {zs : List Int} (h : IsRow .i64 w a len cap zs) : Nums w a len (fun k => zs.getD k 0) ∧ len ≤ maxLen := by
  rcases h with ⟨_, rfl, _, _⟩ | ⟨x, rfl, hl, hm, hz, hc, _⟩
  · exact ⟨fun k hk => by omega, Nat.zero_le _⟩
  · refine ⟨fun k hk => ?_, Nat.le_trans hl hm⟩
    have c := hc k (by omega)
    obtain ⟨xb, xo, sp⟩ := x
    cases sp with
    | none =>
      refine ⟨xb, xo, rfl, ?_⟩
      have hadd : (⟨xb, xo, none⟩ : Addr).add k = ⟨xb, xo + k, none⟩ := by unfold Addr.add; split <;> simp_all
      rw [hadd] at c; exact c
    | some q =>
      exfalso
      have c0 := hc 0 (by omega)
      have hadd : (⟨xb, xo, some q⟩ : Addr).add 0 = ⟨xb, xo, some q⟩ := by unfold Addr.add; split <;> simp_all
      rw [hadd] at c0
      simp only [World.cell?] at c0
      split at c0
      · simp at c0
      · simp at c0
end Go.Proofs.Ytamghkabclbkgaa
