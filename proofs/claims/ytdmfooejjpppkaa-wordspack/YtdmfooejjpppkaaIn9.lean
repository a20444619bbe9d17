/- What came in: numbers and slices of numbers, as the row's frame tells them. -/
import Derived.Test.YtdmfooejjpppkaaB9
namespace Go.Proofs.Ytdmfooejjpppkaa
open Go.RowKit

theorem wf_u64 (a : Int) (h : (Lit.int .u64 a).wf = true) : ∃ n : Nat, a = n ∧ n < 18446744073709551616 := by
  simp [Lit.wf, IntKind.min, IntKind.max, IntKind.signed, IntKind.bits] at h
  exact ⟨a.toNat, by omega, by omega⟩
theorem wf_u8 (a : Int) (h : (Lit.int .u8 a).wf = true) : ∃ n : Nat, a = n ∧ n < 256 := by
  simp [Lit.wf, IntKind.min, IntKind.max, IntKind.signed, IntKind.bits] at h
  exact ⟨a.toNat, by omega, by omega⟩
theorem wf_i64 (a : Int) (h : (Lit.int .i64 a).wf = true) : -9223372036854775808 ≤ a ∧ a ≤ 9223372036854775807 := by
  simp [Lit.wf, IntKind.min, IntKind.max, IntKind.signed, IntKind.bits] at h
  exact h

/-- It is nil; or it leads to a row of 'cap' cells, the numbers 'zs'. -/
def IsRow (k : IntKind) (w : World) (a : Option Addr) (len cap : Nat) (zs : List Int) : Prop :=
  (a = none ∧ len = 0 ∧ cap = 0 ∧ zs = []) ∨
  ∃ x, a = some x ∧ len ≤ cap ∧ cap ≤ maxLen ∧ zs.length = cap ∧ (∀ i, i < zs.length → w.cell? (x.add i) = some (.int k (zs.getD i 0))) ∧ ∀ n ∈ zs, (Lit.int k n).wf = true

theorem IsRow.all {k : IntKind} {w : World} {a : Option Addr} {len cap : Nat} {zs : List Int} (h : IsRow k w a len cap zs) (B : Nat) (hB : ∀ n : Int, (Lit.int k n).wf = true → 0 ≤ n ∧ n < B) :
    Nats k w a len (fun i => (zs.getD i 0).toNat) ∧ (∀ i, i < len → (zs.getD i 0).toNat < B) ∧ (a = none → len = 0 ∧ cap = 0) ∧ len ≤ maxLen := by
  rcases h with ⟨rfl, rfl, rfl, _⟩ | ⟨x, rfl, hl, hm, hz, hc, hw⟩
  · exact ⟨fun k hk => by omega, fun k hk => by omega, fun _ => ⟨rfl, rfl⟩, Nat.zero_le _⟩
  · have hin : ∀ i, i < len → 0 ≤ zs.getD i 0 ∧ zs.getD i 0 < B := fun i hi => hB _ (hw _ (by
      have e : zs.getD i 0 = zs[i]'(by omega) := by simp [show i < zs.length by omega]
      rw [e]; exact List.getElem_mem _))
    refine ⟨fun k hk => ?_, fun i hi => by (have := hin i hi; omega), fun e => (by cases e), Nat.le_trans hl hm⟩
    have c := hc k (by omega)
    obtain ⟨xb, xo, sp⟩ := x
    cases sp with
    | none =>
      refine ⟨xb, xo, rfl, ?_⟩
      have hadd : (⟨xb, xo, none⟩ : Addr).add k = ⟨xb, xo + k, none⟩ := by unfold Addr.add; split <;> simp_all
      rw [hadd] at c
      rw [c, Int.toNat_of_nonneg (hin k hk).1]
    | some q =>
      exfalso
      have c0 := hc 0 (by omega)
      have hadd : (⟨xb, xo, some q⟩ : Addr).add 0 = ⟨xb, xo, some q⟩ := by unfold Addr.add; split <;> simp_all
      rw [hadd] at c0
      simp only [World.cell?] at c0
      split at c0
      · simp at c0
      · simp at c0
theorem IsRow.u8 {w : World} {a : Option Addr} {len cap : Nat} {zs : List Int} (h : IsRow .u8 w a len cap zs) : Nats .u8 w a len (fun i => (zs.getD i 0).toNat) ∧ (∀ i, i < len → (zs.getD i 0).toNat < 256) ∧ (a = none → len = 0 ∧ cap = 0) ∧ len ≤ maxLen := h.all 256 fun n hn => by
  obtain ⟨m, rfl, hm⟩ := wf_u8 n hn; omega
theorem IsRow.u64 {w : World} {a : Option Addr} {len cap : Nat} {zs : List Int} (h : IsRow .u64 w a len cap zs) : Nats .u64 w a len (fun i => (zs.getD i 0).toNat) ∧ (∀ i, i < len → (zs.getD i 0).toNat < 18446744073709551616) ∧ (a = none → len = 0 ∧ cap = 0) ∧ len ≤ maxLen := h.all 18446744073709551616 fun n hn => by
  obtain ⟨m, rfl, hm⟩ := wf_u64 n hn; omega
end Go.Proofs.Ytdmfooejjpppkaa
