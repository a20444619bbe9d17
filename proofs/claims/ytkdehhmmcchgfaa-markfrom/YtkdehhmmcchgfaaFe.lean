/- MarkFrom: what hangs on its numbers. -/
import Derived.Test.YtkdehhmmcchgfaaFd
namespace Go.Proofs.Ytkdehhmmcchgfaa
open Go.RowKit

def wU : List Int := List.map (fun i : Nat => (i : Int)) (List.range 41)
theorem wU_mem (x : Int) : x ∈ wU ↔ 0 ≤ x ∧ x ≤ 40 := by
  unfold wU
  rw [List.mem_map]
  constructor
  · rintro ⟨i, hi, rfl⟩
    rw [List.mem_range] at hi
    omega
  · rintro ⟨h1, h2⟩
    exact ⟨x.toNat, by rw [List.mem_range]; omega, by omega⟩
theorem webOf_mem (len : Nat) (L : Nat → Nat) (Z : Nat → List Int) (x : Nat) (y : Int) (h : y ∈ webOf len L Z x) : y ∈ wU := by
  unfold webOf at h
  split at h
  · obtain ⟨k, rfl, hk⟩ := pre41_mem _ _ _ h
    exact (wU_mem _).2 (by omega)
  · cases h
theorem webOf_len (len : Nat) (L : Nat → Nat) (Z : Nat → List Int) (x : Nat) : (webOf len L Z x).length ≤ 10 := by
  unfold webOf
  split
  · rw [pre41_len]; omega
  · simp

section
variable {base bA bB bO bW bC len cap : Nat} {bad : Int} {a : Option Addr} {A : Nat → Option Addr} {L C : Nat → Nat} {Z : Nat → List Int}
/-- What stands between two calls of it. -/
def FJ (base bA : Nat) (Wb : World) (d : List Int) (S : Nat → Prop) (W : World) : Prop :=
  ∃ v, W.heap[bA]? = some (.cells #[v] 22 (0, 0)) ∧ Own W base v d ∧ (S = fun k => k < base ∨ v.ownBlock = some k) ∧ Fr (fun k => k = bA) Wb W
theorem web_hangs {Wb : World} (E : Env base bA bB bO bW bC bad a len cap A L C Z Wb) (hsz : Wb.heap.size = base) (hlt : bA < base) :
    Hangs (webF bad len L Z) wU 15 #[ptr bA, ptr bB, ptr bO] (FJ base bA Wb) where
  enter := enters_of Try.func15 (by kernel_rfl) rfl
  lt := fun d S W h k hk => by
    obtain ⟨v, _, ho, rfl, f⟩ := h
    have := f.size
    rcases hk with hk | hk
    · omega
    · exact (ho.lt k hk).2
  kept := fun d S W W' F h f hF => by
    obtain ⟨v, hb, ho, rfl, f1⟩ := h
    refine ⟨v, f.obj hb (hF bA (.inl hlt)), ho.still f fun k hk => hF k (.inr hk), rfl, f1.trans' f fun k hk => ?_⟩
    rcases Nat.lt_or_ge k base with h | h
    · exact absurd hk (hF k (.inl h))
    · exact .inr (by omega)
  call := fun d S W x h hx _ hd => by
    obtain ⟨v, hb, ho, rfl, f1⟩ := h
    obtain ⟨h1, h2⟩ := (wU_mem x).1 hx
    obtain ⟨n, rfl⟩ : ∃ n : Nat, x = n := ⟨x.toNat, by omega⟩
    have E1 := E.on f1 fun k _ h => h
    have hsz1 := f1.size
    refine (asks_ok n (by omega) W E1 v d hb ho hd (by omega) hlt).mono ?_
    rintro e W' ⟨v', r, rfl, hb', ho', hnew, hr, f2⟩
    refine ⟨r, _, rfl, ⟨v', hb', ho', rfl, ?_⟩, hr, f2.mono ?_, ?_⟩
    · refine f1.trans' f2 fun k hk => ?_
      rcases hk with hk | hk
      · exact .inl hk
      · refine .inr ?_
        rcases ho.form with ⟨hv, _⟩ | ⟨g, cap, hv, _, hg, _⟩
        · rw [hv] at hk; simp [Value.ownBlock] at hk
        · rw [hv] at hk
          have : g = k := by simpa [Value.ownBlock] using hk
          omega
    · rintro k (rfl | hk)
      · exact .inl (.inl hlt)
      · exact .inl (.inr hk)
    · rintro k (hk | hk)
      · exact .inl (.inl hk)
      · rcases hnew with e | ⟨g, e, hg⟩
        · exact .inl (.inr (e ▸ hk))
        · rw [e] at hk; cases hk; exact .inr hg
  inU := fun x _ y hy => by
    unfold webF at hy
    split at hy
    · simp at hy; exact (wU_mem _).2 (by omega)
    · exact webOf_mem _ _ _ _ _ hy
  few := by simp [wU]
  short := fun x _ => by
    unfold webF
    split
    · simp
    · have := webOf_len len L Z x.toNat; simp only; omega
  wf := fun x hx => by
    have h := (wU_mem x).1 hx
    simp [Lit.wf, IntKind.min, IntKind.max, IntKind.signed, IntKind.bits]
    omega
end
end Go.Proofs.Ytkdehhmmcchgfaa
