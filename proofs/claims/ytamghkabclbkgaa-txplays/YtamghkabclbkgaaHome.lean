/- What a row of writes, gone through from its end, leaves: the last of each word. -/
import Derived.Test.YtamghkabclbkgaaNote
import Derived.Lib.SlicesCompact
namespace Go.Proofs.Ytamghkabclbkgaa
open Go.RowKit

/-- What stands behind the writes ys, of which the first of a word counts. -/
def homed (ys : List (Int × Int)) (f : Nat → Int) (j : Nat) : Int := match ys.find? (fun x => x.1 == (j : Int)) with | some x => x.2 | none => f j

theorem homed_nil (f : Nat → Int) : homed [] f = f := rfl

theorem homed_seen {ys : List (Int × Int)} {x : Int × Int} (h : ∃ y ∈ ys, y.1 = x.1) (f : Nat → Int) : homed (ys ++ [x]) f = homed ys f := by
  funext j
  unfold homed
  rw [List.find?_append]
  cases e : ys.find? (fun x => x.1 == (j : Int)) with
  | some y => rfl
  | none =>
    have hn : ¬ x.1 = (j : Int) := fun hx => by
      obtain ⟨y, hy, hyx⟩ := h
      have := List.find?_eq_none.1 e y hy
      simp [hyx, hx] at this
    simp [hn]

theorem homed_new {ys : List (Int × Int)} {x : Int × Int} (h : ¬ ∃ y ∈ ys, y.1 = x.1) (h0 : 0 ≤ x.1) (f : Nat → Int) : homed (ys ++ [x]) f = upd (homed ys f) x.1.toNat x.2 := by
  funext j
  by_cases e : j = x.1.toNat
  · subst e
    have hx : ((x.1.toNat : Nat) : Int) = x.1 := Int.toNat_of_nonneg h0
    rw [upd_same]
    unfold homed
    rw [List.find?_append, List.find?_eq_none.2 (fun y hy => by rw [hx]; simp; exact fun e => h ⟨y, hy, e⟩)]
    simp [hx]
  · rw [upd_other _ _ e]
    unfold homed
    rw [List.find?_append]
    have hn : ¬ x.1 = (j : Int) := fun hx => e (by omega)
    cases e : ys.find? (fun x => x.1 == (j : Int)) with
    | some y => rfl
    | none => simp [hn]

/-- On the way each word is as it was or as it will be. -/
theorem homed_between (ys : List (Int × Int)) (k : Nat) (f : Nat → Int) (j : Nat) : homed (ys.take k) f j = f j ∨ homed (ys.take k) f j = homed ys f j := by
  unfold homed
  cases e : (ys.take k).find? (fun x => x.1 == (j : Int)) with
  | none => exact .inl rfl
  | some x =>
    refine .inr ?_
    have : ys.find? (fun x => x.1 == (j : Int)) = some x := by
      conv => lhs; rw [← List.take_append_drop k ys]
      rw [List.find?_append, e]; rfl
    rw [this]

theorem homed_other {ys : List (Int × Int)} {j : Nat} (h : ∀ y ∈ ys, y.1 ≠ (j : Int)) (f : Nat → Int) : homed ys f j = f j := by
  unfold homed
  rw [List.find?_eq_none.2 (fun y hy => by simp; exact h y hy)]

theorem homed_turned {ys : List (Int × Int)} {f : Nat → Int} {j : Nat} (h : homed ys f j ≠ f j) : ∃ y ∈ ys, y.1 = (j : Int) :=
  Classical.byContradiction fun hn => h (homed_other (fun y hy e => hn ⟨y, hy, e⟩) f)

/-- Two contents that agree where no write is. -/
theorem homed_again (ys : List (Int × Int)) (f g : Nat → Int) (j : Nat) (h : g j = f j ∨ g j = homed ys f j) : homed ys g j = homed ys f j := by
  by_cases e : ∃ y ∈ ys, y.1 = (j : Int)
  · unfold homed
    cases ef : ys.find? (fun x => x.1 == (j : Int)) with
    | some x => rfl
    | none =>
      obtain ⟨y, hy, hj⟩ := e
      have := List.find?_eq_none.1 ef y hy
      simp [hj] at this
  · have ho : ∀ y ∈ ys, y.1 ≠ (j : Int) := fun y hy e' => e ⟨y, hy, e'⟩
    rw [homed_other ho, homed_other ho]
    rw [homed_other ho] at h
    exact h.elim id id

theorem mem_compact {x : Int} (zs : List Int) : x ∈ Lib.compact zs ↔ x ∈ zs := by
  unfold Lib.compact Lib.compactUpTo
  simp only [List.mem_map, List.mem_filter, List.mem_range]
  constructor
  · rintro ⟨i, ⟨hi, _⟩, rfl⟩
    rw [getElem!_pos zs.toArray i (by simpa using hi)]
    simp
  · intro hx
    obtain ⟨i, hi, he⟩ := List.mem_iff_getElem.1 hx
    have key : ∀ i (hi : i < zs.length), ∃ j, (j < zs.length ∧ Lib.keeps zs.toArray j = true) ∧ zs.toArray[j]! = zs[i] := by
      intro i
      induction i using Nat.strongRecOn with
      | _ i ih =>
        intro hi
        by_cases hk : Lib.keeps zs.toArray i = true
        · exact ⟨i, ⟨hi, hk⟩, by rw [getElem!_pos zs.toArray i (by simpa using hi)]; simp⟩
        · have hk' : i ≠ 0 ∧ zs.toArray[i]! = zs.toArray[i - 1]! := by
            unfold Lib.keeps at hk
            simpa using hk
          obtain ⟨j, hj, e⟩ := ih (i - 1) (by omega) (by omega)
          refine ⟨j, hj, ?_⟩
          rw [e]
          have := hk'.2
          rw [getElem!_pos zs.toArray i (by simpa using hi), getElem!_pos zs.toArray (i - 1) (by simp; omega)] at this
          simpa using this.symm
    obtain ⟨j, hj, e⟩ := key i hi
    exact ⟨j, hj, e.trans he⟩
end Go.Proofs.Ytamghkabclbkgaa
