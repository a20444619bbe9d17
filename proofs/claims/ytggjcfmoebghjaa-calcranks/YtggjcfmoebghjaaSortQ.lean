/- Of a list in order: how many are below a code, and who stands there. -/
import Derived.Test.YtggjcfmoebghjaaSortF
import Derived.Test.YtggjcfmoebghjaaRank
namespace Go.Proofs.Ytggjcfmoebghjaa
open Go.RowKit

theorem rank_perm {l L : List Nat} (h : L.Perm l) (c : Nat) : rankN L c = rankN l c := h.countP_eq _
/-- How often a code stands in a list. -/
def oft (l : List Nat) (c : Nat) : Nat := l.countP fun y => codeN y == c
theorem oft_perm {l L : List Nat} (h : L.Perm l) (c : Nat) : oft L c = oft l c := h.countP_eq _
theorem oft_step (l : List Nat) (c k : Nat) (h : k < l.length) : oft (l.take (k + 1)) c = oft (l.take k) c + if codeN (l.getD k 0) = c then 1 else 0 := by
  unfold oft
  rw [take_step l k h, List.countP_append]
  generalize l.getD k 0 = y
  by_cases hc : codeN y = c
  · rw [if_pos hc]; simp [hc]
  · rw [if_neg hc]; simp [hc]
/-- In a list in order the first ones, as many as the rank says, are below; the others are not. -/
theorem rank_cut (L : List Nat) (c : Nat) (hS : Srt L 0 L.length) : ∀ k, k ≤ L.length → (∀ p, p < k → (p < rankN (L.take k) c ↔ cd L p < c)) := by
  intro k
  induction k with
  | zero => intro _ p hp; omega
  | succ k ih =>
    intro hk p hp
    have ih' := ih (by omega)
    have hle : rankN (L.take k) c ≤ k := Nat.le_trans (rank_le _ _) (by rw [List.length_take]; omega)
    rw [rank_step L c k (by omega)]
    have hck : codeN (L.getD k 0) = cd L k := rfl
    rw [hck]
    by_cases hc : cd L k < c
    · rw [if_pos hc]
      have hall : rankN (L.take k) c = k := by
        rcases Nat.lt_or_ge (rankN (L.take k) c) k with g | g
        · have a := (ih' _ g).2
          have b := hS (rankN (L.take k) c) k (Nat.zero_le _) g (by omega)
          have := a (by omega)
          omega
        · omega
      rw [hall]
      refine ⟨fun _ => ?_, fun _ => by omega⟩
      by_cases e : p = k
      · rw [e]; exact hc
      · have := hS p k (Nat.zero_le _) (by omega) (by omega); omega
    · rw [if_neg hc, Nat.add_zero]
      by_cases e : p = k
      · subst e; exact ⟨fun h => by omega, fun h => absurd h hc⟩
      · exact ih' p (by omega)
theorem rank_place {L : List Nat} (c : Nat) (hS : Srt L 0 L.length) (p : Nat) (hp : p < L.length) : p < rankN L c ↔ cd L p < c := by
  have := rank_cut L c hS L.length (Nat.le_refl _) p hp
  rwa [List.take_length] at this
end Go.Proofs.Ytggjcfmoebghjaa
