/- What may stand behind a loss of power: as before, sealed, or as behind. -/
import Derived.Test.YtamghkabclbkgaaOpn
namespace Go.Proofs.Ytamghkabclbkgaa
open Go.RowKit

/-- No mark; beside the log's own words base stands. -/
structure Clean (at_ ws : Nat) (base f : Nat → Int) : Prop where
  mark : f at_ = 0
  out : ∀ j, (j < at_ ∨ at_ + ws ≤ j) → f j = base j

/-- The writes xs stand whole behind their mark; beside the log each word is as in base or as behind xs. -/
structure Half (N at_ ws : Nat) (base : Nat → Int) (xs : List (Int × Int)) (f : Nat → Int) : Prop where
  whole : Sealed N at_ f xs
  out : ∀ j, (j < at_ ∨ at_ + ws ≤ j) → f j = base j ∨ f j = homed xs.reverse base j

/-- What a loss of power may leave. -/
def Poss (A : Ab) (h : Nat → Int) : Prop := ∀ j, h j = A.now j ∨ h j = A.lasts j

/-- Writes that a log at at_ of ws words takes. -/
structure Takes (N at_ ws : Nat) (xs : List (Int × Int)) : Prop where
  ne : xs ≠ []
  out : ∀ x ∈ xs, outside N at_ x.1 (at_ + ws)
  fit : 16 + 2 * xs.length ≤ ws
  dev : at_ + ws ≤ N * 8

section
variable {N at_ ws : Nat} {base f g h : Nat → Int} {xs : List (Int × Int)}

theorem Sealed.still (s : Sealed N at_ f xs) {j : Nat} (h1 : at_ ≤ j) (h2 : j < at_ + 8 + 2 * xs.length) (k : Nat → Int) : homed xs.reverse k j = k j :=
  homed_other (fun y hy e => by
    have ho := s.out y (List.mem_reverse.1 hy)
    rw [e] at ho
    obtain ⟨_, _, h3⟩ := ho
    omega) k

theorem Half.out' (s : Half N at_ ws base xs f) (j : Nat) (hj : j < at_ ∨ at_ + ws ≤ j) : homed xs.reverse f j = homed xs.reverse base j := homed_again _ _ _ _ (s.out j hj)

theorem Half.done (s : Half N at_ ws base xs f) (hws : 0 < ws) : Clean at_ ws (homed xs.reverse base) (upd (homed xs.reverse f) at_ 0) :=
  ⟨upd_same _ _ _, fun j hj => by rw [upd_other _ _ (by omega)]; exact s.out' j hj⟩

theorem Half.same (s : Half N at_ ws base xs f) (hl : ∀ j, at_ ≤ j → j < at_ + 8 + 2 * xs.length → h j = f j) (ho : ∀ j, (j < at_ ∨ at_ + ws ≤ j) → h j = base j ∨ h j = homed xs.reverse base j) : Half N at_ ws base xs h :=
  ⟨{ s.whole with mark := by rw [hl at_ (Nat.le_refl _) (by omega)]; exact s.whole.mark, ent := fun i hi => by rw [hl _ (by omega) (by omega)]; exact s.whole.ent i hi }, ho⟩

/-- A loss while the writes are brought home. -/
theorem Half.torn (s : Half N at_ ws base xs f) (hws : 0 < ws) {A : Ab} {st : Int} (t : HomeTorn N at_ A st f xs) : ∀ h, Poss A h → Half N at_ ws base xs h ∨ Clean at_ ws (homed xs.reverse base) h := by
  intro h hp
  obtain ⟨f', g, hc, ht⟩ := t
  have hp' : ∀ j, h j = g j ∨ h j = f' j := fun j => by have := hp j; rwa [ht.now, ht.lasts] at this
  rcases hc with ⟨rfl, hg⟩ | ⟨rfl, hg⟩
  · refine .inl (s.same (fun j h1 h2 => ?_) (fun j hj => ?_))
    · have := s.whole.still h1 h2 f'
      rcases hp' j with e | e
      · rcases hg j with e2 | e2
        · rw [e, e2]
        · rw [e, e2, this]
      · exact e
    · have hj' : h j = f' j ∨ h j = homed xs.reverse f' j := by
        rcases hp' j with e | e
        · rcases hg j with e2 | e2
          · exact .inl (e.trans e2)
          · exact .inr (e.trans e2)
        · exact .inl e
      rcases hj' with e | e
      · rw [e]; exact s.out j hj
      · rw [e, s.out' j hj]; exact .inr rfl
  · have other : ∀ j, j ≠ at_ → h j = homed xs.reverse f j := fun j hj => by
      rcases hp' j with e | e
      · rcases hg with rfl | rfl
        · exact e
        · rw [e, upd_other _ _ hj]
      · exact e
    have own : h at_ = f at_ ∨ h at_ = 0 := by
      have := s.whole.still (Nat.le_refl at_) (by omega) f
      rcases hp' at_ with e | e
      · rcases hg with rfl | rfl
        · left; rw [e, this]
        · right; rw [e, upd_same]
      · left; rw [e, this]
    rcases own with e | e
    · refine .inl (s.same (fun j h1 h2 => ?_) (fun j hj => .inr ?_))
      · by_cases hj : j = at_
        · subst hj; exact e
        · rw [other j hj, s.whole.still h1 h2 f]
      · rw [other j (by omega), s.out' j hj]
    · exact .inr ⟨e, fun j hj => by rw [other j (by omega), s.out' j hj]⟩

theorem Takes.outside (t : Takes N at_ ws xs) : ∀ x ∈ xs, outside N at_ x.1 (at_ + 8 + 2 * xs.length) := fun x hx => by
  obtain ⟨h1, h2, h3⟩ := t.out x hx
  have := t.fit
  exact ⟨h1, h2, by omega⟩

/-- Noted, and marked. -/
theorem Clean.half (c : Clean at_ ws base f) (t : Takes N at_ ws xs) : Half N at_ ws base xs (upd (noted at_ xs f (2 * xs.length)) at_ (marked xs.length)) := by
  have hfit := t.fit
  refine ⟨⟨t.ne, upd_same _ _ _, fun i hi => ?_, t.outside, by have := t.dev; omega⟩, fun j hj => .inl ?_⟩
  · rw [upd_other _ _ (by omega)]; unfold noted; rw [if_pos (by omega), show at_ + 8 + i - (at_ + 8) = i by omega]
  · rw [upd_other _ _ (by omega)]; unfold noted; rw [if_neg (by omega)]; exact c.out j hj

/-- A loss while the writes are noted. -/
theorem Clean.noteTorn (c : Clean at_ ws base f) (hfit : 16 + 2 * xs.length ≤ ws) {A : Ab} {st : Int} (hg : ∀ j, (j < at_ + 8 ∨ at_ + 8 + 2 * xs.length ≤ j) → g j = f j) (ht : Torn N A st f g) : ∀ h, Poss A h → Clean at_ ws base h := by
  intro h hp
  have hp' : ∀ j, (j < at_ + 8 ∨ at_ + 8 + 2 * xs.length ≤ j) → h j = f j := fun j hj => by
    have := hp j
    rw [ht.now, ht.lasts, hg j hj] at this
    exact this.elim id id
  exact ⟨(hp' at_ (by omega)).trans c.mark, fun j hj => (hp' j (by omega)).trans (c.out j hj)⟩

/-- A loss while the mark is laid. -/
theorem Clean.markTorn (c : Clean at_ ws base f) (t : Takes N at_ ws xs) {A : Ab} {st : Int} (hg : g = noted at_ xs f (2 * xs.length) ∨ g = upd (noted at_ xs f (2 * xs.length)) at_ (marked xs.length)) (ht : Torn N A st (noted at_ xs f (2 * xs.length)) g) :
    ∀ h, Poss A h → Clean at_ ws base h ∨ Half N at_ ws base xs h := by
  intro h hp
  have hfit := t.fit
  have hp' : ∀ j, h j = g j ∨ h j = noted at_ xs f (2 * xs.length) j := fun j => by have := hp j; rwa [ht.now, ht.lasts] at this
  have other : ∀ j, j ≠ at_ → h j = noted at_ xs f (2 * xs.length) j := fun j hj => by
    rcases hp' j with e | e
    · rcases hg with rfl | rfl
      · exact e
      · rw [e, upd_other _ _ hj]
    · exact e
  have n0 : noted at_ xs f (2 * xs.length) at_ = 0 := by unfold noted; rw [if_neg (by omega)]; exact c.mark
  have own : h at_ = 0 ∨ h at_ = marked xs.length := by
    rcases hp' at_ with e | e
    · rcases hg with rfl | rfl
      · left; rw [e, n0]
      · right; rw [e, upd_same]
    · left; rw [e, n0]
  have out : ∀ j, (j < at_ ∨ at_ + ws ≤ j) → h j = base j := fun j hj => by
    rw [other j (by omega)]; unfold noted; rw [if_neg (by omega)]; exact c.out j hj
  rcases own with e | e
  · exact .inl ⟨e, out⟩
  · refine .inr ((c.half t).same (fun j h1 h2 => ?_) (fun j hj => .inl (out j hj)))
    by_cases hj : j = at_
    · subst hj; rw [e, upd_same]
    · rw [other j hj, upd_other _ _ hj]
end
end Go.Proofs.Ytamghkabclbkgaa
