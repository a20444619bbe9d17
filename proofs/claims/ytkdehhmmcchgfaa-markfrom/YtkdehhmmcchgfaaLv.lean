/- The law's calls, over lists as values. -/
import Derived.Test.YtkdehhmmcchgfaaAw
namespace Go.Proofs.Ytkdehhmmcchgfaa
open Go.RowKit

/-- A value that reads as a list. -/
def Rv (w : World) (v : Value) (l : List Int) : Prop := ∃ a cap, v = .slice a l.length cap ∧ l.length ≤ cap ∧ Rd w a l
theorem Own.rv {w : World} {base : Nat} {v : Value} {l : List Int} (h : Own w base v l) : Rv w v l := by
  obtain ⟨a, c, e, hc, hr, _⟩ := h.rd
  exact ⟨a, c, e, hc, hr⟩
theorem Rv.still {w w' : World} {v : Value} {l : List Int} (h : Rv w v l) (f : Still w w') : Rv w' v l := by
  obtain ⟨a, c, e, hc, hr⟩ := h
  exact ⟨a, c, e, hc, hr.still f⟩
theorem has_v (v : Value) (l : List Int) (n : Int) (w : World) (h : Rv w v l) (hl : l.length ≤ 1000000) : Calls Try.prog 10 #[v, iv n] w fun e w' => e = .returned (.bool (l.contains n)) ∧ w' = w := by
  obtain ⟨a, c, rfl, _, hr⟩ := h
  exact has_ok a _ c l n w hr rfl hl
theorem has_vb (v : Value) (l : List Int) (n : Int) (b : Bool) (w : World) (h : Rv w v l) (hl : l.length ≤ 1000000) (hb : l.contains n = b) : Calls Try.prog 10 #[v, iv n] w fun e w' => e = .returned (.bool b) ∧ w' = w := by
  subst hb; exact has_v v l n w h hl
theorem same_v (v u : Value) (l m : List Int) (w : World) (h : Rv w v l) (g : Rv w u m) (hl : l.length ≤ 1000000) : Calls Try.prog 12 #[v, u] w fun e w' => e = .returned (.bool (decide (l = m))) ∧ Still w w' := by
  obtain ⟨a, c, rfl, _, hr⟩ := h
  obtain ⟨b, d, rfl, _, hs⟩ := g
  exact same_ok a b c d l m _ _ w hr hs rfl rfl hl
theorem same_vb (v u : Value) (l m : List Int) (b : Bool) (w : World) (h : Rv w v l) (g : Rv w u m) (hl : l.length ≤ 1000000) (hb : decide (l = m) = b) : Calls Try.prog 12 #[v, u] w fun e w' => e = .returned (.bool b) ∧ Still w w' := by
  subst hb; exact same_v v u l m w h g hl
theorem split_v (v u : Value) (l m : List Int) (w : World) (h : Rv w v l) (g : Rv w u m) (hl : l.length ≤ 1000) (hm : m.length ≤ 1000) (rl : l.Pairwise (· < ·)) (rm : m.Pairwise (· < ·)) :
    Calls Try.prog 11 #[v, u] w fun e w' => ∃ p q, e = .returned (.tuple #[p, q]) ∧ Own w' w.heap.size p (wo l m) ∧ Own w' w.heap.size q (wo m l) ∧ Still w w' := by
  obtain ⟨a, c, rfl, hc, hr⟩ := h
  obtain ⟨b, d, rfl, hd, hs⟩ := g
  exact split_ok a b _ c _ d l m w hr hs rfl rfl hl hm hc hd rl rm
theorem wo_has (l m : List Int) (n : Int) : (wo l m).contains n = (l.contains n && !m.contains n) := by
  unfold wo
  rw [Bool.eq_iff_iff]
  simp
/-- The law's last words: it is as it was but for new blocks. -/
theorem Fr.bel {w w' : World} (h : Still w w') : Below w.heap.size w w' := h.below (Nat.le_refl _) (fun _ x => x.elim)
end Go.Proofs.Ytkdehhmmcchgfaa
