/- Rows of one's own beside a heap. -/
import Derived.Test.YtdgobaknbjlahaaGreatDoorGLh
import Derived.Maps.AppendAt
namespace Go.Proofs.YtdgobaknbjlahaaGreatDoor
open Go.RowKit

section
variable {nu sz : Nat} {w w' w0 : World} {X Y : Nat → Prop} {hb sb b : Nat} {T : Tay} {A : Ab} {N : Nat} {free : Prop} {s : Int} {base : Nat → Int}

/-- Law's blocks have turned, and new ones are followed. -/
theorem HpC.grow (h : HpC nu sz w0 X w hb sb b T A N free s base) {F : Nat → Prop} (hf : Fr F w w') (hF : ∀ k, F k → X k) (hn : ¬ F hb) (hY : ∀ k, Y k → X k ∨ (w.heap.size ≤ k ∧ k < w'.heap.size)) (hy : Y hb) : HpC nu sz w0 Y w' hb sb b T A N free s base := by
  have h1 := h.var hf hF hn
  refine ⟨⟨h1.hd.st, h1.hd.fr, h1.hd.new, fun k hk => ?_, fun k hk => ?_⟩, h1.cl, h1.hp, hy, h1.l0⟩
  · rcases hY k hk with e | e
    · exact h1.hd.ap k e
    · exact fun ht => by have := h.hd.st.lt k ht; omega
  · rcases hY k hk with e | e
    · exact h1.hd.xl k e
    · exact ⟨Nat.le_trans h.hd.fr.size e.1, e.2⟩

/-- A variable of the law's that Do's change leaves alone. -/
theorem HpC.box {V : Nat → Prop} {r : Nat} {v : Value} (h : HpC nu sz w0 X w hb sb b T A N free s base) (fr : Fr (fun k => tfoot sb b T k ∨ V k) w w') (hx : X r) (hv : ¬ V r) (bx : Box w r v) : Box w' r v :=
  bx.kept fr (fun e => e.elim (h.hd.ap r hx) hv)
theorem HpC.row {V : Nat → Prop} {v : Value} {lo e zz n : Nat} {xs : List Value} (h : HpC nu sz w0 X w hb sb b T A N free s base) (fr : Fr (fun k => tfoot sb b T k ∨ V k) w w') (hx : ∀ k, v.ownBlock = some k → X k ∧ ¬ V k) (o : w.ownsRow lo e zz v n xs) : w'.ownsRow lo e zz v n xs :=
  owns_same o fun k hk => fr.block k (o.lt k hk).2 (fun e => e.elim (h.hd.ap k (hx k hk).1) (hx k hk).2)
end

theorem row_still {w w' : World} {v : Value} {lo e sz n : Nat} {xs : List Value} (o : w.ownsRow lo e sz v n xs) (f : Still w w') : w'.ownsRow lo e sz v n xs :=
  owns_same o fun k hk => f.block k (o.lt k hk).2 (fun x => x)
theorem row_kept {w w' : World} {F : Nat → Prop} {v : Value} {lo e sz n : Nat} {xs : List Value} (o : w.ownsRow lo e sz v n xs) (f : Fr F w w') (hn : ∀ k, v.ownBlock = some k → ¬ F k) : w'.ownsRow lo e sz v n xs :=
  owns_same o fun k hk => f.block k (o.lt k hk).2 (hn k hk)

theorem well_errno {i : Int} (h : How.well = How.errno i) : False := by injection h with h; cases h
theorem errno_inj {i j : Int} (h : How.errno i = How.errno j) : i = j := by
  injection h with h; injection h with h; injection h with _ h; injection h

theorem lv_4 {x : Nat} (h : x ≤ 128) : lv x ≤ 4 := by
  unfold lv
  repeat (split; omega)
  omega
theorem lv_3 {x : Nat} (h : x ≤ 64) : lv x ≤ 3 := by
  unfold lv
  repeat (split; omega)
  omega

/-- The places of pieces. -/
def places (nu : Nat) (ls : List (Nat × Nat)) : List Nat := ls.map fun y => fi nu + y.1 * 8
theorem places_len (nu : Nat) (ls : List (Nat × Nat)) : (places nu ls).length = ls.length := by simp [places]

theorem row_form {w : World} {lo n : Nat} {v : Value} {xs : List Value} (h : w.ownsRow lo 3 1 v n xs) : (v = .slice none 0 0 ∧ n = 0) ∨ ∃ g cap, v = .slice (some ⟨g, 0, none⟩) n cap := by
  rcases h.2 with ⟨e1, e2⟩ | ⟨g, cap, cur, e, _⟩
  · exact .inl ⟨e1, e2⟩
  · exact .inr ⟨g, cap, e⟩
end Go.Proofs.YtdgobaknbjlahaaGreatDoor
