/- What the document fixes. -/
import Derived.Test.YtepcfgcaekeniaaDoorText3
import Derived.Test.YtepcfgcaekeniaaDoorAdd
namespace Go.Proofs.YtepcfgcaekeniaaDoor
open Go.RowKit

/-- Three texts. -/
def txt3 (b : Nat) : ByteArray := if b = 4613937818241073152 then ⟨#[51]⟩ else if b = 9223372036854775808 then ⟨#[45, 48]⟩ else ⟨#[48, 120, 51, 102, 101, 48, 48, 48, 48, 48, 48, 48, 48, 48, 48, 48, 48, 48]⟩
theorem text_ok3 (b : Nat) (hb : b = 4613937818241073152 ∨ b = 9223372036854775808 ∨ b = 4602678819172646912) (w : World) (ht : Tab w) : Calls Tryd.prog 25 #[.float .f64 b] w fun e w' => e = .returned (.string (txt3 b)) ∧ Below w.heap.size w w' := by
  rcases hb with rfl | rfl | rfl
  · exact (text_three w).mono fun e w' ⟨h1, h2⟩ => ⟨h1, h2 ▸ Below.refl _ _⟩
  · exact (text_nought w).mono fun e w' ⟨h1, h2⟩ => ⟨h1, h2 ▸ Below.refl _ _⟩
  · exact text_half w ht

theorem Tab.on {w w' : World} (ht : Tab w) (h : Below w.heap.size w w') : Tab w' := (h.cell (World.block_lt_of_cell? w _ ht)).trans ht

theorem below_step {a b c : World} (h : Below a.heap.size a b) (k : Below b.heap.size b c) : Below a.heap.size a c := h.trans (k.mono h.size)

set_option maxRecDepth 100000 in
set_option maxHeartbeats 2000000 in
theorem awake_ok (w : World) (ht : Tab w) : Calls Tryd.prog 14 #[] w fun e w' => e = .returned (.bool true) ∧ Below w.heap.size w w' := by
  have hf := from_run
  have htd : Tab w.drew := ht
  have hbd : Below w.heap.size w w.drew := (Below.refl _ w).drew
  have c1 : cmp3 (codeN 9223372036854775808) (codeN 0) = -1 := by decide
  have c2 : cmp3 (codeN 9221120237041090561) (codeN 9218868437227405312) = 1 := by decide
  have c3 : cmp3 (codeN 9221120237041090561) (codeN 9221120237041090561) = 0 := by decide
  have e1 : txt3 4613937818241073152 = ⟨#[51]⟩ := by decide
  have e2 : txt3 9223372036854775808 = ⟨#[45, 48]⟩ := by decide
  have e3 : txt3 4602678819172646912 = ⟨#[48, 120, 51, 102, 101, 48, 48, 48, 48, 48, 48, 48, 48, 48, 48, 48, 48, 48]⟩ := by decide
  go_enter Tryd.func14, Tryd.ntmps14
  go_wp2_with (first | (go_at_call 32; refine (copysign_ok _).mono ?_; rintro e w' ⟨rfl, rfl⟩) | (go_at_call 12; go_in) | (go_at_call 13; go_in) | (go_at_call 20; refine (add_none _ _ (by decide +kernel) _).mono ?_; rintro e w' ⟨rfl, rfl⟩) | (go_at_call 10; refine (cmp_ok _ _ (by decide) (by decide) _).mono ?_; rintro e w' ⟨rfl, rfl⟩) | (go_at_call 26; refine (same_ok _ _ (by decide) (by decide) _).mono ?_; rintro e w' ⟨rfl, rfl⟩) | (go_at_call 25; refine (text_ok3 _ (by decide) _ (by assumption)).mono ?_; intro e w2 h; have hB2 := below_step (by assumption) h.2; have hT2 := Tab.on (by assumption) h.2; obtain ⟨rfl, -⟩ := h))
  go_ret
  exact ⟨rfl, by assumption⟩
end Go.Proofs.YtepcfgcaekeniaaDoor
