/- What the document fixes. -/
import Derived.Test.YticflknfkaoejaaDoorText3
import Derived.Test.YticflknfkaoejaaDoorAdd
namespace Go.Proofs.YticflknfkaoejaaDoor
open Go.RowKit

/-- Three texts. -/
def txt3 (b : Nat) : ByteArray := if b = 4613937818241073152 then ⟨#[51]⟩ else if b = 9223372036854775808 then ⟨#[45, 48]⟩ else ⟨#[48, 120, 51, 102, 101, 48, 48, 48, 48, 48, 48, 48, 48, 48, 48, 48, 48, 48]⟩
theorem text_ok3 (b : Nat) (hb : b = 4613937818241073152 ∨ b = 9223372036854775808 ∨ b = 4602678819172646912) (w : World) (ht : Tab w) : Calls Tryd.prog 43 #[.float .f64 b] w fun e w' => e = .returned (.string (txt3 b)) ∧ Below w.heap.size w w' := by
  rcases hb with rfl | rfl | rfl
  · exact (text_three w).mono fun e w' ⟨h1, h2⟩ => ⟨h1, h2 ▸ Below.refl _ _⟩
  · exact (text_nought w).mono fun e w' ⟨h1, h2⟩ => ⟨h1, h2 ▸ Below.refl _ _⟩
  · exact text_half w ht

theorem Tab.on {w w' : World} (ht : Tab w) (h : Below w.heap.size w w') : Tab w' := (h.cell (World.block_lt_of_cell? w _ ht)).trans ht

theorem below_step {a b c : World} (h : Below a.heap.size a b) (k : Below b.heap.size b c) : Below a.heap.size a c := h.trans (k.mono h.size)

end Go.Proofs.YticflknfkaoejaaDoor
