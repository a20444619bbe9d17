/- hash's fold, join and Mix, and the document's own Mix. -/
import Derived.WalkKit
import Derived.WalkSpells
import Derived.WalkLawsBesides
import Derived.Handy
import Derived.Laws.BitsAllLaws
import Derived.Laws.Bits64
import Derived.Test.YtlignichjgggcaaRows
namespace Go.Proofs.Ytlignichjgggcaa
open Go.RowKit

def Hid (p : Prop) : Prop := p
theorem hide {p : Prop} (h : p) : Hid p := h
theorem unhide {p : Prop} (h : Hid p) : p := h

/-- A word, and its upper half laid over its lower one. -/
def foldN (x : Nat) : Nat := x ^^^ x / 4294967296
/-- A product, cut to 64 bits. -/
def mulC (x : Nat) : Nat := x * 15485907386658061715 % 18446744073709551616
/-- One more byte. -/
def joinN (h b : Nat) : Nat := (h ^^^ b) * 1099511628211 % 18446744073709551616
def mixN (x : Nat) : Nat := foldN (mulC (foldN (mulC (foldN x))))

theorem fold_lt (x : Nat) (h : x < 18446744073709551616) : foldN x < 18446744073709551616 :=
  Nat.xor_lt_two_pow (n := 64) h (by omega)
theorem mulC_lt (x : Nat) : mulC x < 18446744073709551616 := Nat.mod_lt _ (by decide)
theorem join_lt (h b : Nat) : joinN h b < 18446744073709551616 := Nat.mod_lt _ (by decide)
theorem mix_lt (x : Nat) : mixN x < 18446744073709551616 := fold_lt _ (mulC_lt _)

theorem wrapN (n : Nat) : IntKind.u64.wrap (n : Int) = ((n % 18446744073709551616 : Nat) : Int) := by
  unfold IntKind.wrap
  rw [if_neg (by simp [IntKind.signed])]
  exact (Int.natCast_emod n 18446744073709551616).symm
theorem wrapC (n : Nat) : IntKind.u64.wrap ((n : Int) * 15485907386658061715) = (mulC n : Int) := by
  have := wrapN (n * 15485907386658061715)
  rw [Int.natCast_mul] at this
  exact this
theorem xorS (n : Nat) (h : n < 18446744073709551616) : bits .xor .u64 (n : Int) ((n : Int) / 4294967296) = (foldN n : Int) := xorShift_u64 n 4294967296 h

theorem fold_ok (x : Nat) (hx : x < 18446744073709551616) (w : World) : Calls Try.prog 15 #[.int .u64 x] w fun e w' => e = .returned (.int .u64 (foldN x)) ∧ w' = w := by
  have E := xorS x hx
  go_enter Try.func15, Try.ntmps15
  go_wp2
  go_ret
  exact ⟨rfl, rfl⟩
theorem join_ok (x b : Nat) (hx : x < 18446744073709551616) (hb : b < 256) (w : World) : Calls Try.prog 14 #[.int .u64 x, .int .u8 b] w fun e w' => e = .returned (.int .u64 (joinN x b)) ∧ w' = w := by
  have E : IntKind.u64.wrap (bits .xor .u64 (x : Int) (b : Int) * 1099511628211) = (joinN x b : Int) := by
    rw [u64_xor_nat x b hx (by omega)]
    have := wrapN ((x ^^^ b) * 1099511628211)
    rw [Int.natCast_mul] at this
    exact this
  go_enter Try.func14, Try.ntmps14
  go_wp2
  go_ret
  exact ⟨rfl, rfl⟩
theorem mix_ok (x : Nat) (hx : x < 18446744073709551616) (w : World) : Calls Try.prog 11 #[.int .u64 x] w fun e w' => e = .returned (.int .u64 (mixN x)) ∧ w' = w := by
  have E1 := wrapC (foldN x)
  have E2 := wrapC (foldN (mulC (foldN x)))
  have l1 := mulC_lt (foldN x)
  have l2 := mulC_lt (foldN (mulC (foldN x)))
  have K := hide fold_ok
  have HM := hide (show foldN (mulC (foldN (mulC (foldN x)))) = mixN x from rfl)
  go_enter Try.func11, Try.ntmps11
  go_wp2_with fail
  refine (unhide K x hx _).mono ?_
  rintro e w' ⟨rfl, h⟩; rw [h]; clear h w'
  generalize foldN x = y1 at *
  generalize mulC y1 = y2 at *
  go_wp2_with fail
  refine (unhide K y2 l1 _).mono ?_
  rintro e w' ⟨rfl, h⟩; rw [h]; clear h w'
  generalize foldN y2 = y3 at *
  generalize mulC y3 = y4 at *
  go_wp2_with fail
  refine (unhide K y4 l2 _).mono ?_
  rintro e w' ⟨rfl, h⟩; rw [h]; clear h w'
  go_wp2
  go_ret
  exact ⟨by rw [unhide HM]; rfl, rfl⟩
theorem refMix_ok (x : Nat) (hx : x < 18446744073709551616) (w : World) : Calls Try.prog 12 #[.int .u64 x] w fun e w' => e = .returned (.int .u64 (mixN x)) ∧ w' = w := by
  have E1 := wrapC (foldN x)
  have E2 := wrapC (foldN (mulC (foldN x)))
  have l1 := mulC_lt (foldN x)
  have l2 := mulC_lt (foldN (mulC (foldN x)))
  have F1 := xorS x hx
  have F2 := xorS _ l1
  have F3 := xorS _ l2
  have HM := hide (show foldN (mulC (foldN (mulC (foldN x)))) = mixN x from rfl)
  generalize foldN x = y1 at *
  generalize mulC y1 = y2 at *
  generalize foldN y2 = y3 at *
  generalize mulC y3 = y4 at *
  go_enter Try.func12, Try.ntmps12
  go_wp2
  go_ret
  exact ⟨by rw [unhide HM]; rfl, rfl⟩
end Go.Proofs.Ytlignichjgggcaa
