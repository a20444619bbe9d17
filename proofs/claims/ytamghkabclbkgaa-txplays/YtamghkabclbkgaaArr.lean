/- Arrays of words in another's block, masks, and slices that came in. -/
import Derived.Test.YtamghkabclbkgaaTell
import Derived.Laws.Bits64b
namespace Go.Proofs.Ytamghkabclbkgaa
open Go.RowKit

def msk (z : Int) (m : Nat) : Nat := (BitVec.ofInt 64 z).toNat &&& m

theorem mask_i64 (z : Int) (m : Nat) (hm : m < 4294967296) : bits .and .i64 z (m : Int) = (msk z m : Int) := by
  have hle : (BitVec.ofInt 64 z).toNat &&& m ≤ m := Nat.and_le_right
  have h2 : (BitVec.ofInt 64 (m : Int)).toNat = m := by
    rw [BitVec.ofInt_natCast, BitVec.toNat_ofNat]; exact Nat.mod_eq_of_lt (by omega)
  show IntKind.i64.wrap ((BitVec.ofInt 64 z &&& BitVec.ofInt 64 (m : Int)).toNat : Int) = _
  rw [BitVec.toNat_and, h2, IntKind.wrap_i64]
  simp only [msk]
  omega
theorem msk_le (z : Int) (m : Nat) : msk z m ≤ m := Nat.and_le_right
theorem mask63 (z : Int) : bits .and .i64 z 63 = (msk z 63 : Int) := mask_i64 z 63 (by omega)
theorem mask31 (z : Int) : bits .and .i64 z 31 = (msk z 31 : Int) := mask_i64 z 31 (by omega)

theorem wrap_small (x : Int) (h0 : 0 ≤ x) (h : x < 4294967296) : IntKind.i64.wrap x = x ∧ IntKind.u64.wrap x = x := by
  rw [IntKind.wrap_i64, IntKind.wrap_u64]; omega

/-- An array of n words. -/
def arr (n : Nat) (f : Nat → Int) : Array Value := ((List.range n).map fun j => u64 (f j)).toArray
theorem arr_get (n : Nat) (f : Nat → Int) (j : Nat) (hj : j < n) : (arr n f)[j]? = some (u64 (f j)) := by simp [arr, hj]
theorem arr_set (n : Nat) (f : Nat → Int) (i : Nat) (v : Int) : (arr n f).setIfInBounds i (u64 v) = arr n (upd f i v) := by
  apply Array.ext
  · simp [arr]
  · intro j h1 h2
    simp [arr] at h1
    simp only [arr, upd]
    by_cases e : j = i
    · subst e; simp
    · rw [Array.getElem_setIfInBounds_ne (by simpa [arr] using h1) (fun x => e x.symm)]; simp [e]



/-- A slice of numbers that came in: its first 'len' numbers. -/
def Nums (w : World) (a : Option Addr) (len : Nat) (zs : Nat → Int) : Prop := ∀ k, k < len → ∃ xb xo, a = some ⟨xb, xo, none⟩ ∧ w.cell? ⟨xb, xo + k, none⟩ = some (.int .i64 (zs k))
end Go.Proofs.Ytamghkabclbkgaa
