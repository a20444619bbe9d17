/- Numbers masked. -/
import Derived.Test.YtebfocfofoajkaaBase
namespace Go.Proofs.Ytebfocfofoajkaa
open Go.RowKit

/-- The low bits of a number. -/
def msk (z : Int) (m : Nat) : Nat := (BitVec.ofInt 64 z).toNat &&& m

theorem mask_i64 (z : Int) (m : Nat) (hm : m < 4294967296) : bits .and .i64 z (m : Int) = (msk z m : Int) := by
  have hle : (BitVec.ofInt 64 z).toNat &&& m ≤ m := Nat.and_le_right
  have h2 : (BitVec.ofInt 64 (m : Int)).toNat = m := by
    rw [BitVec.ofInt_natCast, BitVec.toNat_ofNat]; exact Nat.mod_eq_of_lt (by omega)
  show IntKind.i64.wrap ((BitVec.ofInt 64 z &&& BitVec.ofInt 64 (m : Int)).toNat : Int) = _
  rw [BitVec.toNat_and, h2, IntKind.wrap_i64]
  simp only [msk]
  omega
theorem msk_le (z : Int) (m : Nat) : msk z m ≤ m := Nat.and_le_right
theorem mask15 (z : Int) : bits .and .i64 z 15 = (msk z 15 : Int) := mask_i64 z 15 (by omega)
end Go.Proofs.Ytebfocfofoajkaa
