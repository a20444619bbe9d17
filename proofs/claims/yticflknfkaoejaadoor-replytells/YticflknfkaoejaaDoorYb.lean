/- Texts as lists of bytes: read, cut, joined; told of rows, and rows of them. -/
import Derived.Test.YticflknfkaoejaaDoorYa
import Derived.Laws.IdiomStrings
import Derived.Lib.ConvBytes
namespace Go.Proofs.YticflknfkaoejaaDoor
open Go.RowKit

/-- A text of these bytes. -/
def bs (l : List UInt8) : ByteArray := ⟨l.toArray⟩
theorem bs_of (s : ByteArray) : ∃ l, s = bs l := ⟨s.data.toList, by cases s with | mk x => cases x with | mk l => rfl⟩
theorem bs_data (l : List UInt8) : (bs l).data.toList = l := rfl
theorem bs_list (l : List UInt8) : (bs l).toList = l := by rw [ByteArray.toList_eq]; rfl
theorem bs_size (l : List UInt8) : (bs l).size = l.length := by simp [bs, ByteArray.size]
theorem bs_inj {a b : List UInt8} (h : bs a = bs b) : a = b := congrArg (fun s => s.data.toList) h
theorem bs_app (a b : List UInt8) : bs a ++ bs b = bs (a ++ b) := by
  apply ByteArray.ext
  simp [bs]
theorem bs_extract (l : List UInt8) (i j : Nat) : (bs l).extract i j = bs ((l.take j).drop i) := by
  apply ByteArray.ext
  apply Array.ext'
  rw [ByteArray.data_extract, Array.toList_extract]
  simp [bs, List.extract, List.drop_take]
theorem bs_get (l : List UInt8) (k : Nat) (c : UInt8) (h : l[k]? = some c) : ∀ hk : k < (bs l).size, ((bs l)[k]'hk) = c := by
  intro hk
  have h1 : k < l.length := by rw [bs_size] at hk; exact hk
  have h2 : l[k] = c := by rw [List.getElem?_eq_getElem h1] at h; exact Option.some.inj h
  exact h2
theorem bs_ix (l : List UInt8) (k : Nat) (c : UInt8) (h : l[k]? = some c) (w : World) : (Instr.index 9 (.string (bs l)) (.int .i64 (k : Int))).run Tryd.prog w = .ok (bv c) w := by
  have hk : k < (bs l).size := by rw [bs_size]; exact (List.getElem?_eq_some_iff.1 h).1
  rw [run_index_string w 9 (bs l) .i64 _ Tryd.underlying9, dif_pos ⟨by omega, by omega⟩]
  have := bs_get l k c h hk
  simp only [Int.toNat_natCast, this]
theorem bs_from (l : List UInt8) (i : Nat) (k : IntKind) (hi : i ≤ l.length) (w : World) : (Instr.slice 9 (.string (bs l)) (some (.int k (i : Int))) none none).run Tryd.prog w = .ok (.string (bs (l.drop i))) w := by
  rw [run_slice_string_from_if w 9 _ k _ Tryd.underlying9, if_pos ⟨by omega, by rw [bs_size]; omega⟩, Int.toNat_natCast, bs_extract, bs_size, List.take_length]
theorem bs_to (l : List UInt8) (i : Nat) (k : IntKind) (hi : i ≤ l.length) (w : World) : (Instr.slice 9 (.string (bs l)) none (some (.int k (i : Int))) none).run Tryd.prog w = .ok (.string (bs (l.take i))) w := by
  rw [run_slice_string_to_if w 9 _ k _ Tryd.underlying9, if_pos ⟨by omega, by rw [bs_size]; omega⟩, Int.toNat_natCast, bs_extract, List.drop_zero]
theorem bs_mid (l : List UInt8) (i j : Nat) (k k' : IntKind) (hij : i ≤ j) (hj : j ≤ l.length) (w : World) : (Instr.slice 9 (.string (bs l)) (some (.int k (i : Int))) (some (.int k' (j : Int))) none).run Tryd.prog w = .ok (.string (bs ((l.take j).drop i))) w := by
  rw [run_slice_string_if w 9 _ k k' _ _ Tryd.underlying9, if_pos ⟨by omega, by rw [bs_size]; omega⟩, if_pos ⟨by omega, by omega⟩, Int.toNat_natCast, Int.toNat_natCast, bs_extract]
theorem bs_add (a b : List UInt8) (h : a.length + b.length ≤ 9223372036854775807) (w : World) : (Op.stringOp .add (bs a) (bs b)).run Tryd.prog w = .ok (.string (bs (a ++ b))) w := by
  rw [run_string_add_sum w _ _ (by rw [bs_size, bs_size]; exact h), bs_app]
/-- A row of bytes told as a text. -/
theorem conv_rd (w : World) (va : Option Addr) (n cap : Nat) (l : List UInt8) (hn : n = l.length) (hN : Rd w va l) : (convert 22 9 (.slice va n cap)).run Tryd.prog w = .ok (.string (bs l)) w := by
  subst hn
  by_cases h0 : l = []
  · subst h0
    rw [List.length_nil, run_convert_bytes_string w 22 9 5 _ 0 cap Tryd.underlying22 Tryd.underlying5 Tryd.underlying9]
    cases va <;> simp [Conv.bytesToString, loadCells, bs]
    all_goals rfl
  · have hl : 0 < l.length := List.length_pos_iff.2 h0
    obtain ⟨xb, xo, rfl, _⟩ := hN 0 hl
    have e : bs l = strOfNums ((l.map UInt8.toNat).map fun (x : Nat) => (x : Int)) := by
      apply ByteArray.ext
      apply Array.ext'
      simp [bs, strOfNums, Function.comp_def]
    rw [e]
    refine run_convert_bytes_arg (P := Tryd.prog) w 22 5 Tryd.underlying22 Tryd.underlying5 xb xo l.length cap _ (by simp) ?_ 9 Tryd.underlying9
    intro i hi
    obtain ⟨_, _, e, c⟩ := hN i hi
    cases e
    rw [c]
    simp [hi]
/-- A text told as a row of bytes of its own. -/
theorem conv_bs (w : World) (l : List UInt8) : ∃ cap w', (convert 9 22 (.string (bs l))).run Tryd.prog w = .ok (.slice (some ⟨w.heap.size, 0, none⟩) l.length cap) w' ∧ l.length ≤ cap ∧ Rd w' (some ⟨w.heap.size, 0, none⟩) l ∧ Still w w' ∧ w.heap.size < w'.heap.size := by
  refine ⟨grownCap w (bs l).size 0 5, Lib.bytesWorld w 5 (bs l), ?_, ?_, ?_, ?_, ?_⟩
  · rw [Lib.run_convert_string_bytes w 9 22 5 (bs l) Tryd.underlying9 Tryd.underlying22 Tryd.underlying5, bs_size]
  · rw [bs_size]; exact Go.grownCap_ge w l.length 0 5
  · intro i hi
    refine ⟨_, _, rfl, ?_⟩
    rw [Nat.zero_add, Lib.bytesWorld_cell w 5 (bs l) i (by rw [bs_size]; exact hi), bs_data]
  · refine ⟨rfl, rfl, rfl, ?_, fun k hk _ => Lib.bytesWorld_at_old w 5 (bs l) k hk⟩
    rw [Lib.bytesWorld_size]; omega
  · rw [Lib.bytesWorld_size]; omega
end Go.Proofs.YticflknfkaoejaaDoor
