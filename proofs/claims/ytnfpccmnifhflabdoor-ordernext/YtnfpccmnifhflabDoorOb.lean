/- Texts as lists of bytes: read, cut, joined, held against each other. -/
import Derived.Test.YtnfpccmnifhflabDoorOw
import Derived.Test.YtnfpccmnifhflabDoorOa
import Derived.Sort.Walk0
import Derived.Deep.RegionHeld
namespace Go.Proofs.YtnfpccmnifhflabDoor
open Go.RowKit

/-- A text of these bytes. -/
def bs (l : List UInt8) : ByteArray := ⟨l.toArray⟩
theorem bs_of (s : ByteArray) : ∃ l, s = bs l := ⟨s.data.toList, by cases s with | mk x => cases x with | mk l => rfl⟩
theorem bs_data (l : List UInt8) : (bs l).data.toList = l := rfl
theorem bs_size (l : List UInt8) : (bs l).size = l.length := by simp [bs, ByteArray.size]
theorem bs_inj {a b : List UInt8} (h : bs a = bs b) : a = b := congrArg (fun s => s.data.toList) h
theorem bs_list (l : List UInt8) : (bs l).toList = l := by rw [ByteArray.toList_eq]; rfl
theorem bs_app (a b : List UInt8) : bs a ++ bs b = bs (a ++ b) := by
  apply ByteArray.ext
  simp [bs]
theorem bs_extract (l : List UInt8) (i j : Nat) : (bs l).extract i j = bs ((l.take j).drop i) := by
  apply ByteArray.ext
  apply Array.ext'
  rw [ByteArray.data_extract, Array.toList_extract]
  simp [bs, List.extract, List.drop_take]
theorem bs_less (a b : List UInt8) : Op.bytesLess (bs a).toList (bs b).toList = decide (a < b) := by
  rw [bytesLess_eq, bs_list, bs_list]
theorem bs_get (l : List UInt8) (k : Nat) (c : UInt8) (h : l[k]? = some c) : ∀ hk : k < (bs l).size, ((bs l)[k]'hk) = c := by
  intro hk
  have h1 : k < l.length := by rw [bs_size] at hk; exact hk
  have h2 : l[k] = c := by rw [List.getElem?_eq_getElem h1] at h; exact Option.some.inj h
  exact h2
theorem bs_ix (l : List UInt8) (k : Nat) (c : UInt8) (h : l[k]? = some c) (w : World) : (Instr.index 9 (.string (bs l)) (.int .i64 (k : Int))).run Tryd.prog w = .ok (.int .u8 ((c.toNat : Nat) : Int)) w := by
  have hk : k < (bs l).size := by rw [bs_size]; exact (List.getElem?_eq_some_iff.1 h).1
  rw [run_index_string w 9 (bs l) .i64 _ Tryd.underlying9, dif_pos ⟨by omega, by omega⟩]
  have := bs_get l k c h hk
  simp only [Int.toNat_natCast, this]
theorem bs_from (l : List UInt8) (i : Nat) (k : IntKind) (hi : i ≤ l.length) (w : World) : (Instr.slice 9 (.string (bs l)) (some (.int k (i : Int))) none none).run Tryd.prog w = .ok (.string (bs (l.drop i))) w := by
  rw [run_slice_string_from_if w 9 _ k _ Tryd.underlying9, if_pos ⟨by omega, by rw [bs_size]; omega⟩, Int.toNat_natCast, bs_extract, bs_size, List.take_length]
theorem bs_to (l : List UInt8) (i : Nat) (k : IntKind) (hi : i ≤ l.length) (w : World) : (Instr.slice 9 (.string (bs l)) none (some (.int k (i : Int))) none).run Tryd.prog w = .ok (.string (bs (l.take i))) w := by
  rw [run_slice_string_to_if w 9 _ k _ Tryd.underlying9, if_pos ⟨by omega, by rw [bs_size]; omega⟩, Int.toNat_natCast, bs_extract, List.drop_zero]
theorem bs_mid (l : List UInt8) (i j : Nat) (k k' : IntKind) (hij : i ≤ j) (hj : j ≤ l.length) (w : World) : (Instr.slice 9 (.string (bs l)) (some (.int k (i : Int))) (some (.int k' (j : Int))) none).run Tryd.prog w = .ok (.string (bs ((l.take j).drop i))) w := by
  rw [run_slice_string_if w 9 _ k k' _ _ Tryd.underlying9, if_pos ⟨by omega, by rw [bs_size]; omega⟩, if_pos ⟨by omega, by omega⟩, Int.toNat_natCast, Int.toNat_natCast, bs_extract]

theorem bs_add (a b : List UInt8) (h : a.length + b.length ≤ 9223372036854775807) (w : World) : (Op.stringOp .add (bs a) (bs b)).run Tryd.prog w = .ok (.string (bs (a ++ b))) w := by
  rw [run_string_add_sum w _ _ (by rw [bs_size, bs_size]; exact h), bs_app]
/-- A row of bytes told as a text. -/
theorem conv_nats (w : World) (va : Option Addr) (cap : Nat) (l : List UInt8) (f : Nat → Nat) (hf : ∀ i c, l[i]? = some c → f i = c.toNat) (hN : Nats .u8 w va l.length f) : (convert 26 9 (.slice va l.length cap)).run Tryd.prog w = .ok (.string (bs l)) w := by
  by_cases h0 : l = []
  · subst h0
    rw [List.length_nil, run_convert_bytes_string w 26 9 5 _ 0 cap Tryd.underlying26 Tryd.underlying5 Tryd.underlying9]
    cases va <;> simp [Conv.bytesToString, loadCells, bs]
    all_goals rfl
  · have hl : 0 < l.length := List.length_pos_iff.2 h0
    obtain ⟨xb, xo, rfl, _⟩ := hN 0 hl
    have e : bs l = strOfNums ((l.map UInt8.toNat).map fun (x : Nat) => (x : Int)) := by
      apply ByteArray.ext
      apply Array.ext'
      simp [bs, strOfNums, Function.comp_def]
    rw [e]
    refine run_convert_bytes_arg (P := Tryd.prog) w 26 5 Tryd.underlying26 Tryd.underlying5 xb xo l.length cap _ (by simp) ?_ 9 Tryd.underlying9
    intro i hi
    obtain ⟨_, _, e, c⟩ := hN i hi
    cases e
    rw [c, hf i l[i] (List.getElem?_eq_getElem hi)]
    simp [hi]
/-- The bytes of a row of one's own told as a text. -/
theorem conv_own (w : World) (base : Nat) (v : Value) (l : List UInt8) (h : OwnL .u8 5 w base v (l.map UInt8.toNat)) : (convert 26 9 v).run Tryd.prog w = .ok (.string (bs l)) w := by
  obtain ⟨va, cap, rfl, hc, hN⟩ := h.nats
  rw [List.length_map] at hN ⊢
  exact conv_nats w va cap l _ (fun i c h => by simp [h]) hN
/-- One operation of a region that is written out is taken first. -/
theorem take_l {P : Program} {Q : Exit → Act → World → Prop} {md : Region.Mode} {S : World → Prop} {os : List Oper} (i : Nat) {oi : Oper} {v : Value} {fuel : Nat} {listed : Array Bool} {a : Act} {w : World} (hi : os[i]? = some oi)
    (hs : Region.noSelect os.toArray = true) (hf : Region.free md os.toArray listed i = true) (hr : (Region.ready md os.toArray listed).contains i = true)
    (hQ : ∀ c a w, Q (.panic c) (a.put oi.dst v) w → Q (.panic c) a w) (hy : YieldsIf P os.toArray S oi v a) (hS : S w)
    (h : wpAnyH P md os.toArray Q S fuel (listed.setIfInBounds i true) (a.put oi.dst v) w) : wpAnyH P md os.toArray Q S (fuel + 1) listed a w :=
  wpAnyH_take (i := i) (oi := oi) (by simpa using hi) hs hf hr hQ hy hS h

end Go.Proofs.YtnfpccmnifhflabDoor
