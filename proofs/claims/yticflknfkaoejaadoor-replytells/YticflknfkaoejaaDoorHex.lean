/- strconv's FormatUint at base 16: the digits of a word, none ahead that is nought. -/
import Derived.Test.YticflknfkaoejaaDoorNum1
import Derived.Test.YticflknfkaoejaaDoorShelf
import Derived.LoopTactic
import Derived.Laws.IdiomStrings
import Derived.Lib.ItoaMem
namespace Go.Proofs.YticflknfkaoejaaDoor
open Go.RowKit

def hexd (n : Nat) : UInt8 := if n < 10 then (48 + n).toUInt8 else (87 + n).toUInt8
def hexGo : Nat → Nat → List UInt8 → List UInt8
  | 0, _, l => l
  | f + 1, v, l => if v < 16 then hexd v :: l else hexGo f (v / 16) (hexd (v % 16) :: l)
/-- The digits of a word to the base 16. -/
def hexL (u : Nat) : List UInt8 := hexGo 16 u []

def cs65 (l : List UInt8) : Array Value := (List.replicate (65 - l.length) (Value.int .u8 0) ++ l.map (fun b => Value.int .u8 (b.toNat : Int))).toArray

/-- What the table of trailing noughts holds at 16's place. -/
def Tab (w : World) : Prop := w.cell? ⟨4, 15, none⟩ = some (.int .u8 4)

theorem tz_ok (w : World) (ht : Tab w) : Calls Tryd.prog 82 #[.int .u64 16] w fun e w' => e = .returned (.int .i64 4) ∧ w' = w := by
  have hk : IntKind.u64.wrap (bits BinOp.and IntKind.u64 16 (IntKind.u64.wrap (-16)) * 285870213051353865) / 288230376151711744 = 15 := by decide +kernel
  have hc : w.cell? ⟨4, 15, none⟩ = some (.int .u8 4) := ht
  clear ht
  go_enter Tryd.func82, Tryd.ntmps82
  go_wp2
  go_ret
  exact ⟨rfl, rfl⟩

theorem tab_alloc {w : World} (ht : Tab w) (o : Obj) : Tab (w.alloc o) := by
  unfold Tab at *
  rw [World.cell?_alloc_past _ _ _ (World.block_lt_of_cell? w _ ht)]
  exact ht
theorem cs65_size (l : List UInt8) (h : l.length ≤ 65) : (cs65 l).size = 65 := by simp [cs65]; omega
theorem cs65_nought (l : List UInt8) (k : Nat) (h : k + l.length < 65) : (cs65 l)[k]? = some (.int .u8 0) := by
  unfold cs65
  rw [List.getElem?_toArray, List.getElem?_append_left (by simp; omega), List.getElem?_replicate, if_pos (by omega)]
theorem cs65_set (l : List UInt8) (b : UInt8) (h : l.length < 65) : (cs65 l).setIfInBounds (64 - l.length) (.int .u8 (b.toNat : Int)) = cs65 (b :: l) := by
  obtain ⟨m, hm⟩ : ∃ m, 65 - l.length = m + 1 := ⟨64 - l.length, by omega⟩
  have hm2 : 64 - l.length = m := by omega
  unfold cs65
  rw [hm, hm2, List.setIfInBounds_toArray, List.replicate_succ', List.append_assoc, List.set_append_right _ _ (by simp)]
  simp only [List.length_replicate, Nat.sub_self, List.singleton_append, List.set_cons_zero, List.map_cons, List.length_cons]
  rw [show 65 - (l.length + 1) = m by omega]
theorem cs65_last (l : List UInt8) (j : Nat) (hj : j < l.length) : (cs65 l)[65 - l.length + j]? = some (.int .u8 (l[j].toNat : Int)) := by
  simp [cs65, hj]
theorem start65 : Tryd.zeroCells104 = cs65 [] := by rfl

def digs : ByteArray := ⟨#[48, 49, 50, 51, 52, 53, 54, 55, 56, 57, 97, 98, 99, 100, 101, 102, 103, 104, 105, 106, 107, 108, 109, 110, 111, 112, 113, 114, 115, 116, 117, 118, 119, 120, 121, 122]⟩
theorem digs_at (x : Nat) (hx : x < 16) : ∃ h : x < digs.size, digs[x] = hexd x := by
  have h : ∀ x, x < 16 → digs.data.getD x 0 = hexd x := by decide +kernel
  refine ⟨Nat.lt_trans hx (by decide), ?_⟩
  rw [← h x hx]
  have hs : x < digs.data.size := Nat.lt_trans hx (by decide)
  show digs.data[x]'hs = _
  rw [Array.getD_eq_getD_getElem?, Array.getElem?_eq_getElem hs]; rfl
theorem idx_digs (x : Nat) (hx : x < 16) (w : World) : (Instr.index 9 (.string digs) (.int .u64 (x : Int))).run Tryd.prog w = .ok (.int .u8 ((hexd x).toNat : Int)) w := by
  obtain ⟨h1, h2⟩ := digs_at x hx
  rw [run_index_string w 9 digs .u64 _ Tryd.underlying9, dif_pos ⟨by omega, by omega⟩]
  simp only [Int.toNat_natCast]
  rw [h2]
theorem and15 (v : Nat) (hv : v < 18446744073709551616) : bits .and .u64 (v : Int) 15 = ((v % 16 : Nat) : Int) := by
  rw [show (15 : Int) = ((15 : Nat) : Int) from rfl, u64_and_nat v 15 hv (by decide), show (15 : Nat) = 2 ^ 4 - 1 from rfl, Nat.and_two_pow_sub_one_eq_mod]

set_option maxRecDepth 100000 in
set_option maxHeartbeats 1000000 in
theorem fmt_ok (u : Nat) (hu : u < 18446744073709551616) (w : World) (ht : Tab w) : Calls Tryd.prog 70 #[.slice none 0 0, .int .u64 u, .int .i64 16, .bool false, .bool false] w fun e w' => (e = .returned (.tuple #[.slice none 0 0, .string ⟨(hexL u).toArray⟩])) ∧ Below w.heap.size w w' := by
  go_enter Tryd.func70, Tryd.ntmps70
  rw [show (⟨#[48, 49, 50, 51, 52, 53, 54, 55, 56, 57, 97, 98, 99, 100, 101, 102, 103, 104, 105, 106, 107, 108, 109, 110, 111, 112, 113, 114, 115, 116, 117, 118, 119, 120, 121, 122]⟩ : ByteArray) = digs from rfl]
  go_wp2_with (first | (go_at_call 81; go_in) | (go_at_call 82; refine (tz_ok _ (tab_alloc ht _)).mono ?_; rintro e w' ⟨rfl, rfl⟩))
  go_loopw [1, 13] (fun vu vi wr => ∃ (v i : Nat) (l : List UInt8), vu = .int .u64 v ∧ vi = .int .i64 i ∧ wr.heap[w.heap.size]? = some (.cells (cs65 l) 104) ∧ Below w.heap.size w wr ∧ Hid (i + l.length = 65 ∧ l.length ≤ 15 ∧ v < 16 ^ (16 - l.length) ∧ hexGo (16 - l.length) v l = hexL u)) (fun vu _ _ => (RowKit.intOf vu).toNat)
  case atStart => exact ⟨u, 65, [], rfl, rfl, by rw [start65]; exact heap_alloc_new w _, (Below.refl _ w).alloc (Nat.le_refl _) _, Lib.hid ⟨rfl, by simp, by simpa using hu, rfl⟩⟩
  case round =>
    obtain ⟨v, i, l, rfl, rfl, hB, hbel, hi⟩ := hrel
    obtain ⟨i1, i2, i3, i4⟩ := hi.out
    obtain ⟨j, rfl⟩ : ∃ j, i = j + 1 := ⟨i - 1, by omega⟩
    obtain ⟨f, hf⟩ : ∃ f, 16 - l.length = f + 1 := ⟨15 - l.length, by omega⟩
    have hv64 : v < 18446744073709551616 := Nat.lt_of_lt_of_le i3 (Nat.le_trans (Nat.pow_le_pow_right (by omega) (show 16 - l.length ≤ 16 by omega)) (by decide))
    have hj : j ≤ 64 := by omega
    have hc : wr.cell? ⟨w.heap.size, j, none⟩ = some (.int .u8 0) := by rw [World.cell?, hB]; exact cs65_nought l j (by omega)
    have hfz : wr.frozen? ⟨w.heap.size, j, none⟩ = false := by simp [World.frozen?, hB]
    have hlt : w.heap.size < wr.heap.size := by
      rcases Nat.lt_or_ge w.heap.size wr.heap.size with h | h
      · exact h
      · rw [Array.getElem?_eq_none h] at hB; cases hB
    by_cases h16 : 16 ≤ v
    · have hz : (16 ≤ (v : Int)) = True := by simp; omega
      obtain ⟨x, hx⟩ : ∃ x, x = v % 16 := ⟨_, rfl⟩
      have ha := and15 v hv64
      rw [← hx] at ha
      have hix := idx_digs x (by omega)
      have I4 := Lib.hid (show hexGo f (v / 16) (hexd x :: l) = hexL u ∧ v / 16 < 16 ^ f ∧ f = 15 - l.length ∧ j + 1 + l.length = 65 ∧ l.length < 15 by
        rw [hf] at i3 i4
        rw [hexGo, if_neg (by omega), ← hx] at i4
        refine ⟨i4, Nat.div_lt_of_lt_mul (by rw [Nat.pow_succ] at i3; omega), by omega, i1, ?_⟩
        rcases Nat.lt_or_ge l.length 15 with h | h
        · exact h
        · obtain rfl : f = 0 := by omega
          simp at i3; omega)
      clear i1 i2 i3 i4 hf
      have HB := Lib.hid hB
      have HBel := Lib.hid hbel
      have HX := Lib.hid hx
      clear hB hbel hx
      go_wp2
      obtain ⟨i4, i3, i5, i1, i2⟩ := I4.out
      refine ⟨⟨v / 16, j, hexd x :: l, rfl, rfl, ?_, ?_, Lib.hid ⟨by simp; omega, by simp; omega, ?_, ?_⟩⟩, ?_⟩
      · rw [heap_setCell_same _ _ _ _ _ _ HB.out, ← cs65_set l (hexd x) (by omega), show 64 - l.length = j by omega]
      · exact HBel.out.setCell (Nat.le_refl _) _
      · rw [show 16 - (hexd x :: l).length = f by simp; omega]; exact i3
      · rw [show 16 - (hexd x :: l).length = f by simp; omega]; exact i4
      · simp [intOf]; omega
    · have hz : (16 ≤ (v : Int)) = False := by simp; omega
      have hix := idx_digs v (by omega)
      obtain ⟨n, hn⟩ : ∃ n, n = 65 - j := ⟨_, rfl⟩
      have hal : Tryd.prog.arrayLen 104 = 65 := by kernel_rfl
      have hsl : ∀ W, (Instr.sliceAt 104 (.pointer (some ⟨w.heap.size, 0, none⟩)) (some (.int .i64 (j : Int))) none none).run Tryd.prog W = .ok (.slice (some ⟨w.heap.size, j, none⟩) n n) W := fun W => by
        rw [run_sliceAt_array_l W 104 ⟨w.heap.size, 0, none⟩ (by kernel_rfl) .i64 (j : Int) (by omega) (by rw [hal]; omega)]
        go_simp
        omega
      have hl : (hexd v :: l).length = n := by simp; omega
      have hcv : (convert 22 9 (.slice (some ⟨w.heap.size, j, none⟩) n n)).run Tryd.prog (wr.setCell ⟨w.heap.size, j, none⟩ (.int .u8 ((hexd v).toNat : Int))) = .ok (.string ⟨(hexd v :: l).toArray⟩) (wr.setCell ⟨w.heap.size, j, none⟩ (.int .u8 ((hexd v).toNat : Int))) := by
        have h := run_convert_bytes_back (P := Tryd.prog) (wr.setCell ⟨w.heap.size, j, none⟩ (.int .u8 ((hexd v).toNat : Int))) 22 9 5 ⟨w.heap.size, j, none⟩ n (hexd v :: l) Tryd.underlying22 Tryd.underlying5 Tryd.underlying9 (fun k hk => by
          rw [Lib.add_plain, World.cell?, heap_setCell_same _ _ _ _ _ _ hB, show j = 64 - l.length by omega, cs65_set l (hexd v) (by omega)]
          have := cs65_last (hexd v :: l) k hk
          rw [show 65 - (hexd v :: l).length = 64 - l.length by simp] at this
          exact this)
        rw [hl] at h
        exact h
      have hend : hexd v :: l = hexL u := by rw [← i4, hf, hexGo, if_pos (by omega)]
      have HBel := Lib.hid hbel
      have HE := Lib.hid hend
      clear i1 i2 i3 i4 hf hB hbel hend hl hn hal
      go_wp2
      go_ret2
      exact ⟨by rw [← HE.out]; rfl, HBel.out.setCell (Nat.le_refl _) _⟩

theorem ifmt_ok (u : Nat) (hu : u < 18446744073709551616) (w : World) (ht : Tab w) : Calls Tryd.prog 73 #[.int .u64 u, .int .i64 16] w fun e w' => e = .returned (.string ⟨(hexL u).toArray⟩) ∧ Below w.heap.size w w' := by
  go_enter Tryd.func73, Tryd.ntmps73
  go_wp2_with (go_at_call 70; refine (fmt_ok u hu _ ht).mono ?_; rintro e w' ⟨rfl, hb⟩)
  go_ret
  exact ⟨rfl, hb⟩
theorem formatUint_ok (u : Nat) (hu : u < 18446744073709551616) (w : World) (ht : Tab w) : Calls Tryd.prog 64 #[.int .u64 u, .int .i64 16] w fun e w' => e = .returned (.string ⟨(hexL u).toArray⟩) ∧ Below w.heap.size w w' := by
  go_enter Tryd.func64, Tryd.ntmps64
  go_wp2_with (go_at_call 73; refine (ifmt_ok u hu _ ht).mono ?_; rintro e w' ⟨rfl, hb⟩)
  go_ret
  exact ⟨rfl, hb⟩

theorem hexGo_length (f v : Nat) (l : List UInt8) (hv : v < 16 ^ f) (hf : 1 ≤ f) : l.length + 1 ≤ (hexGo f v l).length ∧ (hexGo f v l).length ≤ l.length + f := by
  induction f generalizing v l with
  | zero => omega
  | succ f ih =>
    rw [hexGo]
    split
    · simp
    · rename_i h
      rcases Nat.eq_zero_or_pos f with rfl | h0
      · simp at hv; omega
      · have := ih (v / 16) (hexd (v % 16) :: l) (Nat.div_lt_of_lt_mul (by rw [Nat.pow_succ] at hv; omega)) h0
        simp at this ⊢
        omega
theorem hexL_length (u : Nat) (hu : u < 18446744073709551616) : 1 ≤ (hexL u).length ∧ (hexL u).length ≤ 16 := by
  have := hexGo_length 16 u [] (by simpa using hu) (by decide)
  simpa [hexL] using this

/-- Sixteen digits of a word, behind their mark. -/
def hexT (u : Nat) : List UInt8 := 48 :: 120 :: (List.replicate (16 - (hexL u).length) 48 ++ hexL u)

theorem repeat_one (b : UInt8) (n : Nat) : Lib.repeatL [b] n = List.replicate n b := by
  induction n with
  | zero => rfl
  | succ n ih => rw [Lib.repeatL, ih]; rfl

set_option maxRecDepth 100000 in
theorem hexText_ok (u : Nat) (hu : u < 18446744073709551616) (w : World) (ht : Tab w) : Calls Tryd.prog 54 #[.int .u64 u] w fun e w' => e = .returned (.string ⟨(hexT u).toArray⟩) ∧ Below w.heap.size w w' := by
  obtain ⟨l1, l2⟩ := hexL_length u hu
  have hw : IntKind.i64.wrap (16 - ((hexL u).length : Int)) = ((16 - (hexL u).length : Nat) : Int) := by rw [IntKind.wrap_i64]; omega
  have hlen : (Lib.repeatL [48] (16 - (hexL u).length)).length = 16 - (hexL u).length := by simp [Lib.repeatL_length]
  go_enter Tryd.func54, Tryd.ntmps54
  go_wp2_with (first | (go_at_call 64; refine (formatUint_ok u hu _ ht).mono ?_; rintro e w' ⟨rfl, hb⟩) | (go_at_call 65; refine (Tryd.strings_Repeat ⟨#[48]⟩ (16 - (hexL u).length) _ (by omega) (by show 1 * _ ≤ _; omega)).mono ?_; rintro e w2 ⟨rfl, hb2⟩))
  go_ret
  refine ⟨?_, hb.trans (hb2.mono hb.size)⟩
  refine congrArg (fun x => Ending.returned (Value.string x)) ?_
  rw [repeat_one]
  apply ByteArray.ext
  simp [hexT]
end Go.Proofs.YticflknfkaoejaaDoor
