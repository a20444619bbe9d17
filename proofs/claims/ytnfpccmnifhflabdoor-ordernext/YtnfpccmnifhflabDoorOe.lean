/- order: Text; strings.Replace of noughts. -/
import Derived.Test.YtnfpccmnifhflabDoorOc
import Derived.Lib.IndexLaws
namespace Go.Proofs.YtnfpccmnifhflabDoor
open Go.RowKit

theorem enc_app : ∀ a b : List UInt8, enc (a ++ b) = enc a ++ enc b
  | [], b => rfl
  | c :: a, b => by
    have ih := enc_app a b
    rw [List.cons_append, enc, enc, ih]
    split <;> rfl
theorem enc_plain : ∀ a : List UInt8, (∀ c, c ∈ a → c ≠ 0) → enc a = a
  | [], _ => rfl
  | c :: a, h => by
    rw [enc, if_neg (h c (List.mem_cons_self ..)), enc_plain a fun d hd => h d (List.mem_cons_of_mem _ hd)]
theorem enc_len (l : List UInt8) : (enc l).length ≤ 2 * l.length := by
  induction l with
  | nil => simp [enc]
  | cons c l ih =>
    rw [enc]
    split
    · simp only [List.length_cons]; omega
    · simp only [List.length_cons]; omega
/-- One more nought is found. -/
theorem rep_step (l : List UInt8) (k : Nat) (h : 0 < (l.drop k).count 0) : ∃ o : Nat, Lib.indexByte (l.drop k) 0 = o ∧ k + o + 1 ≤ l.length ∧
    enc (l.take (k + o + 1)) = enc (l.take k) ++ (l.take (k + o)).drop k ++ [0, 255] ∧ (l.drop (k + o + 1)).count 0 + 1 = (l.drop k).count 0 := by
  obtain ⟨o, ho⟩ : ∃ o : Nat, Lib.indexByte (l.drop k) 0 = o := by
    have hge := Lib.indexByte_ge (l.drop k) 0
    by_cases hm : Lib.indexByte (l.drop k) 0 = -1
    · have := Lib.indexByte_none hm
      have hmem := List.count_pos_iff.1 h
      obtain ⟨i, hi, hh⟩ := List.getElem_of_mem hmem
      exact absurd (by rw [List.getElem?_eq_getElem hi, hh]) (this i)
    · exact ⟨(Lib.indexByte (l.drop k) 0).toNat, by omega⟩
  obtain ⟨h1, h2⟩ := Lib.indexByte_some ho
  have hlt := (List.getElem?_eq_some_iff.1 h1).1
  rw [List.length_drop] at hlt
  have hget : l[k + o]? = some 0 := by rw [List.getElem?_drop] at h1; exact h1
  have e1 : l.take (k + o + 1) = l.take (k + o) ++ [0] := by rw [List.take_add_one, hget]; rfl
  have e2 : l.take (k + o) = l.take k ++ (l.take (k + o)).drop k := by
    have := (List.take_append_drop k (l.take (k + o))).symm
    rwa [List.take_take, Nat.min_eq_left (by omega)] at this
  have e3 : ∀ c, c ∈ (l.take (k + o)).drop k → c ≠ 0 := by
    intro c hc e0
    subst e0
    obtain ⟨i, hi, hh⟩ := List.getElem_of_mem hc
    have hio : i < o := by
      rw [List.length_drop, List.length_take] at hi
      omega
    refine h2 i hio ?_
    rw [List.getElem?_drop]
    have : ((l.take (k + o)).drop k)[i]? = some 0 := by rw [List.getElem?_eq_getElem hi, hh]
    rw [List.getElem?_drop, List.getElem?_take, if_pos (by omega)] at this
    exact this
  refine ⟨o, ho, by omega, ?_, ?_⟩
  · rw [e1, enc_app, e2, enc_app, enc_plain _ e3]
    congr 3
  · have d1 : l.drop k = (l.take (k + o)).drop k ++ 0 :: l.drop (k + o + 1) := by
      have hd : l.drop (k + o) = 0 :: l.drop (k + o + 1) := by
        obtain ⟨q1, q2⟩ := List.getElem?_eq_some_iff.1 hget
        rw [List.drop_eq_getElem_cons q1, q2]
      rw [← hd, List.drop_take]
      have := (List.take_append_drop o (l.drop k)).symm
      rw [List.drop_drop] at this
      rw [show k + o - k = o by omega]
      exact this
    have d2 : ((l.take (k + o)).drop k).count 0 = 0 := List.count_eq_zero.2 fun hm => e3 0 hm rfl
    rw [d1, List.count_append, d2, List.count_cons_self]
    omega

theorem write_ok (B b : Nat) (xs : List Value) (s : ByteArray) (w : World) (h : Lib.IsBuilder 40 5 B b xs w) (hlen : xs.length + s.size ≤ 140737488355328) (hBw : B ≤ w.heap.size) :
    Calls Tryd.prog 18 #[.pointer (some ⟨b, 0, none⟩), .string s] w fun e w' => e = .returned (.tuple #[.int .i64 s.size, .nilIface]) ∧ (Lib.BuilderAt 40 5 B b (.pointer (some ⟨b, 0, none⟩)) (xs ++ Lib.strCells s) w' ∧ Below B w w') :=
  Any.Builder_WriteString (P := Tryd.prog) (ρ := Tryd.lays154_ren) { Tryd.lays154 with } Tryd.Builder_Extra_154 B b xs s w h hlen hBw
set_option maxRecDepth 100000 in
set_option maxHeartbeats 4000000 in
theorem replace_ok (l : List UInt8) (hl : l.length ≤ 100000000) (w : World) : Calls Tryd.prog 11 #[.string (bs l), .string ⟨#[0]⟩, .string ⟨#[0, 255]⟩, .int .i64 (-1)] w fun e w' => e = .returned (.string (bs (enc l))) ∧ Below w.heap.size w w' := by
  have hsz := bs_size l
  have hC := Tryd.strings_Count_one (bs l) 0
  rw [bs_data] at hC
  unfold Lib.countByte at hC
  by_cases h0 : l.count 0 = 0
  · have HE := hide (enc_plain l fun c hc e => by subst e; exact List.count_eq_zero.1 h0 hc)
    rw [h0] at hC
    clear h0
    go_enter Tryd.func11, Tryd.ntmps11
    go_wp2_with (first | (go_at_call 15; refine (hC _).mono ?_; rintro e w' ⟨rfl, rfl⟩))
    go_ret
    exact ⟨by rw [unhide HE]; rfl, Below.refl _ _⟩
  · have hcl : l.count 0 ≤ l.length := List.count_le_length
    obtain ⟨n, hn⟩ : ∃ n, l.count 0 = n := ⟨_, rfl⟩
    rw [hn] at hC h0 hcl
    have HN := hide hn
    have hn0 : ((n : Int) == 0) = false := by simp; omega
    clear hn h0
    go_enter Tryd.func11, Tryd.ntmps11
    have hB0 : ∀ w : World, Below w.heap.size w (w.alloc (.cells #[.pointer none, .slice none 0 0] 40)) := fun w => (Below.refl _ w).alloc (Nat.le_refl _) _
    have hG := fun (w : World) => Tryd.Builder_Grow_fresh w.heap.size w.heap.size (l.length + n) (w.alloc (.cells #[.pointer none, .slice none 0 0] 40)) (Nat.le_refl _) (heap_alloc_new w _) (by simp) (by omega)
    simp only [Int.natCast_add] at hG
    go_wp2_with (first | (go_at_call 15; refine (hC _).mono ?_; rintro e w' ⟨rfl, rfl⟩) | (go_at_call 16; refine (hG _).mono ?_; rintro e w1 ⟨rfl, hBA, hBl⟩))
    have HB1 := hide ((hB0 w').trans hBl)
    have HBA := hide hBA
    clear hBA hBl hG hB0 hC
    go_loopw [11, 12, 53] (fun a b i wr => ∃ k m : Nat, a = .int .i64 (k : Nat) ∧ i = .int .i64 (m : Nat) ∧ Hid (k ≤ l.length ∧ m ≤ n ∧ (l.drop k).count 0 + m = n ∧ Lib.BuilderAt 40 5 w'.heap.size w'.heap.size (.pointer (some ⟨w'.heap.size, 0, none⟩)) (Lib.byteCells (enc (l.take k))) wr ∧ Below w'.heap.size w' wr)) (fun _ _ i _ => n - (RowKit.intOf i).toNat)
    case atStart => exact ⟨0, 0, rfl, rfl, hide ⟨Nat.zero_le _, Nat.zero_le _, by rw [List.drop_zero, unhide HN]; rfl, unhide HBA, unhide HB1⟩⟩
    case round =>
      obtain ⟨k, m, rfl, rfl, HI⟩ := hrel
      obtain ⟨hk, hm, hcn, hBA, hBl⟩ := unhide HI
      have hel := enc_len (l.take k)
      rw [List.length_take, Nat.min_eq_left hk] at hel
      by_cases hmn : m < n
      · have hmn' : ((m : Int) < (n : Int)) = True := by simp; omega
        obtain ⟨o, ho, hko, henc, hcnt⟩ := rep_step l k (by omega)
        have hI := Tryd.strings_Index_one (bs (l.drop k)) 0
        rw [bs_data, ho] at hI
        have hfr := bs_from l k .i64 hk
        have hmid : ∀ w, (Instr.slice 9 (.string (bs l)) (some (.int .i64 (k : Int))) (some (.int .i64 ((k : Int) + (o : Int)))) none).run Tryd.prog w = .ok (.string (bs ((l.take (k + o)).drop k))) w := bs_mid l k (k + o) .i64 .i64 (by omega) (by omega)
        have hmz : (bs ((l.take (k + o)).drop k)).size = o := by rw [bs_size, List.length_drop, List.length_take, Nat.min_eq_left (by omega)]; omega
        have hW1 := write_ok w'.heap.size w'.heap.size _ (bs ((l.take (k + o)).drop k)) wr (.inr hBA) (by rw [hmz, Lib.byteCells_length]; omega) hBl.size
        have HE := hide henc
        have HC := hide hcnt
        have HL2 := hide hBl
        have HZ := hide hmz
        have HEL := hide hel
        have HCN := hide hcn
        clear henc hcnt hBl hmz hel hcn HI hBA ho
        go_wp2_with (first | (go_at_call 17; refine (hI _).mono ?_; rintro e w9 ⟨rfl, he⟩; replace he := he.symm; subst he))
        refine hW1.mono ?_
        rintro e w2 ⟨rfl, hBA2, hBl2⟩
        have hW2 := write_ok w'.heap.size w'.heap.size _ (⟨#[0, 255]⟩ : ByteArray) w2 (.inr hBA2) (by
          have h1 := unhide HZ
          have h2 := unhide HEL
          rw [List.length_append, Lib.byteCells_length, Lib.strCells_length, h1]
          have : (⟨#[0, 255]⟩ : ByteArray).size = 2 := rfl
          omega) (Nat.le_trans (unhide HL2).size hBl2.size)
        have HL3 := hide ((unhide HL2).trans hBl2)
        clear hBA2 hBl2 hW1
        go_wp2_with (first | (go_at_call 18; refine hW2.mono ?_; rintro e w3 ⟨rfl, hBA3, hBl3⟩))
        have HL4 := hide ((unhide HL3).trans hBl3)
        have HB3 := hide hBA3
        clear hBA3 hBl3 hW2
        go_roundw
        case rel =>
          refine ⟨k + o + 1, m + 1, by go_num, by go_num, hide ⟨hko, hmn, ?_, ?_, unhide HL4⟩⟩
          · have h1 := unhide HC
            have h2 := unhide HCN
            omega
          · have h3 := unhide HB3
            have e : Lib.byteCells (enc (l.take k)) ++ Lib.strCells (bs ((l.take (k + o)).drop k)) ++ Lib.strCells ⟨#[0, 255]⟩ = Lib.byteCells (enc (l.take (k + o + 1))) := by
              rw [unhide HE]
              simp [Lib.byteCells, Lib.strCells, bs]
            rw [e] at h3
            exact h3
        case measure => simp [RowKit.intOf]; omega
      · have hmn' : ((m : Int) < (n : Int)) = False := by simp; omega
        have hfr := bs_from l k .i64 hk
        have hmz : (bs (l.drop k)).size = l.length - k := by rw [bs_size, List.length_drop]
        have hW1 := write_ok w'.heap.size w'.heap.size _ (bs (l.drop k)) wr (.inr hBA) (by rw [hmz, Lib.byteCells_length]; omega) hBl.size
        have HL2 := hide hBl
        have HE := hide (show enc (l.take k) ++ l.drop k = enc l by
          have : enc (l.drop k) = l.drop k := enc_plain _ fun c hc e => by subst e; have := List.count_pos_iff.2 hc; omega
          have e := enc_app (l.take k) (l.drop k)
          rw [List.take_append_drop, this] at e
          exact e.symm)
        clear hBl hmz hel hcn HI hBA
        go_wp2_with (first | (go_at_call 18; refine hW1.mono ?_; rintro e w2 ⟨rfl, hBA2, hBl2⟩))
        have e : Lib.byteCells (enc (l.take k)) ++ Lib.strCells (bs (l.drop k)) = Lib.byteCells (enc l) := by
          rw [← unhide HE]
          simp [Lib.byteCells, Lib.strCells, bs]
        rw [e] at hBA2
        have hS := Tryd.Builder_String_any w'.heap.size w'.heap.size (enc l) w2 (.inr hBA2) (Nat.le_trans (unhide HL2).size hBl2.size)
        have HL3 := hide ((unhide HL2).trans hBl2)
        clear hBA2 hBl2 hW1 e
        go_wp2_with (first | (go_at_call 20; refine hS.mono ?_; rintro e w3 ⟨rfl, hB3⟩))
        go_ret
        exact ⟨rfl, (unhide HL3).trans hB3⟩
theorem text_ok (l : List UInt8) (hl : l.length ≤ 100000000) (w : World) : Calls Tryd.prog 7 #[.string (bs l)] w fun e w' => e = .returned (.string (bs (code l))) ∧ Below w.heap.size w w' := by
  have hR := replace_ok l hl
  have hel := enc_len l
  have hadd : ∀ w, (Op.stringOp .add (bs (enc l)) ⟨#[0, 1]⟩).run Tryd.prog w = .ok (.string (bs (code l))) w := bs_add (enc l) [0, 1] (by simp; omega)
  clear hel
  generalize enc l = x at *
  generalize code l = y at *
  go_enter Tryd.func7, Tryd.ntmps7
  go_wp2_with (first | (go_at_call 9; go_in) | (go_at_call 11; refine (hR _).mono ?_; rintro e w2 ⟨rfl, hB⟩))
  go_ret
  exact ⟨rfl, hB⟩
end Go.Proofs.YtnfpccmnifhflabDoor
