/- OrderNexts walked. -/
import Derived.Test.YtnfpccmnifhflaaDoorMixedW
namespace Go.Proofs.YtnfpccmnifhflaaDoor
open Go.RowKit

theorem mask15 (t : Int) : ∃ v : Nat, bits .and .i64 t 15 = (v : Int) ∧ v ≤ 15 := by
  have hle : (BitVec.ofInt 64 t).toNat &&& 15 ≤ 15 := Nat.and_le_right
  have h2 : (BitVec.ofInt 64 (15 : Int)).toNat = 15 := by decide
  refine ⟨(BitVec.ofInt 64 t).toNat &&& 15, ?_, hle⟩
  show IntKind.i64.wrap ((BitVec.ofInt 64 t &&& BitVec.ofInt 64 (15 : Int)).toNat : Int) = _
  rw [BitVec.toNat_and, h2, IntKind.wrap_i64]
  omega
theorem bs_gt (a b : List UInt8) (h : b < a) : (Op.bytesLess (bs a).toList (bs b).toList || (bs a).toList == (bs b).toList) = false := by
  rw [bs_less, bs_beq]
  have h1 : ¬ a < b := fun k => List.lt_irrefl _ (List.lt_trans h k)
  have h2 : a ≠ b := fun e => by subst e; exact List.lt_irrefl _ h
  simp [h1, h2]

set_option maxRecDepth 100000 in
set_option maxHeartbeats 8000000 in
theorem nexts_ok (l : List UInt8) (t : Int) (_ : l.length ≤ 140737488355328) (_ : -9223372036854775808 ≤ t) (_ : t ≤ 9223372036854775807) (w : World) : Calls Tryd.prog 5 #[.string (bs l), .int .i64 t] w fun e w' => e = .returned (.bool true) ∧ Below w.heap.size w w' := by
  have hsz := bs_size l
  by_cases h50 : l.length ≤ 50
  · have h5' : ((50 : Int) < (l.length : Int)) = False := by simp; omega
    obtain ⟨v, hv, hv15⟩ := mask15 t
    have H50 := hide h50
    have HV := hide hv15
    clear h50 hv15
    go_enter Tryd.func5, Tryd.ntmps5
    go_wp2_with fail
    clear h5' hsz
    go_loopw [0, 5] (fun k i wr => ∃ (x : List UInt8) (j : Nat), k = .string (bs x) ∧ i = .int .i64 (j : Nat) ∧ Hid (x.length ≤ 50 ∧ j ≤ 15 ∧ Below w.heap.size w wr)) (fun _ i _ => v - (RowKit.intOf i).toNat)
    case atStart => exact ⟨l, 0, rfl, rfl, hide ⟨unhide H50, by omega, Below.refl _ _⟩⟩
    case round =>
      obtain ⟨x, j, rfl, rfl, HI⟩ := hrel
      obtain ⟨hx, hj, hB⟩ := unhide HI
      have hxs := bs_size x
      have hv15 := unhide HV
      have HB := hide hB
      clear HI hB
      by_cases hjv : j < v
      · have hjv' : ((j : Int) < (v : Int)) = True := by simp; omega
        have N := fun w => next_ok x w (by omega)
        cases hn : nxt x with
        | none =>
          rw [hn] at N
          have N' : ∀ w, Calls Tryd.prog 14 #[.string (bs x)] w fun e w' => e = .returned (.tuple #[.string ⟨#[]⟩, .bool false]) ∧ Below w.heap.size w w' := N
          have H255 := hide ((nxt_all x).1 hn)
          clear N hn
          go_wp2_with fail
          refine (N' _).mono ?_
          rintro e w1 ⟨rfl, b1⟩
          have HB1 := hide (thenB (unhide HB) b1)
          clear b1 N'
          go_wp2_with fail
          go_loopw [8] (fun i wr => ∃ q : Nat, i = .int .i64 (q : Nat) ∧ Hid (q ≤ x.length ∧ wr = w1)) (fun i _ => x.length - (RowKit.intOf i).toNat)
          case atStart => exact ⟨0, rfl, hide ⟨Nat.zero_le _, rfl⟩⟩
          case round =>
            obtain ⟨q, rfl, HQ⟩ := hrel
            obtain ⟨hq, hwr⟩ := unhide HQ
            subst hwr
            by_cases hqx : q < x.length
            · have hq' : ((q : Int) < (x.length : Int)) = True := by simp; omega
              have hix : ∀ w, (Instr.index 9 (.string (bs x)) (.int .i64 (q : Int))).run Tryd.prog w = .ok (.int .u8 255) w := bs_ix x q 255 (by rw [List.getElem?_eq_getElem hqx, unhide H255 _ (List.getElem_mem hqx)])
              go_wp2
              go_roundw
              case rel => exact ⟨q + 1, by go_num, hide ⟨by omega, by trivial⟩⟩
              case measure => simp [RowKit.intOf]; omega
            · have hq' : ((q : Int) < (x.length : Int)) = False := by simp; omega
              go_wp2_with fail
              refine (awake_ok _).mono ?_
              rintro e w2 ⟨rfl, b2⟩
              go_wp2
              go_ret
              exact ⟨rfl, thenB (unhide HB1) b2⟩
        | some nx =>
          rw [hn] at N
          have N' : ∀ w, Calls Tryd.prog 14 #[.string (bs x)] w fun e w' => e = .returned (.tuple #[.string (bs nx), .bool true]) ∧ Below w.heap.size w w' := N
          have L1 := bs_gt nx x (nxt_lt x nx hn)
          obtain ⟨hl1, hl2⟩ := nxt_len x nx hn
          have hns := bs_size nx
          have g1 : ((x.length : Int) < (nx.length : Int)) = False := by simp; omega
          have g2 : (((nx.length : Nat) : Int) == 0) = false := by rw [beq_eq_false_iff_ne]; omega
          have HL := hide (show nx.length ≤ 50 by omega)
          clear N hn hl1 hl2 hx
          go_wp2_with fail
          refine (N' _).mono ?_
          rintro e w1 ⟨rfl, b1⟩
          have HB1 := hide (thenB (unhide HB) b1)
          clear b1 N'
          go_wp2
          go_roundw
          case rel => exact ⟨nx, j + 1, rfl, by go_num, hide ⟨unhide HL, by omega, unhide HB1⟩⟩
          case measure => simp [RowKit.intOf]; omega
      · have hjv' : ((j : Int) < (v : Int)) = False := by simp; omega
        go_wp2_with fail
        refine (awake_ok _).mono ?_
        rintro e w2 ⟨rfl, b2⟩
        go_wp2
        go_ret
        exact ⟨rfl, thenB (unhide HB) b2⟩
  · have h5' : ((50 : Int) < (l.length : Int)) = True := by simp; omega
    go_enter Tryd.func5, Tryd.ntmps5
    go_wp2_with fail
    refine (awake_ok _).mono ?_
    rintro e w2 ⟨rfl, b2⟩
    go_wp2
    go_ret
    exact ⟨rfl, b2⟩
end Go.Proofs.YtnfpccmnifhflaaDoor
