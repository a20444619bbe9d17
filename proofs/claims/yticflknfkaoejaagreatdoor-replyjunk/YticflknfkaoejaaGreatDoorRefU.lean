/- The document's own readings of digits. -/
import Derived.Test.YticflknfkaoejaaGreatDoorPHex
import Derived.Test.YticflknfkaoejaaGreatDoorNan
import Derived.LoopTactic
namespace Go.Proofs.YticflknfkaoejaaGreatDoor
open Go.RowKit

theorem ix_of (S : ByteArray) (i : Nat) (c : UInt8) (hc : S.data.toList[i]? = some c) (w : World) : (Instr.index 9 (.string S) (.int .i64 (i : Int))).run Tryz.prog w = .ok (.int .u8 (c.toNat : Int)) w := by
  obtain ⟨hi, rfl⟩ := List.getElem?_eq_some_iff.1 hc
  have : i < S.size := by simpa using hi
  rw [run_index_string w 9 S .i64 _ Tryz.underlying9, dif_pos ⟨by omega, by omega⟩]
  simp only [Int.toNat_natCast]
  rfl

/-- How the document's own reading of sixteen digits ends. -/
def UnhexEnd (l : List UInt8) (e : Ending) : Prop := if l.length = 16 then (match unh l 0 with | some u => e = .returned (.tuple #[.int .u64 u, .bool true]) | none => ∃ v : Nat, e = .returned (.tuple #[.int .u64 v, .bool false])) else ∃ v : Nat, e = .returned (.tuple #[.int .u64 v, .bool false])

set_option maxRecDepth 100000 in
set_option maxHeartbeats 2000000 in
theorem unhex_ok (d : ByteArray) (hd : d.size < 9223372036854775807) (w : World) : Calls Tryz.prog 33 #[.string d] w fun e w' => UnhexEnd d.data.toList e ∧ w' = w := by
  obtain ⟨N, hN⟩ : ∃ N, d.size = N := ⟨_, rfl⟩
  have hl : d.data.toList.length = N := by rw [← hN]; simp
  go_enter Tryz.func33, Tryz.ntmps33
  go_wp2_with fail
  go_loop [4, 5] (fun vb vi => ∃ a i : Nat, vb = .int .u64 a ∧ vi = .int .i64 i ∧ Hid (i ≤ N ∧ a < 18446744073709551616 ∧ (N = 16 → a < 16 ^ i ∧ unh (d.data.toList.drop i) a = unh d.data.toList 0))) (fun _ vi => N - (RowKit.intOf vi).toNat)
  case atStart => exact ⟨0, 0, rfl, rfl, Lib.hid ⟨by omega, by omega, fun _ => ⟨by omega, by simp⟩⟩⟩
  case round =>
    obtain ⟨a, i, rfl, rfl, HI⟩ := hrel
    obtain ⟨i1, i2, i3⟩ := HI.out
    by_cases hi : i < N
    · have hz : ((i : Int) < (N : Int)) = True := by simp; omega
      have hlt : i < d.data.toList.length := by omega
      have hcc : d.data.toList[i]? = some d.data.toList[i] := List.getElem?_eq_getElem hlt
      have hdr : d.data.toList.drop i = d.data.toList[i] :: d.data.toList.drop (i + 1) := List.drop_eq_getElem_cons hlt
      generalize d.data.toList[i] = c at *
      have hix := ix_of d i c hcc
      have hN9 : N < 9223372036854775807 := by omega
      have hm : N - (i + 1) < N - i := by omega
      have hc256 := c.toNat_lt
      rw [hdr] at i3
      have step : ∀ v, hexv c = some v → Hid (i + 1 ≤ N ∧ (a * 16 + v) % 18446744073709551616 < 18446744073709551616 ∧ (N = 16 → (a * 16 + v) % 18446744073709551616 < 16 ^ (i + 1) ∧ unh (d.data.toList.drop (i + 1)) ((a * 16 + v) % 18446744073709551616) = unh d.data.toList 0)) := fun v hv => Lib.hid ⟨by omega, by omega, fun h16 => by
        obtain ⟨j1, j2⟩ := i3 h16
        have hv16 := hexv_lt c v hv
        have h1 : 16 ^ i * 16 ≤ 16 ^ 16 := by rw [← Nat.pow_succ]; exact Nat.pow_le_pow_right (by omega) (by omega)
        have h2 : (16 : Nat) ^ 16 = 18446744073709551616 := by decide
        have h3 := Nat.mul_lt_mul_of_pos_right j1 (show 0 < 16 by omega)
        rw [Nat.mod_eq_of_lt (by omega)]
        exact ⟨by rw [Nat.pow_succ]; omega, by rw [← j2, unh, hv]; rfl⟩⟩
      have bad : hexv c = none → N = 16 → unh d.data.toList 0 = none := fun hv h16 => by
        obtain ⟨j1, j2⟩ := i3 h16
        rw [← j2, unh, hv]; rfl
      clear HI i1 i3 hcc hdr hlt
      by_cases d1 : 48 ≤ c.toNat ∧ c.toNat ≤ 57
      · obtain ⟨x, hx⟩ : ∃ x, c.toNat = 48 + x := ⟨c.toNat - 48, by omega⟩
        have L := step x (by unfold hexv; rw [if_pos d1, hx]; congr 1; omega)
        rw [hx] at hix
        have x9 : x ≤ 9 := by omega
        have k1 : ((48 : Int) ≤ 48 + (x : Int)) = True := by simp only [eq_iff_iff, iff_true]; omega
        have k2 : (48 + (x : Int) ≤ 57) = True := by simp only [eq_iff_iff, iff_true]; omega
        clear step bad d1 hx hc256
        go_wp2
        exact ⟨⟨(a * 16 + x) % 18446744073709551616, i + 1, congrArg (Value.int .u64) (by rw [IntKind.wrap_u64, IntKind.wrap_u64]; omega), rfl, L⟩, hm⟩
      · by_cases d2 : 97 ≤ c.toNat ∧ c.toNat ≤ 102
        · obtain ⟨x, hx⟩ : ∃ x, c.toNat = 97 + x := ⟨c.toNat - 97, by omega⟩
          have L := step (10 + x) (by unfold hexv; rw [if_neg d1, if_pos d2, hx]; congr 1; omega)
          rw [hx] at hix
          have x9 : x ≤ 5 := by omega
          have k1 : ((48 : Int) ≤ 97 + (x : Int)) = True := by simp only [eq_iff_iff, iff_true]; omega
          have k2 : (97 + (x : Int) ≤ 57) = False := by simp only [eq_iff_iff, iff_false]; omega
          have k3 : ((97 : Int) ≤ 97 + (x : Int)) = True := by simp only [eq_iff_iff, iff_true]; omega
          have k4 : (97 + (x : Int) ≤ 102) = True := by simp only [eq_iff_iff, iff_true]; omega
          clear step bad d1 d2 hx hc256
          go_wp2
          exact ⟨⟨(a * 16 + (10 + x)) % 18446744073709551616, i + 1, congrArg (Value.int .u64) (by rw [IntKind.wrap_u64, IntKind.wrap_u64, IntKind.wrap_u64]; omega), rfl, L⟩, hm⟩
        · have hv : hexv c = none := by unfold hexv; rw [if_neg d1, if_neg d2]
          have B := Lib.hid (bad hv)
          have kk : (((48 : Int) ≤ (c.toNat : Int)) = False ∧ ((97 : Int) ≤ (c.toNat : Int)) = False) ∨ (((48 : Int) ≤ (c.toNat : Int)) = True ∧ ((c.toNat : Int) ≤ 57) = False ∧ ((97 : Int) ≤ (c.toNat : Int)) = False) ∨ (((48 : Int) ≤ (c.toNat : Int)) = True ∧ ((c.toNat : Int) ≤ 57) = False ∧ ((97 : Int) ≤ (c.toNat : Int)) = True ∧ ((c.toNat : Int) ≤ 102) = False) := by
            simp only [eq_iff_iff, iff_true, iff_false]; omega
          generalize c.toNat = y at *
          clear step bad d1 d2 hv
          have fin : ∀ e : Ending, e = .returned (.tuple #[.int .u64 0, .bool false]) → UnhexEnd d.data.toList e := fun e he => by
            unfold UnhexEnd
            by_cases h16 : d.data.toList.length = 16
            · rw [if_pos h16, B.out (by omega)]; exact ⟨0, he⟩
            · rw [if_neg h16]; exact ⟨0, he⟩
          have FIN := Lib.hid fin
          clear fin
          rcases kk with ⟨q1, q2⟩ | ⟨q1, q2, q3⟩ | ⟨q1, q2, q3, q4⟩
          all_goals
            go_wp2
            go_ret2
            exact ⟨FIN.out _ rfl, rfl⟩
    · obtain rfl : i = N := by omega
      have hz : ((i : Int) < (i : Int)) = False := by simp
      have FIN := Lib.hid (show ∀ e : Ending, e = .returned (.tuple #[.int .u64 a, .bool ((i : Int) == 16)]) → UnhexEnd d.data.toList e from fun e he => by
        unfold UnhexEnd
        by_cases h16 : d.data.toList.length = 16
        · rw [if_pos h16]
          obtain ⟨_, j2⟩ := i3 (by omega)
          rw [← j2, List.drop_eq_nil_of_le (by omega), unh]
          rw [he, show ((i : Int) == 16) = true by simp; omega]
        · rw [if_neg h16]
          exact ⟨a, by rw [he, show ((i : Int) == 16) = false by simp; omega]⟩)
      clear HI i1 i3
      go_wp2
      go_ret2
      exact ⟨FIN.out _ rfl, rfl⟩
end Go.Proofs.YticflknfkaoejaaGreatDoor
