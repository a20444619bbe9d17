/- num's parseHex: sixteen digits of a word that is a number. -/
import Derived.Test.YticflknfkaoejaaGreatDoorInf
import Derived.Test.YticflknfkaoejaaGreatDoorShelfT
import Derived.LoopTactic
namespace Go.Proofs.YticflknfkaoejaaGreatDoor
open Go.RowKit

/-- A digit to the base 16. -/
def hexv (c : UInt8) : Option Nat := if 48 ≤ c.toNat ∧ c.toNat ≤ 57 then some (c.toNat - 48) else if 97 ≤ c.toNat ∧ c.toNat ≤ 102 then some (c.toNat - 87) else none
def unh : List UInt8 → Nat → Option Nat
  | [], a => some a
  | c :: l, a => (hexv c).bind fun v => unh l (a * 16 + v)
/-- What parseHex reads. -/
def pHex (l : List UInt8) : Option Nat := if l.length = 16 then (unh l 0).filter (fun u => !nanB u) else none
/-- A number read, or ErrForm. -/
def readV (o : Option Nat) : Value := .tuple #[.float .f64 (o.getD 0), .int .i64 (if o.isSome then 0 else 3)]

def dig16 : ByteArray := ⟨#[48, 49, 50, 51, 52, 53, 54, 55, 56, 57, 97, 98, 99, 100, 101, 102]⟩
theorem idx16 (c : UInt8) : Lib.indexByte dig16.data.toList c = match hexv c with | some v => (v : Int) | none => -1 := by
  have h : ∀ k, k < 256 → Lib.indexByte dig16.data.toList (UInt8.ofNat k) = match hexv (UInt8.ofNat k) with | some v => (v : Int) | none => -1 := by decide +kernel
  have := h c.toNat c.toNat_lt
  simpa using this
theorem hexv_lt (c : UInt8) (v : Nat) (h : hexv c = some v) : v < 16 := by
  unfold hexv at h
  split at h
  · cases h; omega
  · split at h
    · cases h; omega
    · cases h
theorem or_low (a v : Nat) (hv : v < 16) : (a * 16) ||| v = a * 16 + v := by
  have := Nat.two_pow_add_eq_or_of_lt (i := 4) (b := v) (by omega) a
  rw [show 2 ^ 4 * a = a * 16 by omega] at this
  exact this.symm

theorem ib_ok (c : UInt8) (w : World) : Calls Tryz.prog 116 #[.string dig16, .int .u8 (c.toNat : Int)] w fun e w' => e = .returned (.int .i64 (match hexv c with | some v => (v : Int) | none => -1)) ∧ w' = w := by
  have h := Tryz.strings_IndexByte dig16 (c.toNat : Int) w
  rw [show ((c.toNat : Int)).toNat.toUInt8 = c by simp, idx16 c] at h
  exact h

set_option maxRecDepth 100000 in
set_option maxHeartbeats 1000000 in
theorem parseHex_ok (d : ByteArray) (w : World) : Calls Tryz.prog 100 #[.string d] w fun e w' => e = .returned (readV (pHex d.data.toList)) ∧ w' = w := by
  have hf := from_run
  by_cases hs : d.size = 16
  · have hl : d.data.toList.length = 16 := by simpa using hs
    go_enter Tryz.func100, Tryz.ntmps100
    rw [show (⟨#[48, 49, 50, 51, 52, 53, 54, 55, 56, 57, 97, 98, 99, 100, 101, 102]⟩ : ByteArray) = dig16 from rfl]
    go_wp2_with fail
    go_loop [4, 13] (fun vb vi => ∃ a i : Nat, vb = .int .u64 a ∧ vi = .int .i64 i ∧ Hid (i ≤ 16 ∧ a < 16 ^ i ∧ unh (d.data.toList.drop i) a = unh d.data.toList 0)) (fun _ vi => 16 - (RowKit.intOf vi).toNat)
    case atStart => exact ⟨0, 0, rfl, rfl, Lib.hid ⟨by omega, by omega, by simp⟩⟩
    case round =>
      obtain ⟨a, i, rfl, rfl, HI⟩ := hrel
      obtain ⟨i1, i2, i3⟩ := HI.out
      by_cases hi : i < 16
      · have hi2 : ((i : Int) < 16) = True := by simp; omega
        have hlt : i < d.data.toList.length := by omega
        have hdrop : d.data.toList.drop i = d.data.toList[i] :: d.data.toList.drop (i + 1) := List.drop_eq_getElem_cons hlt
        have hix : ∀ w, (Instr.index 9 (.string d) (.int .i64 (i : Int))).run Tryz.prog w = .ok (.int .u8 (d.data.toList[i].toNat : Int)) w := fun w => by
          rw [run_index_string w 9 d .i64 _ Tryz.underlying9, dif_pos ⟨by omega, by omega⟩]
          simp only [Int.toNat_natCast]
          rfl
        rw [hdrop] at i3
        generalize d.data.toList[i] = c at *
        have ha64 : a * 16 < 18446744073709551616 := by
          have h1 : 16 ^ i * 16 ≤ 16 ^ 16 := by rw [← Nat.pow_succ]; exact Nat.pow_le_pow_right (by omega) (by omega)
          have h2 : (16 : Nat) ^ 16 = 18446744073709551616 := by decide
          have h3 := Nat.mul_lt_mul_of_pos_right i2 (show 0 < 16 by omega)
          omega
        have hib := ib_ok c
        cases hv : hexv c with
        | none =>
          rw [hv] at hib
          have hU : unh d.data.toList 0 = none := by rw [← i3, unh, hv]; rfl
          have hres : pHex d.data.toList = none := by unfold pHex; rw [if_pos hl, hU]; rfl
          have HR := Lib.hid hres
          clear HI i1 i2 i3 hdrop hU hres hv ha64
          go_wp2_with (first | (go_at_call 116; refine (hib _).mono ?_; rintro e w' ⟨rfl, rfl⟩))
          go_ret2
          exact ⟨by rw [HR.out]; rfl, rfl⟩
        | some v =>
          rw [hv] at hib
          have hv16 := hexv_lt c v hv
          have L := Lib.hid (show i + 1 ≤ 16 ∧ a * 16 + v < 16 ^ (i + 1) ∧ unh (d.data.toList.drop (i + 1)) (a * 16 + v) = unh d.data.toList 0 from ⟨by omega, by rw [Nat.pow_succ]; omega, by rw [← i3, unh, hv]; rfl⟩)
          have h1 : IntKind.u64.wrap ((a : Int) * 16) = ((a * 16 : Nat) : Int) := by rw [IntKind.wrap_u64]; omega
          have h2 : bits .or .u64 ((a * 16 : Nat) : Int) (v : Int) = ((a * 16 + v : Nat) : Int) := by rw [u64_or_nat _ _ ha64 (by omega), or_low a v hv16]
          clear HI i1 i2 i3 hdrop hv
          generalize hA : a * 16 = A at *
          generalize hB : A + v = B at *
          have HA := Lib.hid hA
          have HB := Lib.hid hB
          clear hA hB
          go_wp2_with (first | (go_at_call 116; refine (hib _).mono ?_; rintro e w' ⟨rfl, rfl⟩))
          exact ⟨⟨B, i + 1, rfl, rfl, L⟩, by simp [RowKit.intOf]; omega⟩
      · obtain rfl : i = 16 := by omega
        have hU : unh d.data.toList 0 = some a := by rw [← i3, List.drop_eq_nil_of_le (by omega)]; rfl
        have ha64 : a < 18446744073709551616 := by simpa using i2
        cases hn : nanB a with
        | true =>
          have hres : pHex d.data.toList = none := by unfold pHex; rw [if_pos hl, hU, Option.filter_some, if_neg (by rw [hn]; decide)]
          have HR := Lib.hid hres
          clear HI i1 i2 i3 hU hres
          go_wp2_with (go_at_call 55; refine (isNaN_ok a ha64 _).mono ?_; rintro e w' ⟨rfl, rfl⟩)
          go_ret2
          exact ⟨by rw [HR.out]; rfl, rfl⟩
        | false =>
          have hres : pHex d.data.toList = some a := by unfold pHex; rw [if_pos hl, hU, Option.filter_some, if_pos (by rw [hn]; decide)]
          have HR := Lib.hid hres
          clear HI i1 i2 i3 hU hres
          go_wp2_with (go_at_call 55; refine (isNaN_ok a ha64 _).mono ?_; rintro e w' ⟨rfl, rfl⟩)
          go_ret2
          exact ⟨by rw [HR.out]; rfl, rfl⟩
  · have hl : ¬ d.data.toList.length = 16 := by simpa using hs
    have hsz : ((d.size : Int) == 16) = false := by simp; omega
    go_enter Tryz.func100, Tryz.ntmps100
    go_wp2
    go_ret2
    exact ⟨by unfold pHex; rw [if_neg hl]; rfl, rfl⟩
end Go.Proofs.YticflknfkaoejaaGreatDoor
