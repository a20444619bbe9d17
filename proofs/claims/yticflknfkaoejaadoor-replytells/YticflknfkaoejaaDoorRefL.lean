/- The document's own digits: to the base ten, to the base sixteen. -/
import Derived.Test.YticflknfkaoejaaDoorHex
import Derived.LoopTactic
namespace Go.Proofs.YticflknfkaoejaaDoor
open Go.RowKit

def dig10 : ByteArray := ⟨#[48, 49, 50, 51, 52, 53, 54, 55, 56, 57]⟩
theorem cut10 (k : Nat) (hk : k < 10) (w : World) : (Instr.sliceAt 9 (.string dig10) (some (.int .i64 (k : Int))) (some (.int .i64 ((k : Int) + 1))) none).run Tryd.prog w = .ok (.string ⟨[UInt8.ofNat (48 + k)].toArray⟩) w := by
  have h : ∀ k, k < 10 → dig10.extract k (k + 1) = ⟨[UInt8.ofNat (48 + k)].toArray⟩ := by decide +kernel
  have hs : dig10.size = 10 := rfl
  rw [run_sliceAt_string w 9 _ _ _ _ Tryd.underlying9]
  rw [← h k hk]
  go_simp
  rw [if_pos ⟨by omega, by omega⟩, if_pos (by omega)]

set_option maxRecDepth 100000 in
set_option maxHeartbeats 1000000 in
theorem digits_ok (u : Nat) (hu : u < 1000000000000000) (w : World) : Calls Tryd.prog 47 #[.int .u64 u] w fun e w' => e = .returned (.string ⟨(Lib.decDigits u).toArray⟩) ∧ w' = w := by
  go_enter Tryd.func47, Tryd.ntmps47
  rw [show (⟨#[48, 49, 50, 51, 52, 53, 54, 55, 56, 57]⟩ : ByteArray) = dig10 from rfl]
  go_wp2_with fail
  go_loop [0, 3] (fun vu vs => ∃ (v : Nat) (l : List UInt8), vu = .int .u64 v ∧ vs = .string ⟨l.toArray⟩ ∧ Hid (v + l.length ≤ u ∧ Lib.decDigits v ++ l = Lib.decDigits u)) (fun vu _ => (RowKit.intOf vu).toNat)
  case atStart => exact ⟨u, [], rfl, rfl, Lib.hid ⟨by simp, by simp⟩⟩
  case round =>
    obtain ⟨v, l, rfl, rfl, HI⟩ := hrel
    obtain ⟨i1, i2⟩ := HI.out
    by_cases h9 : 9 < v
    · have hz : ((9 : Int) < (v : Int)) = True := by simp; omega
      have hb : l.length < 1000000000000000 := by omega
      have hv : v < 1000000000000000 := by omega
      have hcut := cut10 (v % 10) (Nat.mod_lt _ (by omega))
      rw [show ((v % 10 : Nat) : Int) = (v : Int) % 10 by omega] at hcut
      have hdec : Lib.decDigits v = Lib.decDigits (v / 10) ++ [UInt8.ofNat (48 + v % 10)] := by rw [Lib.decDigits, dif_neg (by omega)]
      have L := Lib.hid (show v / 10 + (UInt8.ofNat (48 + v % 10) :: l).length ≤ u ∧ Lib.decDigits (v / 10) ++ UInt8.ofNat (48 + v % 10) :: l = Lib.decDigits u from ⟨by simp; omega, by rw [← i2, hdec]; simp⟩)
      clear hdec
      generalize UInt8.ofNat (48 + v % 10) = c at *
      clear HI i1 i2
      go_wp2
      exact ⟨⟨v / 10, c :: l, rfl, congrArg Value.string (by apply ByteArray.ext; simp), L⟩, by simp [RowKit.intOf]; omega⟩
    · have hz : ((9 : Int) < (v : Int)) = False := by simp; omega
      have hb : l.length < 1000000000000000 := by omega
      have hcut := cut10 v (by omega)
      have L := Lib.hid (show UInt8.ofNat (48 + v) :: l = Lib.decDigits u by rw [← i2, Lib.decDigits, dif_pos (by omega)]; rfl)
      generalize UInt8.ofNat (48 + v) = c at *
      clear HI i1 i2
      go_wp2
      go_ret
      exact ⟨congrArg (fun x => Ending.returned (Value.string x)) (by rw [← L.out]; apply ByteArray.ext; simp), rfl⟩

theorem cut16 (k : Nat) (hk : k < 16) (w : World) : (Instr.sliceAt 9 (.string ⟨#[48, 49, 50, 51, 52, 53, 54, 55, 56, 57, 97, 98, 99, 100, 101, 102]⟩) (some (.int .i64 (k : Int))) (some (.int .i64 ((k : Int) + 1))) none).run Tryd.prog w = .ok (.string ⟨[hexd k].toArray⟩) w := by
  have h : ∀ k, k < 16 → (⟨#[48, 49, 50, 51, 52, 53, 54, 55, 56, 57, 97, 98, 99, 100, 101, 102]⟩ : ByteArray).extract k (k + 1) = ⟨[hexd k].toArray⟩ := by decide +kernel
  have hs : (⟨#[48, 49, 50, 51, 52, 53, 54, 55, 56, 57, 97, 98, 99, 100, 101, 102]⟩ : ByteArray).size = 16 := rfl
  generalize (⟨#[48, 49, 50, 51, 52, 53, 54, 55, 56, 57, 97, 98, 99, 100, 101, 102]⟩ : ByteArray) = D at *
  rw [run_sliceAt_string w 9 _ _ _ _ Tryd.underlying9, ← h k hk]
  go_simp
  rw [if_pos ⟨by omega, by omega⟩, if_pos (by omega)]

/-- So many digits of a word. -/
def hexN : Nat → Nat → List UInt8
  | 0, _ => []
  | k + 1, b => hexN k (b / 16) ++ [hexd (b % 16)]
theorem hexN_length (k b : Nat) : (hexN k b).length = k := by
  induction k generalizing b with
  | zero => rfl
  | succ k ih => rw [hexN, List.length_append, ih]; rfl

set_option maxRecDepth 100000 in
set_option maxHeartbeats 1000000 in
theorem hex_ok (b : Nat) (hb : b < 18446744073709551616) (w : World) : Calls Tryd.prog 56 #[.int .u64 b] w fun e w' => e = .returned (.string ⟨(hexN 16 b).toArray⟩) ∧ w' = w := by
  go_enter Tryd.func56, Tryd.ntmps56
  go_wp2_with fail
  go_loop [3, 4] (fun vs vi => ∃ (t : Nat) (i : Int) (l : List UInt8), vs = .string ⟨l.toArray⟩ ∧ vi = .int .i64 i ∧ Hid (t ≤ 16 ∧ i = 60 - 4 * t ∧ l = hexN t (b / 16 ^ (16 - t)))) (fun _ vi => (64 + RowKit.intOf vi).toNat)
  case atStart => exact ⟨0, 60, [], rfl, rfl, Lib.hid ⟨by omega, by omega, rfl⟩⟩
  case round =>
    obtain ⟨t, i, l, rfl, rfl, HI⟩ := hrel
    obtain ⟨i1, i2, i3⟩ := HI.out
    by_cases ht : t < 16
    · obtain ⟨s, hs⟩ : ∃ s : Nat, i = s := ⟨60 - 4 * t, by omega⟩
      subst hs
      have hl : l.length = t := by rw [i3, hexN_length]
      have hz : ((0 : Int) ≤ (s : Int)) = True := by simp
      have hs60 : s ≤ 60 := by omega
      have hl16 : l.length ≤ 16 := by omega
      have h16 : 16 ^ (15 - t) = 2 ^ s := by
        rw [show s = 4 * (15 - t) by omega, Nat.pow_mul]
      obtain ⟨k, hk⟩ : ∃ k, k = b / 2 ^ s % 16 := ⟨_, rfl⟩
      have hk16 : k < 16 := by omega
      have hand : bits .and .u64 ((b : Int) / 2 ^ s) 15 = (k : Int) := by
        rw [show ((b : Int) / 2 ^ s) = ((b / 2 ^ s : Nat) : Int) by simp, and15 _ (Nat.lt_of_le_of_lt (Nat.div_le_self _ _) hb), hk]
      have hcut := cut16 k hk16
      have L := Lib.hid (show t + 1 ≤ 16 ∧ (s : Int) - 4 = 60 - 4 * ((t + 1 : Nat) : Int) ∧ l ++ [hexd k] = hexN (t + 1) (b / 16 ^ (16 - (t + 1))) from ⟨by omega, by omega, by
        rw [hexN, show 16 - (t + 1) = 15 - t by omega, h16, ← hk, i3, Nat.div_div_eq_div_mul, ← h16, ← Nat.pow_succ, show (15 - t).succ = 16 - t by omega]⟩)
      generalize hexd k = c at *
      clear HI i1 i2 i3 hl hk h16
      go_wp2
      exact ⟨⟨t + 1, (s : Int) - 4, l ++ [c], congrArg Value.string (by apply ByteArray.ext; simp), rfl, L⟩, by simp [RowKit.intOf]; omega⟩
    · have hz : ((0 : Int) ≤ i) = False := by simp; omega
      have L := Lib.hid (show l = hexN 16 b by rw [i3, show t = 16 by omega]; simp)
      clear HI i1 i2 i3
      go_wp2
      go_ret
      exact ⟨by rw [L.out]; rfl, rfl⟩
end Go.Proofs.YticflknfkaoejaaDoor
