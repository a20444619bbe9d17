/- The document's own digits: to the base ten, to the base sixteen. -/
import Derived.Test.YticflknfkaoejaaGreatDoorHex
import Derived.LoopTactic
namespace Go.Proofs.YticflknfkaoejaaGreatDoor
open Go.RowKit

def dig10 : ByteArray := ⟨#[48, 49, 50, 51, 52, 53, 54, 55, 56, 57]⟩
theorem cut10 (k : Nat) (hk : k < 10) (w : World) : (Instr.sliceAt 9 (.string dig10) (some (.int .i64 (k : Int))) (some (.int .i64 ((k : Int) + 1))) none).run Tryz.prog w = .ok (.string ⟨[UInt8.ofNat (48 + k)].toArray⟩) w := by
  have h : ∀ k, k < 10 → dig10.extract k (k + 1) = ⟨[UInt8.ofNat (48 + k)].toArray⟩ := by decide +kernel
  have hs : dig10.size = 10 := rfl
  rw [run_sliceAt_string w 9 _ _ _ _ Tryz.underlying9]
  rw [← h k hk]
  go_simp
  rw [if_pos ⟨by omega, by omega⟩, if_pos (by omega)]

set_option maxRecDepth 100000 in
set_option maxHeartbeats 1000000 in
theorem digits_ok (u : Nat) (hu : u < 1000000000000000) (w : World) : Calls Tryz.prog 14 #[.int .u64 u] w fun e w' => e = .returned (.string ⟨(Lib.decDigits u).toArray⟩) ∧ w' = w := by
  go_enter Tryz.func14, Tryz.ntmps14
  rw [show (⟨#[48, 49, 50, 51, 52, 53, 54, 55, 56, 57]⟩ : ByteArray) = dig10 from rfl]
  go_wp2_with fail
  go_loop [0, 3] (fun vu vs => ∃ (v : Nat) (l : List UInt8), vu = .int .u64 v ∧ vs = .string ⟨l.toArray⟩ ∧ Hid (v + l.length ≤ u ∧ Lib.decDigits v ++ l = Lib.decDigits u)) (fun vu _ => (RowKit.intOf vu).toNat)
  case atStart => exact ⟨u, [], rfl, rfl, Lib.hid ⟨by simp, by simp⟩⟩
  case round =>
    obtain ⟨v, l, rfl, rfl, HI⟩ := hrel
    obtain ⟨i1, i2⟩ := HI.out
    by_cases h9 : 9 < v
    · have hz : ((9 : Int) < (v : Int)) = True := by simp; omega
      have hb : l.length < 1000000000000000 := by omega
      have hv : v < 1000000000000000 := by omega
      have hcut := cut10 (v % 10) (Nat.mod_lt _ (by omega))
      rw [show ((v % 10 : Nat) : Int) = (v : Int) % 10 by omega] at hcut
      have hdec : Lib.decDigits v = Lib.decDigits (v / 10) ++ [UInt8.ofNat (48 + v % 10)] := by rw [Lib.decDigits, dif_neg (by omega)]
      have L := Lib.hid (show v / 10 + (UInt8.ofNat (48 + v % 10) :: l).length ≤ u ∧ Lib.decDigits (v / 10) ++ UInt8.ofNat (48 + v % 10) :: l = Lib.decDigits u from ⟨by simp; omega, by rw [← i2, hdec]; simp⟩)
      clear hdec
      generalize UInt8.ofNat (48 + v % 10) = c at *
      clear HI i1 i2
      go_wp2
      exact ⟨⟨v / 10, c :: l, rfl, congrArg Value.string (by apply ByteArray.ext; simp), L⟩, by simp [RowKit.intOf]; omega⟩
    · have hz : ((9 : Int) < (v : Int)) = False := by simp; omega
      have hb : l.length < 1000000000000000 := by omega
      have hcut := cut10 v (by omega)
      have L := Lib.hid (show UInt8.ofNat (48 + v) :: l = Lib.decDigits u by rw [← i2, Lib.decDigits, dif_pos (by omega)]; rfl)
      generalize UInt8.ofNat (48 + v) = c at *
      clear HI i1 i2
      go_wp2
      go_ret
      exact ⟨congrArg (fun x => Ending.returned (Value.string x)) (by rw [← L.out]; apply ByteArray.ext; simp), rfl⟩

theorem cut16 (k : Nat) (hk : k < 16) (w : World) : (Instr.sliceAt 9 (.string ⟨#[48, 49, 50, 51, 52, 53, 54, 55, 56, 57, 97, 98, 99, 100, 101, 102]⟩) (some (.int .i64 (k : Int))) (some (.int .i64 ((k : Int) + 1))) none).run Tryz.prog w = .ok (.string ⟨[hexd k].toArray⟩) w := by
  have h : ∀ k, k < 16 → (⟨#[48, 49, 50, 51, 52, 53, 54, 55, 56, 57, 97, 98, 99, 100, 101, 102]⟩ : ByteArray).extract k (k + 1) = ⟨[hexd k].toArray⟩ := by decide +kernel
  have hs : (⟨#[48, 49, 50, 51, 52, 53, 54, 55, 56, 57, 97, 98, 99, 100, 101, 102]⟩ : ByteArray).size = 16 := rfl
  generalize (⟨#[48, 49, 50, 51, 52, 53, 54, 55, 56, 57, 97, 98, 99, 100, 101, 102]⟩ : ByteArray) = D at *
  rw [run_sliceAt_string w 9 _ _ _ _ Tryz.underlying9, ← h k hk]
  go_simp
  rw [if_pos ⟨by omega, by omega⟩, if_pos (by omega)]

/-- So many digits of a word. -/
def hexN : Nat → Nat → List UInt8
  | 0, _ => []
  | k + 1, b => hexN k (b / 16) ++ [hexd (b % 16)]
theorem hexN_length (k b : Nat) : (hexN k b).length = k := by
  induction k generalizing b with
  | zero => rfl
  | succ k ih => rw [hexN, List.length_append, ih]; rfl

end Go.Proofs.YticflknfkaoejaaGreatDoor
