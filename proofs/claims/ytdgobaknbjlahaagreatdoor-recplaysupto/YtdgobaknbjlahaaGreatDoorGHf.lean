/- The heap's plain functions: groups, level, place, All, blocks; the lowest bit. -/
import Derived.Test.YtdgobaknbjlahaaGreatDoorNvA
import Derived.Test.YtdgobaknbjlahaaGreatDoorShelf
import Derived.Test.YtdgobaknbjlahaaGreatDoorGWrd
import Derived.Lib.TrailingZeros
import Derived.Laws.Bits64b
namespace Go.Proofs.YtdgobaknbjlahaaGreatDoor
open Go.RowKit

set_option maxHeartbeats 400000 in
theorem h_groups (n s : Int) (h0 : 0 ≤ n) (h1 : n ≤ 65536) (h2 : 1 ≤ s) (h3 : s ≤ 64) (w : World) : Calls Tryz.prog 103 #[.int .i64 n, .int .i64 s] w fun e w' => e = .returned (.int .i64 ((n + s - 1) / s)) ∧ w' = w := by
  have hs : (s == 0) = false := by simp; omega
  have hq : Int.tdiv (n + s - 1) s = (n + s - 1) / s := Int.tdiv_eq_ediv_of_nonneg (by omega)
  have b1 : 0 ≤ (n + s - 1) / s := Int.ediv_nonneg (by omega) (by omega)
  have b2 : (n + s - 1) / s ≤ 70000 := Int.le_trans (Int.ediv_le_self _ (by omega)) (by omega)
  go_enter Tryz.func103, Tryz.ntmps103
  go_wp2
  go_ret
  exact ⟨rfl, rfl⟩

set_option maxHeartbeats 400000 in
theorem h_blocks {nu : Nat} (hb : Nat) (k : Nat) (hk : k < 7) (w : World) (_hn : nu ≤ 8000) (c1 : w.cell? ⟨hb, 1, none⟩ = some (.int .i64 nu)) : Calls Tryz.prog 105 #[ptr hb, .int .i64 k] w fun e w' => e = .returned (.int .i64 (nu / 2 ^ k : Nat)) ∧ w' = w := by
  have e1 : ((nu / 2 ^ k : Nat) : Int) = nu / 2 ^ k := by simp
  rw [e1]
  go_enter Tryz.func105, Tryz.ntmps105
  go_wp2
  go_ret
  exact ⟨rfl, rfl⟩

set_option maxHeartbeats 400000 in
theorem h_place {F : Nat} (hb : Nat) (u : Nat) (hu : u ≤ 8000) (w : World) (hF : F ≤ 3000) (c1 : w.cell? ⟨hb, 10, none⟩ = some (.int .i64 F)) : Calls Tryz.prog 43 #[ptr hb, .int .i64 u] w fun e w' => e = .returned (.int .i64 (F + u * 8)) ∧ w' = w := by
  go_enter Tryz.func43, Tryz.ntmps43
  go_wp2
  go_ret
  exact ⟨rfl, rfl⟩

set_option maxHeartbeats 400000 in
theorem h_all (hb : Nat) (u : Nat) (hu : u ≤ 8000) (w : World) (c1 : w.cell? ⟨hb, 1, none⟩ = some (.int .i64 u)) : Calls Tryz.prog 85 #[ptr hb] w fun e w' => e = .returned (.int .i64 (u * 8)) ∧ w' = w := by
  go_enter Tryz.func85, Tryz.ntmps85
  go_wp2
  go_ret
  exact ⟨rfl, rfl⟩

theorem lv_bit : ∀ x : Fin 512, Lib.bitLen (x.val / 8) = lv (x.val + 1) := by decide +kernel

set_option maxHeartbeats 400000 in
theorem h_level (x : Nat) (h1 : 1 ≤ x) (h2 : x ≤ 512) (w : World) : Calls Tryz.prog 71 #[.int .i64 x] w fun e w' => e = .returned (.int .i64 (lv x)) ∧ w' = w := by
  have K : Calls Tryz.prog 86 #[.int .u64 (((x : Int) - 1) / 8)] w _ := Tryz.bits_Len _ w (by omega) (by omega)
  have hl := lv_bit ⟨x - 1, by omega⟩
  have e1 : (((x : Int) - 1) / 8).toNat = (x - 1) / 8 := by omega
  have e2 : x - 1 + 1 = x := by omega
  simp only [e2] at hl
  rw [e1, hl] at K
  go_enter Tryz.func71, Tryz.ntmps71
  go_wp2_with (go_at_call 86; refine K.mono ?_; rintro e w' ⟨rfl, hh⟩; replace hh := hh.symm; subst hh)
  go_ret
  exact ⟨rfl, rfl⟩

theorem tz_key (x a : Nat) (hx : x < 18446744073709551616) (hx0 : x ≠ 0) (hlow : x &&& (18446744073709551616 - x) = a) :
    IntKind.u64.wrap (bits BinOp.and IntKind.u64 (x : Int) (IntKind.u64.wrap (-(x : Int))) * 285870213051353865) / 288230376151711744 = ((a * 285870213051353865 % 18446744073709551616 / 288230376151711744 : Nat) : Int) := by
  have e1 : IntKind.u64.wrap (-(x : Int)) = ((18446744073709551616 - x : Nat) : Int) := by rw [IntKind.wrap_u64]; omega
  rw [e1, u64_and_nat x _ hx (by omega), hlow, IntKind.wrap_u64]
  omega

set_option maxHeartbeats 1000000 in
theorem tz_core (x k idx : Nat) (w : World) (hx0 : ((x : Int) == 0) = false)
    (key : IntKind.u64.wrap (bits BinOp.and IntKind.u64 (x : Int) (IntKind.u64.wrap (-(x : Int))) * 285870213051353865) / 288230376151711744 = (idx : Int))
    (hi : idx < 64) (hk : k < 64) (hcell : w.cell? ⟨0, idx, none⟩ = some (.int .u8 k)) :
    Calls Tryz.prog 106 #[.int .u64 x] w fun e w' => e = .returned (.int .i64 k) ∧ w' = w := by
  go_enter Tryz.func106, Tryz.ntmps106
  go_wp2_with (simp only [key])
  go_ret
  exact ⟨rfl, rfl⟩

/-- The table of the lowest bits, where it was laid. -/
def TabL (w : World) : Prop := ∀ j, j < 64 → w.cell? ⟨0, j, none⟩ = some (.int .u8 (Lib.deBruijn64tab.getD j 0 : Nat))

theorem tz_ok (x : Nat) (hx : x < 18446744073709551616) (hx0 : x ≠ 0) (w : World) (hT : TabL w) :
    Calls Tryz.prog 106 #[.int .u64 x] w fun e w' => e = .returned (.int .i64 (Lib.ctz 64 x)) ∧ w' = w := by
  obtain ⟨hlow, hk⟩ := Lib.lowest_bit 64 x hx0 hx
  obtain ⟨hi, htab⟩ := Lib.deBruijn64_at _ hk
  have hcell := hT _ hi
  rw [htab] at hcell
  exact tz_core x _ _ w (by simp; omega) (tz_key x _ hx hx0 hlow) hi hk hcell

/-- The lowest bit is set, and none below it. -/
theorem ctz_bit (x : Nat) (hx : x < 18446744073709551616) (hx0 : x ≠ 0) : x.testBit (Lib.ctz 64 x) = true ∧ Lib.ctz 64 x < 64 := by
  obtain ⟨m, h1, h2⟩ := Lib.ctzFrom_spec 64 x (by omega) hx
  have e : Lib.ctz 64 x = Lib.ctzFrom 64 x := if_neg hx0
  rw [e]
  refine ⟨?_, h2⟩
  generalize Lib.ctzFrom 64 x = c at *
  rw [h1, Nat.mul_comm, Nat.testBit_mul_two_pow]
  simp
end Go.Proofs.YtdgobaknbjlahaaGreatDoor
