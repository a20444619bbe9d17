/- HashPrefixes walked. -/
import Derived.Test.YtlignichjgggcaaHash4
import Derived.BigQuiet
import Derived.Below
namespace Go.Proofs.Ytlignichjgggcaa
open Go.RowKit

theorem below_drew (w : World) (n : Nat) : Below w.heap.size w (w.drewN n) := ⟨rfl, rfl, rfl, Nat.le_refl _, fun _ _ => rfl⟩
theorem below_step {a b c : World} (h : Below a.heap.size a b) (k : Below b.heap.size b c) : Below a.heap.size a c := h.trans (k.mono h.size)

theorem prefixes_low (h : Nat) (n : Int) (hh : h < 18446744073709551616) (hn : n < 1) (w : World) : Calls Try.prog 7 #[.int .u64 h, .int .i64 n] w fun e w' => e = .returned (.bool true) ∧ w' = w := by
  have KP := hide (prefix_ok h n hh w)
  rw [show preN h n = 0 from if_pos hn] at KP
  have KA := hide (awake_ok w)
  rcases (show n < 0 ∨ n = 0 by omega) with h0 | h0
  rotate_left
  focus subst h0
  all_goals
    go_enter Try.func7, Try.ntmps7
    go_wp2_with fail
    refine (unhide KP).mono ?_
    rintro e w' ⟨rfl, h⟩; rw [h]; clear h w'
    go_wp2_with fail
    go_loop [7] (fun vi => vi = .int .i64 0) (fun _ => 0)
    case atStart => rfl
    case round =>
      obtain rfl := hrel
      go_wp2_with fail
      refine (unhide KA).mono ?_
      rintro e w' ⟨rfl, h⟩; rw [h]; clear h w'
      go_wp2
      go_ret
      exact ⟨rfl, rfl⟩

theorem and1_i64 (p : Nat) : bits .and .i64 (p : Int) 1 = ((p % 2 : Nat) : Int) := by
  have h1 : (BitVec.ofInt 64 (p : Int) &&& BitVec.ofInt 64 1).toNat = p % 2 := by
    rw [BitVec.toNat_and, show (BitVec.ofInt 64 1).toNat = 2 ^ 1 - 1 by decide, Nat.and_two_pow_sub_one_eq_mod, BitVec.toNat_ofInt]
    omega
  show IntKind.i64.wrap ((BitVec.ofInt 64 (p : Int) &&& BitVec.ofInt 64 1).toNat : Int) = _
  rw [h1]
  unfold IntKind.wrap
  have : p % 2 < 2 := Nat.mod_lt _ (by decide)
  generalize p % 2 = b at *
  simp [IntKind.signed, IntKind.bits]
  omega
theorem and1_u64 (p : Nat) (hp : p < 18446744073709551616) : bits .and .u64 (p : Int) 1 = ((p % 2 : Nat) : Int) := by
  rw [show (1 : Int) = ((1 : Nat) : Int) from rfl, u64_and_nat p 1 hp (by decide), Nat.and_two_pow_sub_one_eq_mod p 1]

theorem prefixes_high (h : Nat) (n : Int) (hh : h < 18446744073709551616) (hn : 1 ≤ n) (w : World) : Calls Try.prog 7 #[.int .u64 h, .int .i64 n] w fun e w' => e = .returned (.bool true) ∧ Below w.heap.size w w' := by
  have KP := hide (prefix_ok h n hh w)
  have KA := hide awake_ok
  obtain ⟨m, hm⟩ : ∃ m : Nat, (m : Int) = min n 16 := ⟨(min n 16).toNat, by omega⟩
  have hm1 : 1 ≤ m := by omega
  have hm2 : m ≤ 16 := by omega
  rw [show preN h n = h / 2 ^ (64 - m) by unfold preN; rw [if_neg (by omega), show (min n 16).toNat = m by omega]] at KP
  have hpl := pre_lt h m hh hm2
  obtain ⟨p, hp⟩ : ∃ p, p = h / 2 ^ (64 - m) := ⟨_, rfl⟩
  rw [← hp] at KP hpl
  have HP := hide hp
  clear hp
  have h0 : ¬ n < 0 := by omega
  rcases (show n ≤ 16 ∨ 16 < n by omega) with h1 | h1
  focus
    obtain rfl : n = (m : Int) := by omega
    have h2 : ¬ (16 : Int) < m := by omega
    clear hm
    go_enter Try.func7, Try.ntmps7
    go_wp2_with fail
    refine (unhide KP).mono ?_
    rintro e w' ⟨rfl, h⟩; rw [h]; clear h w' KP
    go_wp2_with fail
    clear h2 h0 h1 hn
  rotate_left
  focus
    have HM := hide (show (m : Int) = 16 by omega)
    clear hm
    go_enter Try.func7, Try.ntmps7
    go_wp2_with fail
    refine (unhide KP).mono ?_
    rintro e w' ⟨rfl, h⟩; rw [h]; clear h w' KP
    go_wp2_with fail
    rw [← unhide HM]
    clear h0 h1 HM
  all_goals
    go_loopw [7] (fun vi wr => ∃ i : Nat, vi = .int .i64 i ∧ Hid (i ≤ m) ∧ Hid (Below w.heap.size w wr)) (fun vi _ => m - (RowKit.intOf vi).toNat)
    case atStart => exact ⟨0, rfl, hide (Nat.zero_le _), hide (Below.refl _ _)⟩
    case round =>
      obtain ⟨i, rfl, HI, HB⟩ := hrel
      have hi := unhide HI
      by_cases hlt : i < m
      · have hlt' : (i : Int) < m := by omega
        obtain ⟨q, hq⟩ : ∃ q : Nat, (m : Int) - 1 - (i : Int) = (q : Int) := ⟨m - 1 - i, by omega⟩
        obtain ⟨r, hr⟩ : ∃ r : Nat, 63 - (i : Int) = (r : Int) := ⟨63 - i, by omega⟩
        have h1 : h / 2 ^ r = p / 2 ^ q := by
          rw [unhide HP, Nat.div_div_eq_div_mul, ← Nat.pow_add, show 64 - m + q = r by omega]
        have EQ := hide (show (bits .and .i64 ((p : Int) / 2 ^ q) 1 != wrap64 (bits .and .u64 ((h : Int) / 2 ^ r) 1)) = false by
          have l1 : p / 2 ^ q < 65536 := Nat.lt_of_le_of_lt (Nat.div_le_self _ _) hpl
          have l2 : p / 2 ^ q % 2 < 2 := Nat.mod_lt _ (by decide)
          rw [shr_nat p q, shr_nat h r, h1, and1_i64 (p / 2 ^ q), and1_u64 (p / 2 ^ q) (by omega)]
          generalize p / 2 ^ q % 2 = b at *
          rw [show wrap64 (b : Int) = b by unfold wrap64; omega]
          simp)
        have hq0 : (0 : Int) ≤ q := by omega
        have hr0 : (0 : Int) ≤ r := by omega
        have hr1 : r < 64 := by omega
        have hq1 : q < 64 := by omega
        clear h1
        go_wp2_with fail
        go_quiet (fail)
        rw [unhide EQ]
        go_wp2
        go_roundw
        case rel => exact ⟨i + 1, by go_num, hide hlt, hide (below_step (unhide HB) (below_drew _ _))⟩
        case measure => simp [RowKit.intOf]; omega
      · have hlt' : ¬ (i : Int) < m := by omega
        obtain rfl : i = m := by omega
        obtain ⟨k, hk⟩ : ∃ k : Nat, (i : Int) - 1 = (k : Int) := ⟨i - 1, by omega⟩
        have h1 : p < 2 ^ i := by
          rw [unhide HP]
          refine Nat.div_lt_of_lt_mul ?_
          rw [← Nat.pow_add, show 64 - i + i = 64 by omega]
          exact hh
        have h2 : preN h k = p / 2 := by
          unfold preN
          by_cases e : (k : Int) < 1
          · rw [if_pos e]
            obtain rfl : i = 1 := by omega
            omega
          · rw [if_neg e, unhide HP, Nat.div_div_eq_div_mul, show (min (k : Int) 16).toNat = i - 1 by omega, show 64 - (i - 1) = 64 - i + 1 by omega, Nat.pow_succ]
        have KQ := hide (prefix_ok h k hh wr)
        rw [h2] at KQ
        have h4 : (2 : Nat) ^ i ≤ 2 ^ 16 := Nat.pow_le_pow_right (by decide) hm2
        have h3 : (p : Int) < wrap64 (2 ^ i) := by
          rw [show (2 : Int) ^ i = ((2 ^ i : Nat) : Int) by rw [Int.natCast_pow]; rfl]
          unfold wrap64
          omega
        have h5 : ¬ i = 0 := by omega
        clear h1 h2 h4 HI hi hlt HP
        go_wp2_with fail
        refine (unhide KQ).mono ?_
        rintro e w' ⟨rfl, h⟩; rw [h]; clear h w'
        go_wp2_with fail
        refine (unhide KA _).mono ?_
        rintro e w' ⟨rfl, h⟩; rw [h]; clear h w'
        go_wp2
        go_ret
        exact ⟨rfl, unhide HB⟩
theorem prefixes_ok (h : Nat) (n : Int) (hh : h < 18446744073709551616) (w : World) : Calls Try.prog 7 #[.int .u64 h, .int .i64 n] w fun e w' => e = .returned (.bool true) ∧ Below w.heap.size w w' := by
  by_cases hn : n < 1
  · exact (prefixes_low h n hh hn w).mono fun _ _ ⟨a, b⟩ => ⟨a, by rw [b]; exact Below.refl _ _⟩
  · exact prefixes_high h n hh (by omega) w
end Go.Proofs.Ytlignichjgggcaa
