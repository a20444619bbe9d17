/- Bytes as words: Need, shift, Pack. -/
import Derived.Test.YtdmfooejjpppkaaB9
namespace Go.Proofs.Ytdmfooejjpppkaa
open Go.RowKit

/-- The j-th word of the first n bytes. -/
def wordN (b : Nat → Nat) : Nat → Nat → Nat
  | 0, _ => 0
  | i + 1, j => if i / 8 = j then wordN b i j ||| b i * 2 ^ (8 * (i % 8)) else wordN b i j
theorem word_succ (b : Nat → Nat) (i j : Nat) : wordN b (i + 1) j = if i / 8 = j then wordN b i j ||| b i * 2 ^ (8 * (i % 8)) else wordN b i j := rfl
theorem word_bit (b : Nat → Nat) (n j m : Nat) (hb : ∀ i, i < n → b i < 256) : (wordN b n j).testBit m = (decide (m < 64 ∧ 8 * j + m / 8 < n) && (b (8 * j + m / 8)).testBit (m % 8)) := by
  induction n with
  | zero => simp [wordN]
  | succ i ih =>
    have ih := ih fun k hk => hb k (by omega)
    unfold wordN
    by_cases hj : i / 8 = j
    · rw [if_pos hj, Nat.testBit_or, ih, Nat.testBit_mul_two_pow]
      by_cases hm : m < 64 ∧ 8 * j + m / 8 = i
      · have e1 : m - 8 * (i % 8) = m % 8 := by omega
        have e2 : 8 * (i % 8) ≤ m := by omega
        have e3 : ¬ (m < 64 ∧ 8 * j + m / 8 < i) := by omega
        have e4 : m < 64 ∧ 8 * j + m / 8 < i + 1 := by omega
        rw [decide_eq_false e3, decide_eq_true e4, decide_eq_true e2, e1, hm.2]; simp
      · have h0 : (decide (8 * (i % 8) ≤ m) && (b i).testBit (m - 8 * (i % 8))) = false := by
          by_cases e2 : 8 * (i % 8) ≤ m
          · have : 8 ≤ m - 8 * (i % 8) := by omega
            rw [Nat.testBit_lt_two_pow (Nat.lt_of_lt_of_le (hb i (by omega)) (Nat.pow_le_pow_right (n := 2) (by decide) this))]; simp
          · simp [e2]
        rw [h0, Bool.or_false]
        have e3 : (m < 64 ∧ 8 * j + m / 8 < i) ↔ (m < 64 ∧ 8 * j + m / 8 < i + 1) := by omega
        rw [decide_eq_decide.2 e3]
    · rw [if_neg hj, ih]
      have e3 : (m < 64 ∧ 8 * j + m / 8 < i) ↔ (m < 64 ∧ 8 * j + m / 8 < i + 1) := by omega
      rw [decide_eq_decide.2 e3]
theorem word_lt (b : Nat → Nat) (n j : Nat) (hb : ∀ i, i < n → b i < 256) : wordN b n j < 18446744073709551616 :=
  Nat.lt_pow_two_of_testBit (n := 64) _ fun i hi => by rw [word_bit b n j i hb, decide_eq_false (by omega)]; rfl
theorem word_far (b : Nat → Nat) (n j : Nat) (h : n ≤ 8 * j) : wordN b n j = 0 := by
  induction n with
  | zero => rfl
  | succ i ih => unfold wordN; rw [if_neg (by omega)]; exact ih (by omega)
/-- How many words. -/
def need (n : Nat) : Nat := 1 + (n + 7) / 8
/-- The words of n bytes. -/
def packF (b : Nat → Nat) (n j : Nat) : Nat := if j = 0 then n else wordN b n (j - 1)
/-- The words of a row of n bytes of which i are laid. -/
def packI (b : Nat → Nat) (n i j : Nat) : Nat := if j = 0 then n else wordN b i (j - 1)

theorem shift_ok (i : Nat) (hi : i < 1000000) (w : World) : Calls Try.prog 16 #[.int .i64 i] w fun e w' => e = .returned (.int .i64 ((8 * (i % 8) : Nat) : Int)) ∧ w' = w := by
  go_enter Try.func16, Try.ntmps16
  go_wp2
  go_ret
  refine ⟨?_, rfl⟩
  show Ending.returned (.int .i64 (8 * ((i : Int) % 8))) = _
  rw [show (8 * ((i : Int) % 8)) = ((8 * (i % 8) : Nat) : Int) by omega]
theorem need_ok (n : Nat) (hn : n < 1000000) (w : World) : Calls Try.prog 15 #[.int .i64 n] w fun e w' => e = .returned (.int .i64 (need n : Nat)) ∧ w' = w := by
  by_cases h : n = 0
  · subst h
    go_enter Try.func15, Try.ntmps15
    go_wp2
    go_ret
    exact ⟨rfl, rfl⟩
  · have h' : ¬ (n : Int) < 1 := by omega
    go_enter Try.func15, Try.ntmps15
    go_wp2
    go_ret
    refine ⟨?_, rfl⟩
    show Ending.returned (.int .i64 (2 + ((n : Int) - 1) / 8)) = _
    rw [show (2 + ((n : Int) - 1) / 8) = (need n : Nat) by unfold need; omega]

theorem infoU : (Try.prog.info? 26).map (fun i => (i.zero, i.size, i.bytes)) = some (some (.int .u64 0), 1, 8) := by kernel_rfl
theorem infoB : (Try.prog.info? 5).map (fun i => (i.zero, i.size, i.bytes)) = some (some (.int .u8 0), 1, 1) := by kernel_rfl
theorem make_mem (k : IntKind) (w : World) (n : Nat) (t : TypeId) : Mem k w w.heap.size n (fun _ => 0) (w.alloc (.cells (madeCells #[.int k 0] n) t)) := by
  have h := World.rowIs_made w (.int k 0) n t
  exact ⟨fun i hi => h.cell hi, h.frozen, (Below.refl _ w).alloc (Nat.le_refl _) _, Nat.le_refl _⟩
theorem make_u64s (n : Nat) (hn : n ≤ 1000000) (w : World) : ∃ w', (Instr.makeSlice 23 (.int .i64 (n : Int)) (.int .i64 (n : Int))).run Try.prog w = .ok (.slice (some ⟨w.heap.size, 0, none⟩) n n) w' ∧ Mem .u64 w w.heap.size n (fun _ => 0) w' :=
  ⟨_, run_make_row' 23 26 (.int .u64 0) 8 Try.underlying23 infoU rfl .i64 .i64 n (by omega) (by omega) w, make_mem _ _ _ _⟩
theorem make_bytes (n : Nat) (hn : n ≤ 1000000) (w : World) : ∃ w', (Instr.makeSlice 22 (.int .i64 (n : Int)) (.int .i64 (n : Int))).run Try.prog w = .ok (.slice (some ⟨w.heap.size, 0, none⟩) n n) w' ∧ Mem .u8 w w.heap.size n (fun _ => 0) w' :=
  ⟨_, run_make_row' 22 5 (.int .u8 0) 1 Try.underlying22 infoB rfl .i64 .i64 n (by omega) (by omega) w, make_mem _ _ _ _⟩
theorem store_u64 (w : World) (a : Addr) (x : Int) (m : Mode) : (store a (.int .u64 x) m).run Try.prog w = stored Try.prog w a (.int .u64 x) m := run_store Try.prog w a _ m rfl

theorem shl_nat (y s : Nat) (hy : y < 256) (hs : s ≤ 56) : y * 2 ^ s < 18446744073709551616 := by
  have h : 2 ^ s ≤ 2 ^ 56 := Nat.pow_le_pow_right (by decide) hs
  have := Nat.mul_le_mul (show y ≤ 255 by omega) h
  omega
theorem shl_wrap (y s : Nat) (hy : y < 256) (hs : s ≤ 56) : IntKind.u64.wrap ((y : Int) * 2 ^ s) = ((y * 2 ^ s : Nat) : Int) := by
  have h := shl_nat y s hy hs
  have e : (y : Int) * 2 ^ s = ((y * 2 ^ s : Nat) : Int) := by rw [Int.natCast_mul, Int.natCast_pow]; rfl
  rw [e, IntKind.wrap_u64]
  omega
theorem or_shl (q y s : Nat) (hq : q < 18446744073709551616) (hy : y < 256) (hs : s ≤ 56) : bits .or .u64 (q : Int) (IntKind.u64.wrap ((y : Int) * 2 ^ s)) = ((q ||| y * 2 ^ s : Nat) : Int) := by
  rw [shl_wrap y s hy hs, u64_or_nat _ _ hq (shl_nat y s hy hs)]

set_option maxRecDepth 100000 in
set_option maxHeartbeats 2000000 in
theorem pack_ok (a : Option Addr) (len cap : Nat) (b : Nat → Nat) (w : World) (hN : Nats .u8 w a len b) (hb : ∀ i, i < len → b i < 256) (hl : len ≤ 100000) :
    Calls Try.prog 6 #[.slice a len cap] w fun e w' => e = .returned (.slice (some ⟨w.heap.size, 0, none⟩) (need len) (need len)) ∧ Mem .u64 w w.heap.size (need len) (packF b len) w' := by
  have HN := hide hN
  have HB := hide hb
  have KS := hide shift_ok
  have KN := hide (need_ok len (by omega) w)
  obtain ⟨w1, hm, hM⟩ := make_u64s (need len) (by unfold need; omega) w
  have HM := hide hM
  have c0 := hM.cell 0 (by unfold need; omega)
  have z0 := hM.fz 0
  have h0 : 0 < need len := by unfold need; omega
  have HNE := hide (show need len = 1 + (len + 7) / 8 from rfl)
  have HF := hide (show ∀ j, packI b len 0 j = if j = 0 then len else 0 from fun j => rfl)
  clear hN hb hM
  generalize need len = m at *
  go_enter Try.func6, Try.ntmps6
  go_wp2_with fail
  refine (unhide KN).mono ?_
  rintro e w' ⟨rfl, h⟩; rw [h]; clear h w'
  go_wp2_with fail
  go_loopw [17] (fun vi wr => ∃ k : Nat, vi = .int .i64 k ∧ Hid (k ≤ len ∧ Mem .u64 w w.heap.size m (packI b len k) wr)) (fun vi wr => len - (RowKit.intOf vi).toNat)
  case atStart => exact ⟨0, rfl, hide ⟨Nat.zero_le _, ((unhide HM).set 0 len h0).ext fun i _ => (unhide HF i).symm⟩⟩
  case round =>
    obtain ⟨k, rfl, HI⟩ := hrel
    obtain ⟨hk, hM⟩ := unhide HI
    by_cases hlt : k < len
    · have hlt' : (k : Int) < len := by omega
      obtain ⟨xb, xo, rfl, c⟩ := (unhide HN).on hM.bel k hlt
      have hby := unhide HB k hlt
      have hp : 1 + k / 8 < m := by have := unhide HNE; omega
      have c1 := hM.cell (1 + k / 8) hp
      have z1 := hM.fz (1 + k / 8)
      have KS1 := hide (unhide KS k (by omega))
      clear HI
      have HM1 := hide hM
      clear hM
      have hq : packI b len k (1 + k / 8) < 18446744073709551616 := by
        unfold packI
        rw [if_neg (by omega)]
        exact word_lt _ _ _ fun i hi => unhide HB i (by omega)
      have HV := hide (show packI b len k (1 + k / 8) = wordN b k (k / 8) by unfold packI; rw [if_neg (by omega)]; simp)
      generalize hpq : packI b len k (1 + k / 8) = q at *
      clear hpq
      generalize hbk : b k = y at *
      have HBK := hide hbk
      clear hbk
      go_wp2_with fail
      refine region_tailP 13 (by kernel_rfl) (by kernel_rfl) ?_
      simp only [List.take, List.drop]
      repeat (go_big_quiet_step (first | (go_at_call 16; exact Calls.quiet_of_same (unhide KS1 _))))
      refine wpQuiet_nil ?_
      rintro _ ⟨nq, rfl⟩
      rw [or_shl q y (8 * (k % 8)) hq hby (by omega)]
      have HNX := hide (show ∀ i, (if i = 1 + k / 8 then (q ||| y * 2 ^ (8 * (k % 8))) else packI b len k i) = packI b len (k + 1) i by
        intro i
        have e1 := unhide HV; have e2 := unhide HBK
        unfold packI
        by_cases hi : i = 0
        · subst hi; rw [if_neg (by omega)]; simp
        · rw [if_neg hi, if_neg hi, word_succ]
          by_cases h2 : i = 1 + k / 8
          · rw [if_pos h2, if_pos (by omega), h2, e1, e2]; simp
          · rw [if_neg h2, if_neg (by omega)])
      have HM2 := hide (((unhide HM1).drewN nq).set (1 + k / 8) (q ||| y * 2 ^ (8 * (k % 8))) hp)
      generalize (q ||| y * 2 ^ (8 * (k % 8))) = v at *
      generalize hwd : wr.drewN nq = wd at *
      have c2 : wd.cell? ⟨w.heap.size, 1 + k / 8, none⟩ = some (.int .u64 q) := by rw [← hwd]; exact c1
      have z2 : wd.frozen? ⟨w.heap.size, 1 + k / 8, none⟩ = false := by rw [← hwd]; exact z1
      clear c1 z1 c hwd hm
      go_wp2
      go_roundw
      case rel => exact ⟨k + 1, by go_num, hide ⟨by omega, (unhide HM2).ext fun i _ => unhide HNX i⟩⟩
      case measure => simp [RowKit.intOf]; omega
    · have hlt' : ¬ (k : Int) < len := by omega
      obtain rfl : k = len := by omega
      clear HI
      have HM1 := hide hM
      clear hM
      go_wp2
      go_ret
      exact ⟨rfl, unhide HM1⟩
end Go.Proofs.Ytdmfooejjpppkaa
