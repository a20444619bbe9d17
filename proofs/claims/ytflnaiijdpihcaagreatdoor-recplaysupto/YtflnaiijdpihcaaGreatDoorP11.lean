/- Joined: Pk Ow Up Ra Rb Rc. -/
import Derived.Deep.RegionHeld
import Derived.Maps.AppendAt
import Derived.Test.YtflnaiijdpihcaaGreatDoorP10
namespace Go.Proofs.YtflnaiijdpihcaaGreatDoor
open Go.RowKit

section
def wordN (b : Nat → Nat) : Nat → Nat → Nat
  | 0, _ => 0
  | i + 1, j => if i / 8 = j then wordN b i j ||| b i * 2 ^ (8 * (i % 8)) else wordN b i j
theorem word_succ (b : Nat → Nat) (i j : Nat) : wordN b (i + 1) j = if i / 8 = j then wordN b i j ||| b i * 2 ^ (8 * (i % 8)) else wordN b i j := rfl
theorem word_bit (b : Nat → Nat) (n j m : Nat) (hb : ∀ i, i < n → b i < 256) : (wordN b n j).testBit m = (decide (m < 64 ∧ 8 * j + m / 8 < n) && (b (8 * j + m / 8)).testBit (m % 8)) := by
  induction n with
  | zero => simp [wordN]
  | succ i ih =>
    have ih := ih fun k hk => hb k (by omega)
    unfold wordN
    by_cases hj : i / 8 = j
    · rw [if_pos hj, Nat.testBit_or, ih, Nat.testBit_mul_two_pow]
      by_cases hm : m < 64 ∧ 8 * j + m / 8 = i
      · have e1 : m - 8 * (i % 8) = m % 8 := by omega
        have e2 : 8 * (i % 8) ≤ m := by omega
        have e3 : ¬ (m < 64 ∧ 8 * j + m / 8 < i) := by omega
        have e4 : m < 64 ∧ 8 * j + m / 8 < i + 1 := by omega
        rw [decide_eq_false e3, decide_eq_true e4, decide_eq_true e2, e1, hm.2]; simp
      · have h0 : (decide (8 * (i % 8) ≤ m) && (b i).testBit (m - 8 * (i % 8))) = false := by
          by_cases e2 : 8 * (i % 8) ≤ m
          · have : 8 ≤ m - 8 * (i % 8) := by omega
            rw [Nat.testBit_lt_two_pow (Nat.lt_of_lt_of_le (hb i (by omega)) (Nat.pow_le_pow_right (n := 2) (by decide) this))]; simp
          · simp [e2]
        rw [h0, Bool.or_false]
        have e3 : (m < 64 ∧ 8 * j + m / 8 < i) ↔ (m < 64 ∧ 8 * j + m / 8 < i + 1) := by omega
        rw [decide_eq_decide.2 e3]
    · rw [if_neg hj, ih]
      have e3 : (m < 64 ∧ 8 * j + m / 8 < i) ↔ (m < 64 ∧ 8 * j + m / 8 < i + 1) := by omega
      rw [decide_eq_decide.2 e3]
theorem word_lt (b : Nat → Nat) (n j : Nat) (hb : ∀ i, i < n → b i < 256) : wordN b n j < 18446744073709551616 :=
  Nat.lt_pow_two_of_testBit (n := 64) _ fun i hi => by rw [word_bit b n j i hb, decide_eq_false (by omega)]; rfl
def need (n : Nat) : Nat := 1 + (n + 7) / 8
def packF (b : Nat → Nat) (n j : Nat) : Nat := if j = 0 then n else wordN b n (j - 1)
def packI (b : Nat → Nat) (n i j : Nat) : Nat := if j = 0 then n else wordN b i (j - 1)

theorem shift_ok (i : Nat) (hi : i < 1000000) (w : World) : Calls Tryz.prog 111 #[.int .i64 i] w fun e w' => e = .returned (.int .i64 ((8 * (i % 8) : Nat) : Int)) ∧ w' = w := by
  go_enter Tryz.func111, Tryz.ntmps111
  go_wp2
  go_ret
  refine ⟨?_, rfl⟩
  show Ending.returned (.int .i64 (8 * ((i : Int) % 8))) = _
  rw [show (8 * ((i : Int) % 8)) = ((8 * (i % 8) : Nat) : Int) by omega]
theorem wneed_ok (n : Nat) (hn : n < 1000000) (w : World) : Calls Tryz.prog 110 #[.int .i64 n] w fun e w' => e = .returned (.int .i64 (need n : Nat)) ∧ w' = w := by
  by_cases h : n = 0
  · subst h
    go_enter Tryz.func110, Tryz.ntmps110
    go_wp2
    go_ret
    exact ⟨rfl, rfl⟩
  · have h' : ¬ (n : Int) < 1 := by omega
    go_enter Tryz.func110, Tryz.ntmps110
    go_wp2
    go_ret
    refine ⟨?_, rfl⟩
    show Ending.returned (.int .i64 (2 + ((n : Int) - 1) / 8)) = _
    rw [show (2 + ((n : Int) - 1) / 8) = (need n : Nat) by unfold need; omega]

theorem infoU : (Tryz.prog.info? 50).map (fun i => (i.zero, i.size, i.bytes)) = some (some (.int .u64 0), 1, 8) := by kernel_rfl
theorem infoB : (Tryz.prog.info? 5).map (fun i => (i.zero, i.size, i.bytes)) = some (some (.int .u8 0), 1, 1) := by kernel_rfl
theorem make_mem (k : IntKind) (w : World) (n : Nat) (t : TypeId) : Mem k w w.heap.size n (fun _ => 0) (w.alloc (.cells (madeCells #[.int k 0] n) t)) := by
  have h := World.rowIs_made w (.int k 0) n t
  exact ⟨fun i hi => h.cell hi, h.frozen, (Below.refl _ w).alloc (Nat.le_refl _) _, Nat.le_refl _⟩
theorem make_u64s (n : Nat) (hn : n ≤ 1000000) (w : World) : ∃ w', (Instr.makeSlice 98 (.int .i64 (n : Int)) (.int .i64 (n : Int))).run Tryz.prog w = .ok (.slice (some ⟨w.heap.size, 0, none⟩) n n) w' ∧ Mem .u64 w w.heap.size n (fun _ => 0) w' :=
  ⟨_, run_make_row' 98 50 (.int .u64 0) 8 Tryz.underlying98 infoU rfl .i64 .i64 n (by omega) (by omega) w, make_mem _ _ _ _⟩
theorem make_bytes (n : Nat) (hn : n ≤ 1000000) (w : World) : ∃ w', (Instr.makeSlice 30 (.int .i64 (n : Int)) (.int .i64 (n : Int))).run Tryz.prog w = .ok (.slice (some ⟨w.heap.size, 0, none⟩) n n) w' ∧ Mem .u8 w w.heap.size n (fun _ => 0) w' :=
  ⟨_, run_make_row' 30 5 (.int .u8 0) 1 Tryz.underlying30 infoB rfl .i64 .i64 n (by omega) (by omega) w, make_mem _ _ _ _⟩
theorem shl_nat (y s : Nat) (hy : y < 256) (hs : s ≤ 56) : y * 2 ^ s < 18446744073709551616 := by
  have h : 2 ^ s ≤ 2 ^ 56 := Nat.pow_le_pow_right (by decide) hs
  have := Nat.mul_le_mul (show y ≤ 255 by omega) h
  omega
theorem shl_wrap (y s : Nat) (hy : y < 256) (hs : s ≤ 56) : IntKind.u64.wrap ((y : Int) * 2 ^ s) = ((y * 2 ^ s : Nat) : Int) := by
  have h := shl_nat y s hy hs
  have e : (y : Int) * 2 ^ s = ((y * 2 ^ s : Nat) : Int) := by rw [Int.natCast_mul, Int.natCast_pow]; rfl
  rw [e, IntKind.wrap_u64]
  omega
theorem or_shl (q y s : Nat) (hq : q < 18446744073709551616) (hy : y < 256) (hs : s ≤ 56) : bits .or .u64 (q : Int) (IntKind.u64.wrap ((y : Int) * 2 ^ s)) = ((q ||| y * 2 ^ s : Nat) : Int) := by
  rw [shl_wrap y s hy hs, u64_or_nat _ _ hq (shl_nat y s hy hs)]

set_option maxRecDepth 100000 in
set_option maxHeartbeats 2000000 in
theorem pack_ok (a : Option Addr) (len cap : Nat) (b : Nat → Nat) (w : World) (hN : Nats .u8 w a len b) (hb : ∀ i, i < len → b i < 256) (hl : len ≤ 100000) :
    Calls Tryz.prog 55 #[.slice a len cap] w fun e w' => e = .returned (.slice (some ⟨w.heap.size, 0, none⟩) (need len) (need len)) ∧ Mem .u64 w w.heap.size (need len) (packF b len) w' := by
  have HN := hide hN
  have HB := hide hb
  have KS := hide shift_ok
  have KN := hide (wneed_ok len (by omega) w)
  obtain ⟨w1, hm, hM⟩ := make_u64s (need len) (by unfold need; omega) w
  have HM := hide hM
  have c0 := hM.cell 0 (by unfold need; omega)
  have z0 := hM.fz 0
  have h0 : 0 < need len := by unfold need; omega
  have HNE := hide (show need len = 1 + (len + 7) / 8 from rfl)
  have HF := hide (show ∀ j, packI b len 0 j = if j = 0 then len else 0 from fun j => rfl)
  clear hN hb hM
  generalize need len = m at *
  go_enter Tryz.func55, Tryz.ntmps55
  go_wp2_with fail
  refine (unhide KN).mono ?_
  rintro e w' ⟨rfl, h⟩; rw [h]; clear h w'
  go_wp2_with fail
  go_loopw [17] (fun vi wr => ∃ k : Nat, vi = .int .i64 k ∧ Hid (k ≤ len ∧ Mem .u64 w w.heap.size m (packI b len k) wr)) (fun vi wr => len - (RowKit.intOf vi).toNat)
  case atStart => exact ⟨0, rfl, hide ⟨Nat.zero_le _, ((unhide HM).set 0 len h0).ext fun i _ => (unhide HF i).symm⟩⟩
  case round =>
    obtain ⟨k, rfl, HI⟩ := hrel
    obtain ⟨hk, hM⟩ := unhide HI
    by_cases hlt : k < len
    · have hlt' : (k : Int) < len := by omega
      obtain ⟨xb, xo, rfl, c⟩ := (unhide HN).on hM.bel k hlt
      have hby := unhide HB k hlt
      have hp : 1 + k / 8 < m := by have := unhide HNE; omega
      have c1 := hM.cell (1 + k / 8) hp
      have z1 := hM.fz (1 + k / 8)
      have KS1 := hide (unhide KS k (by omega))
      clear HI
      have HM1 := hide hM
      clear hM
      have hq : packI b len k (1 + k / 8) < 18446744073709551616 := by
        unfold packI
        rw [if_neg (by omega)]
        exact word_lt _ _ _ fun i hi => unhide HB i (by omega)
      have HV := hide (show packI b len k (1 + k / 8) = wordN b k (k / 8) by unfold packI; rw [if_neg (by omega)]; simp)
      generalize hpq : packI b len k (1 + k / 8) = q at *
      clear hpq
      generalize hbk : b k = y at *
      have HBK := hide hbk
      clear hbk
      go_wp2_with fail
      refine region_tailP 13 (by kernel_rfl) (by kernel_rfl) ?_
      simp only [List.take, List.drop]
      repeat (go_big_quiet_step (first | (go_at_call 111; exact Calls.quiet_of_same (unhide KS1 _))))
      refine wpQuiet_nil ?_
      rintro _ ⟨nq, rfl⟩
      rw [or_shl q y (8 * (k % 8)) hq hby (by omega)]
      have HNX := hide (show ∀ i, (if i = 1 + k / 8 then (q ||| y * 2 ^ (8 * (k % 8))) else packI b len k i) = packI b len (k + 1) i by
        intro i
        have e1 := unhide HV; have e2 := unhide HBK
        unfold packI
        by_cases hi : i = 0
        · subst hi; rw [if_neg (by omega)]; simp
        · rw [if_neg hi, if_neg hi, word_succ]
          by_cases h2 : i = 1 + k / 8
          · rw [if_pos h2, if_pos (by omega), h2, e1, e2]; simp
          · rw [if_neg h2, if_neg (by omega)])
      have HM2 := hide (((unhide HM1).drewN nq).set (1 + k / 8) (q ||| y * 2 ^ (8 * (k % 8))) hp)
      generalize (q ||| y * 2 ^ (8 * (k % 8))) = v at *
      generalize hwd : wr.drewN nq = wd at *
      have c2 : wd.cell? ⟨w.heap.size, 1 + k / 8, none⟩ = some (.int .u64 q) := by rw [← hwd]; exact c1
      have z2 : wd.frozen? ⟨w.heap.size, 1 + k / 8, none⟩ = false := by rw [← hwd]; exact z1
      clear c1 z1 c hwd hm
      go_wp2
      go_roundw
      case rel => exact ⟨k + 1, by go_num, hide ⟨by omega, (unhide HM2).ext fun i _ => unhide HNX i⟩⟩
      case measure => simp [RowKit.intOf]; omega
    · have hlt' : ¬ (k : Int) < len := by omega
      obtain rfl : k = len := by omega
      clear HI
      have HM1 := hide hM
      clear hM
      go_wp2
      go_ret
      exact ⟨rfl, unhide HM1⟩
end

section
abbrev vals (k : IntKind) (l : List Nat) : List Value := l.map fun n => Value.int k (n : Nat)
def OwnL (k : IntKind) (t : TypeId) (w : World) (base : Nat) (v : Value) (l : List Nat) : Prop := w.ownsRow base t 1 v l.length (vals k l)
def rowL (f : Nat → Nat) (n : Nat) : List Nat := (List.range n).map f
theorem rowL_len (f : Nat → Nat) (n : Nat) : (rowL f n).length = n := by simp [rowL]
theorem rowL_get (f : Nat → Nat) (n i : Nat) (h : i < n) : (rowL f n).getD i 0 = f i := by simp [rowL, h]
theorem rowL_succ (f : Nat → Nat) (n : Nat) : rowL f (n + 1) = rowL f n ++ [f n] := by simp [rowL, List.range_succ]
theorem OwnL.nil (k : IntKind) (t : TypeId) (w : World) (base : Nat) : OwnL k t w base (.slice none 0 0) [] := World.ownsRow_nil _ _ _ _
theorem OwnL.one (k : IntKind) (t : TypeId) (w : World) (x : Nat) : OwnL k t (w.alloc (.cells #[.int k (x : Nat)] t)) w.heap.size (.slice (some ⟨w.heap.size, 0, none⟩) 1 1) [x] :=
  ⟨rfl, .inr ⟨w.heap.size, 1, #[.int k (x : Nat)], rfl, Nat.le_refl _, heap_alloc_new w _, Nat.le_refl _, by unfold maxLen; omega, rfl, rfl⟩⟩
theorem OwnL.below {k : IntKind} {t : TypeId} {w w' : World} {base base' : Nat} {v : Value} {l : List Nat} (h : OwnL k t w base v l) (b : Below base' w w') (hb : w.heap.size ≤ base') : OwnL k t w' base v l := by
  refine ⟨h.1, ?_⟩
  rcases h.2 with hn | ⟨g, cap, cur, hv, hg, hgg, rest⟩
  · exact .inl hn
  · exact .inr ⟨g, cap, cur, hv, hg, (b.block g (Nat.lt_of_lt_of_le (Array.getElem?_eq_some_iff.1 hgg).1 hb)).trans hgg, rest⟩
theorem OwnL.drewN {k : IntKind} {t : TypeId} {w : World} {base : Nat} {v : Value} {l : List Nat} (h : OwnL k t w base v l) (n : Nat) : OwnL k t (w.drewN n) base v l := h
theorem OwnL.form {k : IntKind} {t : TypeId} {w : World} {base : Nat} {v : Value} {l : List Nat} (h : OwnL k t w base v l) : (v = .slice none 0 0 ∧ l = []) ∨
    ∃ g cap, v = .slice (some ⟨g, 0, none⟩) l.length cap ∧ l.length ≤ cap ∧ base ≤ g ∧ g < w.heap.size ∧ (∀ i, i < l.length → w.cell? ⟨g, i, none⟩ = some (.int k (l.getD i 0 : Nat))) ∧ ∀ i, w.frozen? ⟨g, i, none⟩ = false := by
  rcases h.2 with ⟨hv, hn⟩ | ⟨g, cap, cur, hv, hb, hg, hc, _, hs, hcur⟩
  · exact .inl ⟨hv, List.length_eq_zero_iff.1 hn⟩
  · refine .inr ⟨g, cap, hv, hc, hb, (Array.getElem?_eq_some_iff.1 hg).1, fun i hi => ?_, fun i => ?_⟩
    · have h1 : w.ownsRow base t 1 (.slice (some ⟨g, 0, none⟩) l.length cap) l.length (vals k l) := hv ▸ h
      rw [h1.cellAt i (by omega)]
      simp [vals, hi]
    · simp [World.frozen?, hg]
theorem OwnL.nats {k : IntKind} {t : TypeId} {w : World} {base : Nat} {v : Value} {l : List Nat} (h : OwnL k t w base v l) : ∃ va cap, v = .slice va l.length cap ∧ l.length ≤ cap ∧ Nats k w va l.length (fun i => l.getD i 0) := by
  rcases h.form with ⟨hv, hn⟩ | ⟨g, cap, hv, hc, _, _, hcell, _⟩
  · subst hn; exact ⟨none, 0, hv, Nat.le_refl _, fun i hi => by simp at hi⟩
  · exact ⟨some ⟨g, 0, none⟩, cap, hv, hc, fun i hi => ⟨g, 0, rfl, by rw [Nat.zero_add]; exact hcell i hi⟩⟩
theorem OwnL.set {k : IntKind} {t : TypeId} {w : World} {base g n cap : Nat} {l : List Nat} (h : OwnL k t w base (.slice (some ⟨g, 0, none⟩) n cap) l) (i x : Nat) :
    OwnL k t (w.setCell ⟨g, i, none⟩ (.int k (x : Nat))) base (.slice (some ⟨g, 0, none⟩) n cap) (l.set i x) := by
  refine ⟨by simp [vals], ?_⟩
  rcases h.2 with ⟨hv, hn⟩ | ⟨g', cap', cur, hv, hb, hg, hc, hm, hs, hcur⟩
  · cases hv
  · injection hv with hv1 hv2 hv3
    injection hv1 with hv1
    injection hv1 with hv1
    subst hv1; subst hv2; subst hv3
    refine .inr ⟨g, cap, cur.setIfInBounds i (.int k (x : Nat)), by simp, hb, ?_, by simpa using hc, hm, by simpa using hs, ?_⟩
    · simp [World.setCell, Array.getElem?_modify, hg]
    · simp only [Nat.mul_one, List.length_set] at *
      rw [Array.toList_setIfInBounds, List.take_set, hcur]
      simp [vals, List.map_set]
end

section
def byteF (v : Nat → Nat) (i : Nat) : Nat := v (1 + i / 8) / 2 ^ (8 * (i % 8)) % 256
def over (v : Nat → Nat) (m n : Nat) : Bool := decide (0 < n % 8) && decide (0 < v (m - 1) / 2 ^ (8 * (n % 8)))
def unE (v : Nat → Nat) (m : Nat) : Nat := if m = 0 then 4 else if 65536 < v 0 then 3 else if m < need (v 0) then 4 else if need (v 0) < m ∨ over v m (v 0) = true then 3 else 0

theorem shr_nat (s k : Nat) : (s : Int) / 2 ^ k = ((s / 2 ^ k : Nat) : Int) := by
  rw [Int.natCast_ediv, Int.natCast_pow]; rfl

set_option maxRecDepth 100000 in
set_option maxHeartbeats 2000000 in
theorem filled_ok (a : Option Addr) (m cap : Nat) (v : Nat → Nat) (n : Nat) (w : World) (hN : Nats .u64 w a m v) (hn : n ≤ 65536) (hm : 0 < m) (hmm : m ≤ 100000) :
    Calls Tryz.prog 121 #[.slice a m cap, .int .i64 n] w fun e w' => e = .returned (.bool (over v m n)) ∧ ∃ q, w' = w.drewN q := by
  obtain ⟨xb, xo, rfl, c⟩ := hN (m - 1) (by omega)
  have KS := hide (shift_ok n (by omega))
  by_cases h : 0 < n % 8
  · have h' : (0 : Int) < (n : Int) % 8 := by omega
    have hc : (m : Int) - 1 = ((m - 1 : Nat) : Int) := by omega
    have hlt : m - 1 < m := by omega
    have HO := hide (show over v m n = decide (0 < v (m - 1) / 2 ^ (8 * (n % 8))) by unfold over; rw [decide_eq_true h]; rfl)
    have hs := shr_nat (v (m - 1)) (8 * (n % 8))
    clear hN
    generalize v (m - 1) = x at *
    generalize m - 1 = j at *
    by_cases h2 : 0 < x / 2 ^ (8 * (n % 8))
    · have h2' : (0 : Int) < (x : Int) / 2 ^ (8 * (n % 8)) := by rw [hs]; omega
      have HO := hide (show over v m n = true by rw [unhide HO, decide_eq_true h2])
      clear hs h2
      go_enter Tryz.func121, Tryz.ntmps121
      go_wp2_with fail
      refine region_tailP 14 (by kernel_rfl) (by kernel_rfl) ?_
      simp only [List.take, List.drop]
      repeat (go_big_quiet_step (first | (go_at_call 111; exact Calls.quiet_of_same (unhide KS _))))
      refine wpQuiet_nil ?_
      rintro _ ⟨nq, rfl⟩
      go_wp2
      go_ret
      exact ⟨by rw [unhide HO]; rfl, nq, rfl⟩
    · have h2' : (x : Int) / 2 ^ (8 * (n % 8)) = 0 := by
        rw [hs, Nat.eq_zero_of_not_pos h2]; rfl
      have HO := hide (show over v m n = false by rw [unhide HO, decide_eq_false h2])
      clear hs h2
      go_enter Tryz.func121, Tryz.ntmps121
      go_wp2_with fail
      refine region_tailP 14 (by kernel_rfl) (by kernel_rfl) ?_
      simp only [List.take, List.drop]
      repeat (go_big_quiet_step (first | (go_at_call 111; exact Calls.quiet_of_same (unhide KS _))))
      refine wpQuiet_nil ?_
      rintro _ ⟨nq, rfl⟩
      go_wp2
      go_ret
      exact ⟨by rw [unhide HO]; rfl, nq, rfl⟩
  · have h' : (n : Int) % 8 = 0 := by omega
    have HO := hide (show over v m n = false by unfold over; rw [decide_eq_false h]; rfl)
    clear hN c
    go_enter Tryz.func121, Tryz.ntmps121
    go_wp2_with fail
    refine region_tailP 14 (by kernel_rfl) (by kernel_rfl) ?_
    simp only [List.take, List.drop]
    repeat (go_big_quiet_step (fail))
    refine wpQuiet_nil ?_
    rintro _ ⟨nq, rfl⟩
    go_wp2
    go_ret
    exact ⟨by rw [unhide HO]; rfl, nq, rfl⟩

set_option maxRecDepth 100000 in
set_option maxHeartbeats 2000000 in
theorem unpack_ok (a : Option Addr) (m cap : Nat) (v : Nat → Nat) (w : World) (hN : Nats .u64 w a m v) (hv : ∀ i, i < m → v i < 18446744073709551616) (hm : m ≤ 100000) :
    Calls Tryz.prog 66 #[.slice a m cap] w fun e w' => Below w.heap.size w w' ∧
      ((unE v m ≠ 0 ∧ e = .returned (.tuple #[.slice none 0 0, .int .i64 (unE v m : Nat)])) ∨
       (unE v m = 0 ∧ ∃ g, e = .returned (.tuple #[.slice (some ⟨g, 0, none⟩) (v 0) (v 0), .int .i64 0]) ∧ Mem .u8 w g (v 0) (byteF v) w')) := by
  have HN := hide hN
  have KN := hide wneed_ok
  have KF := hide filled_ok
  by_cases h0 : m = 0
  · subst h0
    clear hN hv
    go_enter Tryz.func66, Tryz.ntmps66
    go_wp2
    go_ret2
    exact ⟨Below.refl _ _, .inl ⟨by simp [unE], rfl⟩⟩
  · obtain ⟨xb, xo, rfl, c⟩ := hN 0 (by omega)
    have hv0 := hv 0 (by omega)
    have hmi : ¬ (m : Int) = 0 := by omega
    rw [Nat.add_zero] at c
    by_cases h1 : 65536 < v 0
    · have h1' : (65536 : Int) < (v 0 : Nat) := by omega
      have HE := hide (show unE v m = 3 by unfold unE; rw [if_neg h0, if_pos h1])
      clear hN hv
      generalize v 0 = n at *
      go_enter Tryz.func66, Tryz.ntmps66
      go_wp2
      go_ret2
      exact ⟨Below.refl _ _, .inl ⟨(by rw [unhide HE]; decide), (by rw [unhide HE]; rfl)⟩⟩
    · have h1' : ¬ (65536 : Int) < (v 0 : Nat) := by omega
      have hw : wrap64 (v 0 : Nat) = (v 0 : Nat) := by unfold wrap64; omega
      by_cases h2 : m < need (v 0)
      · have h2' : (m : Int) < (need (v 0) : Nat) := by omega
        have HE := hide (show unE v m = 4 by unfold unE; rw [if_neg h0, if_neg h1, if_pos h2])
        clear hN hv
        generalize hn : v 0 = n at *
        have HV := hide hn
        have KN1 := hide (unhide KN n (by omega) w)
        clear hn h2
        generalize need n = d at *
        go_enter Tryz.func66, Tryz.ntmps66
        go_wp2_with fail
        refine (unhide KN1).mono ?_
        rintro e w' ⟨rfl, h⟩; rw [h]; clear h w'
        go_wp2
        go_ret2
        exact ⟨Below.refl _ _, .inl ⟨(by rw [unhide HE]; decide), (by rw [unhide HE]; rfl)⟩⟩
      · have h2' : ¬ (m : Int) < (need (v 0) : Nat) := by omega
        by_cases h3 : need (v 0) < m ∨ over v m (v 0) = true
        · have HE := hide (show unE v m = 3 by unfold unE; rw [if_neg h0, if_neg h1, if_neg h2, if_pos h3])
          have KF1 := hide (unhide KF (some ⟨xb, xo, none⟩) m cap v (v 0) w (unhide HN) (by omega) (by omega) hm)
          have KN1 := hide (unhide KN (v 0) (by omega) w)
          clear hN hv
          by_cases h4 : need (v 0) < m
          · have h4' : ((need (v 0) : Nat) : Int) < m := by omega
            clear h3
            generalize v 0 = n at *
            clear h2 h4
            generalize need n = d at *
            go_enter Tryz.func66, Tryz.ntmps66
            go_wp2_with fail
            refine (unhide KN1).mono ?_
            rintro e w' ⟨rfl, h⟩; rw [h]; clear h w'
            go_wp2_with fail
            refine (unhide KN1).mono ?_
            rintro e w' ⟨rfl, h⟩; rw [h]; clear h w'
            go_wp2
            go_ret2
            exact ⟨Below.refl _ _, .inl ⟨(by rw [unhide HE]; decide), (by rw [unhide HE]; rfl)⟩⟩
          · have h4' : ¬ ((need (v 0) : Nat) : Int) < m := by omega
            have ho : over v m (v 0) = true := by rcases h3 with h | h; exact absurd h h4; exact h
            rw [ho] at KF1
            clear h3 ho
            generalize v 0 = n at *
            clear h2 h4
            generalize need n = d at *
            go_enter Tryz.func66, Tryz.ntmps66
            go_wp2_with fail
            refine (unhide KN1).mono ?_
            rintro e w' ⟨rfl, h⟩; rw [h]; clear h w'
            go_wp2_with fail
            refine (unhide KN1).mono ?_
            rintro e w' ⟨rfl, h⟩; rw [h]; clear h w'
            go_wp2_with fail
            refine (unhide KF1).mono ?_
            rintro e w' ⟨rfl, q, rfl⟩
            go_wp2
            go_ret2
            exact ⟨Below.drewN' (Below.refl _ _) q, .inl ⟨(by rw [unhide HE]; decide), (by rw [unhide HE]; rfl)⟩⟩
        · have HE := hide (show unE v m = 0 by unfold unE; rw [if_neg h0, if_neg h1, if_neg h2, if_neg h3])
          have h4' : ¬ ((need (v 0) : Nat) : Int) < m := by omega
          have ho : over v m (v 0) = false := by
            cases h : over v m (v 0) with
            | true => exact absurd (.inr h) h3
            | false => rfl
          have KF1 := hide (unhide KF (some ⟨xb, xo, none⟩) m cap v (v 0) w (unhide HN) (by omega) (by omega) hm)
          rw [ho] at KF1
          have KN1 := hide (unhide KN (v 0) (by omega) w)
          have hmn : m = need (v 0) := by omega
          have HMN := hide (show m = 1 + (v 0 + 7) / 8 from hmn)
          have HVV := hide hv
          have KS := hide shift_ok
          clear hN hv h3 ho h4' h2 h2'
          rw [← hmn] at KN1
          clear hmn
          generalize hvn : v 0 = n at *
          have HV := hide hvn
          clear hvn
          go_enter Tryz.func66, Tryz.ntmps66
          go_wp2_with fail
          refine (unhide KN1).mono ?_
          rintro e w' ⟨rfl, h⟩; rw [h]; clear h w'
          go_wp2_with fail
          refine (unhide KN1).mono ?_
          rintro e w' ⟨rfl, h⟩; rw [h]; clear h w'
          go_wp2_with fail
          refine (unhide KF1).mono ?_
          rintro e w' ⟨rfl, nq, rfl⟩
          obtain ⟨w1, hmk, hM⟩ := make_bytes n (by omega) (w.drewN nq)
          have HM := hide (hM.since (Below.drewN' (Below.refl w.heap.size w) nq))
          have hg : (w.drewN nq).heap.size = w.heap.size := rfl
          rw [hg] at hmk HM
          clear hM c hg
          go_wp2_with fail
          go_loopw [37] (fun vi wr => ∃ k : Nat, vi = .int .i64 k ∧ Hid (k ≤ n ∧ Mem .u8 w w.heap.size n (fun i => if i < k then byteF v i else 0) wr)) (fun vi wr => n - (RowKit.intOf vi).toNat)
          case atStart => exact ⟨0, rfl, hide ⟨Nat.zero_le _, (unhide HM).ext fun i _ => by simp⟩⟩
          case round =>
            obtain ⟨k, rfl, HI⟩ := hrel
            obtain ⟨hk, hM⟩ := unhide HI
            by_cases hlt : k < n
            · have hlt' : (k : Int) < n := by omega
              have hp : 1 + k / 8 < m := by have := unhide HMN; omega
              obtain ⟨_, _, e1, c1⟩ := ((unhide HN).on hM.bel) (1 + k / 8) hp
              cases e1
              have c2 := hM.cell k hlt
              rw [if_neg (by omega)] at c2
              have z2 := hM.fz k
              have KS1 := hide (unhide KS k (by omega))
              have hx := unhide HVV (1 + k / 8) hp
              have HBF := hide (show v (1 + k / 8) / 2 ^ (8 * (k % 8)) % 256 = byteF v k from rfl)
              clear HI
              have HM1 := hide hM
              clear hM
              generalize v (1 + k / 8) = x at *
              have hst := fun (w : World) (a : Addr) (x : Int) (m : Mode) => run_store Tryz.prog w a (.int .u8 x) m rfl
              go_wp2_with fail
              refine region_tailP 13 (by kernel_rfl) (by kernel_rfl) ?_
              simp only [List.take, List.drop]
              repeat (go_big_quiet_step (first | (go_at_call 111; exact Calls.quiet_of_same (unhide KS1 _))))
              refine wpQuiet_nil ?_
              rintro _ ⟨nr, rfl⟩
              have hval : ((x : Int) / 2 ^ (8 * (k % 8))) % 256 = ((x / 2 ^ (8 * (k % 8)) % 256 : Nat) : Int) := by rw [shr_nat, Int.natCast_emod]; rfl
              rw [hval]
              have HM2 := hide (((unhide HM1).drewN nr).set k (x / 2 ^ (8 * (k % 8)) % 256) hlt)
              generalize x / 2 ^ (8 * (k % 8)) % 256 = y at *
              generalize hwd : wr.drewN nr = wd at *
              have c3 : wd.cell? ⟨w.heap.size, k, none⟩ = some (.int .u8 ((0 : Nat) : Int)) := by rw [← hwd]; exact c2
              have z3 : wd.frozen? ⟨w.heap.size, k, none⟩ = false := by rw [← hwd]; exact z2
              clear c1 c2 z2 hwd hmk hval
              go_wp2
              go_roundw
              case rel =>
                refine ⟨k + 1, by go_num, hide ⟨by omega, (unhide HM2).ext fun i _ => ?_⟩⟩
                by_cases hi : i = k
                · rw [if_pos hi, if_pos (by omega), hi, unhide HBF]
                · rw [if_neg hi]
                  by_cases h2 : i < k
                  · rw [if_pos h2, if_pos (by omega)]
                  · rw [if_neg h2, if_neg (by omega)]
              case measure => simp [RowKit.intOf]; omega
            · have hlt' : ¬ (k : Int) < n := by omega
              obtain rfl : k = n := by omega
              clear HI
              have HM1 := hide hM
              clear hM
              go_wp2
              go_ret2
              refine ⟨(unhide HM1).bel, .inr ⟨unhide HE, w.heap.size, ?_, ?_⟩⟩
              · rfl
              · exact (unhide HM1).ext fun i hi => by rw [if_pos hi]
end

section
def kdN (fr : Bool) : Nat := if fr then 1919247153 else 1919247147
def ahd (fr : Bool) : Nat := if fr then 2 else 1
def szN (fr : Bool) (n : Nat) : Nat := min 32 (ahd fr + (n + 7) / 8)
def bhN (fr : Bool) (n : Nat) : Nat := n - (32 - ahd fr) * 8
def wrN (fr : Bool) (n q : Nat) : Nat := kdN fr * 4294967296 + n * 65536 + q

theorem sz_b (fr : Bool) (n : Nat) : 1 ≤ szN fr n ∧ szN fr n ≤ 32 := by unfold szN ahd; cases fr <;> simp <;> omega
theorem bh_le (fr : Bool) (n : Nat) : bhN fr n ≤ n := by unfold bhN; omega

abbrev ptV (at_ : Int) (fr : Bool) (n : Nat) (nx : Int) : Value := .agg #[.int .i64 at_, .int .u64 (kdN fr), .int .i64 n, .int .i64 nx]
abbrev ptO (at_ : Int) (fr : Bool) (n : Nat) (nx : Int) : Obj := .cells #[.int .i64 at_, .int .u64 (kdN fr), .int .i64 n, .int .i64 nx] 101

set_option maxHeartbeats 400000 in
theorem p_ahead (at_ : Int) (fr : Bool) (n : Nat) (nx : Int) (w : World) : Calls Tryz.prog 59 #[ptV at_ fr n nx] w fun e w' => e = .returned (.int .i64 (ahd fr)) ∧ w' = w.alloc (ptO at_ fr n nx) := by
  cases fr
  · show Calls _ _ #[.agg #[.int .i64 at_, .int .u64 1919247147, .int .i64 n, .int .i64 nx]] w _
    go_enter Tryz.func59, Tryz.ntmps59
    go_wp2
    go_ret
    exact ⟨rfl, rfl⟩
  · show Calls _ _ #[.agg #[.int .i64 at_, .int .u64 1919247153, .int .i64 n, .int .i64 nx]] w _
    go_enter Tryz.func59, Tryz.ntmps59
    go_wp2
    go_ret
    exact ⟨rfl, rfl⟩

theorem or_word (k n q : Nat) (hk : k < 4294967296) (hn : n < 65536) (hq : q < 65536) : bits .or .u64 (bits .or .u64 ((k * 4294967296 : Nat) : Int) ((n * 65536 : Nat) : Int)) ((q : Nat) : Int) = ((k * 4294967296 + n * 65536 + q : Nat) : Int) := by
  rw [u64_or_nat _ _ (by omega) (by omega)]
  have e1 : k * 4294967296 ||| n * 65536 = k * 4294967296 + n * 65536 := by
    have := Nat.two_pow_add_eq_or_of_lt (i := 32) (b := n * 65536) (by omega) k
    rw [show (2 : Nat) ^ 32 * k = k * 4294967296 by omega] at this
    exact this.symm
  rw [e1, u64_or_nat _ _ (by omega) (by omega)]
  have e2 : (k * 4294967296 + n * 65536) ||| q = k * 4294967296 + n * 65536 + q := by
    have := Nat.two_pow_add_eq_or_of_lt (i := 16) (b := q) (by omega) (k * 65536 + n)
    rw [show (2 : Nat) ^ 16 * (k * 65536 + n) = k * 4294967296 + n * 65536 by omega] at this
    exact this.symm
  rw [e2]

set_option maxHeartbeats 400000 in
theorem p_word (at_ : Int) (fr : Bool) (n q : Nat) (hn : n ≤ 4096) (hq : q < 65536) (w : World) : Calls Tryz.prog 57 #[ptV at_ fr n (8 * q : Nat)] w fun e w' => e = .returned (.int .u64 (wrN fr n q)) ∧ w' = w.alloc (ptO at_ fr n (8 * q : Nat)) := by
  have hk : kdN fr < 4294967296 := by unfold kdN; split <;> omega
  have OW := or_word (kdN fr) n q hk (by omega) hq
  unfold wrN
  unfold ptV ptO
  generalize kdN fr = k at *
  have w1 : IntKind.u64.wrap ((k : Int) * 4294967296) = ((k * 4294967296 : Nat) : Int) := by rw [IntKind.wrap_u64]; omega
  have w2 : IntKind.u64.wrap ((n : Int) * 65536) = ((n * 65536 : Nat) : Int) := by rw [IntKind.wrap_u64]; omega
  have e8 : ((8 * q : Nat) : Int) / 8 = (q : Int) := by omega
  generalize ((8 * q : Nat) : Int) = nx at *
  have HO := hide OW
  clear OW
  go_enter Tryz.func57, Tryz.ntmps57
  go_wp2
  go_ret
  refine ⟨?_, rfl⟩
  have := unhide HO
  simp only [Int.natCast_mul, Int.natCast_add] at this ⊢
  rw [← this]; rfl

set_option maxHeartbeats 1000000 in
theorem p_sizeX (at_ : Int) (fr : Bool) (n : Nat) (nx : Int) (hn : n ≤ 5000) (w : World) : Calls Tryz.prog 58 #[ptV at_ fr n nx] w fun e w' => e = .returned (.int .i64 (szN fr n)) ∧ w' = ((w.alloc (ptO at_ fr n nx)).alloc (ptO at_ fr n nx)).drew := by
  have AH := p_ahead at_ fr n nx
  have ND := wneed_ok n (by omega)
  have ha : ahd fr ≤ 2 := by unfold ahd; split <;> omega
  have hsz : szN fr n = min 32 (ahd fr + need n - 1) := by unfold szN need; rw [show ahd fr + (1 + (n + 7) / 8) - 1 = ahd fr + (n + 7) / 8 by omega]
  have hd : 1 ≤ need n ∧ need n ≤ 1000 := by unfold need; omega
  rw [hsz]
  unfold ptV ptO at *
  obtain ⟨W, hW⟩ : ∃ W, w.alloc (.cells #[.int .i64 at_, .int .u64 (kdN fr), .int .i64 n, .int .i64 nx] 101) = W := ⟨_, rfl⟩
  have fW : Still w W := hW ▸ (Fr.refl _ w).alloc _
  have bW : W.heap[w.heap.size]? = some (.cells #[.int .i64 at_, .int .u64 (kdN fr), .int .i64 n, .int .i64 nx] 101 (0, 0)) := hW ▸ heap_alloc_new w _
  have c0 : W.cell? ⟨w.heap.size, 0, none⟩ = some (.int .i64 at_) := cell_of_obj bW 0
  have c1 : W.cell? ⟨w.heap.size, 1, none⟩ = some (.int .u64 (kdN fr)) := cell_of_obj bW 1
  have c2 : W.cell? ⟨w.heap.size, 2, none⟩ = some (.int .i64 n) := cell_of_obj bW 2
  have c3 : W.cell? ⟨w.heap.size, 3, none⟩ = some (.int .i64 nx) := cell_of_obj bW 3
  have hm : min 32 ((ahd fr : Int) + need n - 1) = ((min 32 (ahd fr + need n - 1) : Nat) : Int) := by omega
  have HW := hide hW; have HF := hide fW; have HM := hide hm
  clear hW fW bW hsz hm
  generalize ahd fr = a at *
  generalize need n = d at *
  generalize kdN fr = k at *
  generalize min 32 (a + d - 1) = r at *
  go_enter Tryz.func58, Tryz.ntmps58
  go_wp2_with fail
  rw [unhide HW]
  generalize w.heap.size = g at *
  go_region_held (fun w' => w'.cell? ⟨g, 0, none⟩ = some (.int .i64 at_) ∧ w'.cell? ⟨g, 1, none⟩ = some (.int .u64 k) ∧ w'.cell? ⟨g, 2, none⟩ = some (.int .i64 n) ∧ w'.cell? ⟨g, 3, none⟩ = some (.int .i64 nx)) (go_keep) (first | (go_at_call 59; refine (AH _).mono ?_; rintro e w' ⟨rfl, rfl⟩) | (go_at_call 110; refine (ND _).mono ?_; rintro e w' ⟨rfl, rfl⟩))
  have w1 : IntKind.i64.wrap ((a : Int) + d) = (a : Int) + d := (wrap_small _ (by omega) (by omega)).1
  have w2 : IntKind.i64.wrap ((a : Int) + d - 1) = (a : Int) + d - 1 := (wrap_small _ (by omega) (by omega)).1
  rw [w1, w2, unhide HM]
  go_wp2
  go_ret
  exact ⟨rfl, by rw [unhide HW]⟩

set_option maxHeartbeats 1000000 in
theorem p_behindX (at_ : Int) (fr : Bool) (n : Nat) (nx : Int) (hn : n ≤ 5000) (w : World) : Calls Tryz.prog 109 #[ptV at_ fr n nx] w fun e w' => e = .returned (.int .i64 (bhN fr n)) ∧ w' = ((w.alloc (ptO at_ fr n nx)).alloc (ptO at_ fr n nx)).drew := by
  have AH := p_ahead at_ fr n nx
  have ha : ahd fr ≤ 2 := by unfold ahd; split <;> omega
  unfold bhN
  unfold ptV ptO at *
  obtain ⟨W, hW⟩ : ∃ W, w.alloc (.cells #[.int .i64 at_, .int .u64 (kdN fr), .int .i64 n, .int .i64 nx] 101) = W := ⟨_, rfl⟩
  have fW : Still w W := hW ▸ (Fr.refl _ w).alloc _
  have bW : W.heap[w.heap.size]? = some (.cells #[.int .i64 at_, .int .u64 (kdN fr), .int .i64 n, .int .i64 nx] 101 (0, 0)) := hW ▸ heap_alloc_new w _
  have c0 : W.cell? ⟨w.heap.size, 0, none⟩ = some (.int .i64 at_) := cell_of_obj bW 0
  have c1 : W.cell? ⟨w.heap.size, 1, none⟩ = some (.int .u64 (kdN fr)) := cell_of_obj bW 1
  have c2 : W.cell? ⟨w.heap.size, 2, none⟩ = some (.int .i64 n) := cell_of_obj bW 2
  have c3 : W.cell? ⟨w.heap.size, 3, none⟩ = some (.int .i64 nx) := cell_of_obj bW 3
  generalize ahd fr = a at *
  generalize kdN fr = k at *
  have hm : max 0 ((n : Int) - (32 - (a : Int)) * 8) = ((n - (32 - a) * 8 : Nat) : Int) := by omega
  have HW := hide hW; have HF := hide fW; have HM := hide hm
  clear hW fW bW hm
  generalize n - (32 - a) * 8 = r at *
  go_enter Tryz.func109, Tryz.ntmps109
  go_wp2_with fail
  rw [unhide HW]
  generalize w.heap.size = g at *
  go_region_held (fun w' => w'.cell? ⟨g, 0, none⟩ = some (.int .i64 at_) ∧ w'.cell? ⟨g, 1, none⟩ = some (.int .u64 k) ∧ w'.cell? ⟨g, 2, none⟩ = some (.int .i64 n) ∧ w'.cell? ⟨g, 3, none⟩ = some (.int .i64 nx)) (go_keep) (first | (go_at_call 59; refine (AH _).mono ?_; rintro e w' ⟨rfl, rfl⟩))
  have w1 : IntKind.i64.wrap (32 - (a : Int)) = 32 - (a : Int) := (wrap_small _ (by omega) (by omega)).1
  have w2 : IntKind.i64.wrap ((32 - (a : Int)) * 8) = (32 - (a : Int)) * 8 := (wrap_small _ (by omega) (by omega)).1
  have w3 : IntKind.i64.wrap ((n : Int) - (32 - (a : Int)) * 8) = (n : Int) - (32 - (a : Int)) * 8 := by rw [IntKind.wrap_i64]; omega
  rw [w1, w2, w3, unhide HM]
  go_wp2
  go_ret
  exact ⟨rfl, by rw [unhide HW]⟩
theorem still2 (w : World) (a b : Obj) : Still w ((w.alloc a).alloc b).drew := (((Fr.refl (fun _ => False) w).alloc a).alloc b).drewN 1
theorem p_size (at_ : Int) (fr : Bool) (n : Nat) (nx : Int) (hn : n ≤ 5000) (w : World) : Calls Tryz.prog 58 #[ptV at_ fr n nx] w fun e w' => e = .returned (.int .i64 (szN fr n)) ∧ Still w w' :=
  (p_sizeX at_ fr n nx hn w).mono fun _ _ h => ⟨h.1, h.2 ▸ still2 _ _ _⟩
theorem p_behind (at_ : Int) (fr : Bool) (n : Nat) (nx : Int) (hn : n ≤ 5000) (w : World) : Calls Tryz.prog 109 #[ptV at_ fr n nx] w fun e w' => e = .returned (.int .i64 (bhN fr n)) ∧ Still w w' :=
  (p_behindX at_ fr n nx hn w).mono fun _ _ h => ⟨h.1, h.2 ▸ still2 _ _ _⟩
end

section
structure Prt where
  at_ : Int
  fr : Bool
  n : Nat
  nx : Int
def prts : List Prt → List Value
  | [] => []
  | p :: l => .int .i64 p.at_ :: .int .u64 (kdN p.fr) :: .int .i64 p.n :: .int .i64 p.nx :: prts l
theorem prts_app (a b : List Prt) : prts (a ++ b) = prts a ++ prts b := by
  induction a with
  | nil => rfl
  | cons z a ih => simp [prts, ih]
theorem prts_len (a : List Prt) : (prts a).length = a.length * 4 := by
  induction a with
  | nil => rfl
  | cons z a ih => simp [prts, ih]; omega
theorem prts_at {l : List Prt} : ∀ {k : Nat} {p : Prt}, l[k]? = some p → (prts l)[k * 4]? = some (.int .i64 p.at_) ∧ (prts l)[k * 4 + 1]? = some (.int .u64 (kdN p.fr)) ∧ (prts l)[k * 4 + 2]? = some (.int .i64 p.n) ∧ (prts l)[k * 4 + 3]? = some (.int .i64 p.nx) := by
  induction l with
  | nil => intro k p h; simp at h
  | cons z l ih =>
    intro k p h
    cases k with
    | zero => simp at h; subst h; simp [prts]
    | succ k =>
      have := ih (k := k) (p := p) (by simpa using h)
      rw [show (k + 1) * 4 = k * 4 + 1 + 1 + 1 + 1 by omega]
      simpa [prts] using this
theorem prts_one {l : List Prt} : ∀ u ∈ prts l, u.oneCell' = true := by
  induction l with
  | nil => intro u h; simp [prts] at h
  | cons z l ih =>
    intro u h
    simp [prts] at h
    rcases h with rfl | rfl | rfl | rfl | h
    · rfl
    · rfl
    · rfl
    · rfl
    · exact ih u h
theorem prts_set {l : List Prt} : ∀ {k : Nat} {p : Prt} (a : Int), l[k]? = some p → (prts l).set (k * 4) (.int .i64 a) = prts (l.set k { p with at_ := a }) ∧ (prts l).set (k * 4 + 3) (.int .i64 a) = prts (l.set k { p with nx := a }) := by
  induction l with
  | nil => intro k p a h; simp at h
  | cons z l ih =>
    intro k p a h
    cases k with
    | zero => simp at h; subst h; simp [prts]
    | succ k =>
      have := ih (k := k) (p := p) a (by simpa using h)
      rw [show (k + 1) * 4 = k * 4 + 1 + 1 + 1 + 1 by omega]
      simp only [List.set_cons_succ, prts, List.set]
      refine ⟨?_, ?_⟩
      · rw [this.1]
      · rw [this.2]

def PR (w : World) (lo : Nat) (v : Value) (l : List Prt) : Prop := w.ownsRow lo 101 4 v l.length (prts l)

section
variable {w w' : World} {lo : Nat} {v : Value} {l : List Prt}
theorem PR.form (h : PR w lo v l) : (v = .slice none 0 0 ∧ l = []) ∨ ∃ g cap, v = .slice (some ⟨g, 0, none⟩) l.length cap ∧ l.length ≤ cap ∧ lo ≤ g ∧ g < w.heap.size ∧ (∀ i, w.frozen? ⟨g, i, none⟩ = false) := by
  rcases h.2 with ⟨e1, e2⟩ | ⟨g, cap, cur, e, h1, h2, h3, _⟩
  · exact .inl ⟨e1, List.eq_nil_of_length_eq_zero e2⟩
  · exact .inr ⟨g, cap, e, h3, h1, (Array.getElem?_eq_some_iff.1 h2).1, fun i => by simp [World.frozen?, h2]⟩
theorem PR.cells {g n cap k : Nat} {p : Prt} (h : PR w lo (.slice (some ⟨g, 0, none⟩) n cap) l) (hk : l[k]? = some p) :
    w.cell? ⟨g, k * 4, none⟩ = some (.int .i64 p.at_) ∧ w.cell? ⟨g, k * 4 + 1, none⟩ = some (.int .u64 (kdN p.fr)) ∧ w.cell? ⟨g, k * 4 + 2, none⟩ = some (.int .i64 p.n) ∧ w.cell? ⟨g, k * 4 + 3, none⟩ = some (.int .i64 p.nx) := by
  have hl := (List.getElem?_eq_some_iff.1 hk).1
  have en : n = l.length := by
    rcases h.form with ⟨e, _⟩ | ⟨_, _, e, _⟩
    · cases e
    · injection e
  subst en
  obtain ⟨p0, p1, p2, p3⟩ := prts_at hk
  have ln := prts_len l
  refine ⟨?_, ?_, ?_, ?_⟩
  · rw [h.cellAt (k * 4) (by omega)]; exact p0
  · rw [h.cellAt (k * 4 + 1) (by omega)]; exact p1
  · rw [h.cellAt (k * 4 + 2) (by omega)]; exact p2
  · rw [h.cellAt (k * 4 + 3) (by omega)]; exact p3
theorem PR.kept (h : PR w lo v l) {F : Nat → Prop} (f : Fr F w w') (hn : ∀ k, v.ownBlock = some k → ¬ F k) : PR w' lo v l :=
  owns_same h fun k hk => f.block k (World.ownsRow.lt h k hk).2 (hn k hk)
theorem PR.still (h : PR w lo v l) (f : Still w w') : PR w' lo v l := h.kept f (fun _ _ x => x)
theorem PR.sets {g n cap k j : Nat} {x : Value} {l' : List Prt} (h : PR w lo (.slice (some ⟨g, 0, none⟩) n cap) l) (_hj : j < l.length * 4) (hl : l'.length = l.length) (he : (prts l).set j x = prts l') (_hk : k = k) : PR (w.setCell ⟨g, j, none⟩ x) lo (.slice (some ⟨g, 0, none⟩) n cap) l' := by
  refine ⟨by rw [prts_len], ?_⟩
  rcases h.2 with ⟨hv, hn⟩ | ⟨g', cap', cur, hv, hb, hg, hc, hm, hs, hcur⟩
  · cases hv
  · injection hv with hv1 hv2 hv3
    injection hv1 with hv1
    injection hv1 with hv1
    subst hv1; subst hv2; subst hv3
    refine .inr ⟨g, cap, cur.setIfInBounds j x, by rw [hl], hb, ?_, by rw [hl]; exact hc, hm, by simpa using hs, ?_⟩
    · simp [World.setCell, Array.getElem?_modify, hg]
    · rw [Array.toList_setIfInBounds, List.take_set, hl, hcur, he]
theorem PR.setAt {g n cap k : Nat} {p : Prt} (h : PR w lo (.slice (some ⟨g, 0, none⟩) n cap) l) (hk : l[k]? = some p) (a : Int) : PR (w.setCell ⟨g, k * 4, none⟩ (.int .i64 a)) lo (.slice (some ⟨g, 0, none⟩) n cap) (l.set k { p with at_ := a }) :=
  h.sets (k := k) (by have := (List.getElem?_eq_some_iff.1 hk).1; omega) (by simp) (prts_set a hk).1 rfl
theorem PR.setNx {g n cap k : Nat} {p : Prt} (h : PR w lo (.slice (some ⟨g, 0, none⟩) n cap) l) (hk : l[k]? = some p) (a : Int) : PR (w.setCell ⟨g, k * 4 + 3, none⟩ (.int .i64 a)) lo (.slice (some ⟨g, 0, none⟩) n cap) (l.set k { p with nx := a }) :=
  h.sets (k := k) (by have := (List.getElem?_eq_some_iff.1 hk).1; omega) (by simp) (prts_set a hk).2 rfl
end

theorem info_part : (Tryz.prog.info? 101).map (fun i => (i.zero, i.size, i.bytes)) = some (some (.agg #[.int .i64 0, .int .u64 0, .int .i64 0, .int .i64 0]), 4, 32) := by kernel_rfl
theorem info_partE : ∃ i, Tryz.prog.info? 101 = some i ∧ i.zero = some (.agg #[.int .i64 0, .int .u64 0, .int .i64 0, .int .i64 0]) ∧ i.size = 4 ∧ i.bytes = 32 := by
  have hi := info_part
  cases h : Tryz.prog.info? 101 with
  | none => rw [h] at hi; simp at hi
  | some i => rw [h] at hi; simp only [Option.map_some, Option.some.injEq, Prod.mk.injEq] at hi; exact ⟨i, rfl, hi⟩

theorem run_prt (w : World) (lo : Nat) (ty : TypeId) (v : Value) (l : List Prt) (hown : PR w lo v l) (p : Prt) (hl : l.length ≤ 1000) (hlo : lo ≤ w.heap.size) :
    ∃ v' w', (Builtin.append_ #[95, 95] ty #[v, .slice (some ⟨w.heap.size, 0, none⟩) 1 1]).run Tryz.prog (w.alloc (ptO p.at_ p.fr p.n p.nx)) = .ok v' w' ∧ PR w' lo v' (l ++ [p]) ∧ Fr (fun k => v.ownBlock = some k) w w' ∧ (v'.ownBlock = v.ownBlock ∨ v'.ownBlock = some (w.heap.size + 1)) := by
  obtain ⟨i, hi, hz, hsize, hby⟩ := info_partE
  have hA : (w.alloc (ptO p.at_ p.fr p.n p.nx)).heap.size = w.heap.size + 1 := by simp
  have hc : ∀ j u, (prts [p])[j]? = some u → (w.alloc (ptO p.at_ p.fr p.n p.nx)).cell? ((⟨w.heap.size, 0, none⟩ : Addr).add j) = some u := by
    intro j u hu
    have hadd : (⟨w.heap.size, 0, none⟩ : Addr).add j = ⟨w.heap.size, j, none⟩ := by unfold Addr.add; split <;> simp_all
    rw [hadd, cell_of_obj (heap_alloc_new w _) j]
    simpa [prts] using hu
  have own1 : PR (w.alloc (ptO p.at_ p.fr p.n p.nx)) lo v l := hown.still ((Fr.refl _ w).alloc _)
  obtain ⟨v', w', hr, h2, h3, _, h5⟩ := run_append_own_at (P := Tryz.prog) (w.alloc (ptO p.at_ p.fr p.n p.nx)) lo 95 ty 101 i (.agg #[.int .i64 0, .int .u64 0, .int .i64 0, .int .i64 0]) 4 32 Tryz.underlying95 hi hz hsize hby rfl (by decide) v l.length (prts l) own1 ⟨w.heap.size, 0, none⟩ 1 1 (prts [p]) (by rw [prts_len]; rfl) hc prts_one (by unfold maxLen; omega) (by omega) (by rw [hA]; omega)
  refine ⟨v', w', hr, ?_, ((Fr.refl (fun k => v.ownBlock = some k) w).alloc _).grown h3 (fun r e => .inl e), ?_⟩
  · unfold PR
    rw [List.length_append, prts_app]; exact h2
  · rw [hA] at h5; exact h5
theorem wpList_append_run {P : Program} {w : World} {ops : Array Oper} {rest : List Oper} {o : Oper} {a : Act} {Q : Exit → Act → World → Prop} (hgd : o.guard = none) (s x : Operand) (t : TypeId)
    (ho : o.op = .call { callee := .builtin .append, args := #[s, x], argTypes := #[t, t] }) (vs vx : Value) (hs : a.eval s = vs) (hx : a.eval x = vx) (v' : Value) (w' : World) (hr : (Builtin.append_ #[t, t] o.type #[vs, vx]).run P w = .ok v' w')
    (h : wpList P ops Q rest (a.put o.dst v') w') : wpList P ops Q (o :: rest) a w := by
  refine wpList_plain hgd fun K hK => ?_
  unfold Oper.wp execOp
  simp only [ho, resolve, invoke, builtin, Sem.run_bind, Sem.run_pure, Result.andThen_ok, List.map_toArray, List.map_cons, List.map_nil, hs, hx, hr]
  exact hK _ _ h

def chn (fr : Bool) (n : Nat) : Nat → List Prt
  | 0 => []
  | f + 1 => ⟨0, fr, n, 0⟩ :: (if bhN fr n = 0 then [] else chn false (bhN fr n) f)

set_option maxRecDepth 20000 in
set_option maxHeartbeats 2000000 in
theorem r_planned (n : Nat) (hn : n ≤ 4096) (w : World) : Calls Tryz.prog 54 #[.int .i64 n] w fun e w' => ∃ g cap, e = .returned (.slice (some ⟨g, 0, none⟩) (chn true n 17).length cap) ∧ PR w' w.heap.size (.slice (some ⟨g, 0, none⟩) (chn true n 17).length cap) (chn true n 17) ∧ Still w w' := by
  obtain ⟨W, hW⟩ : ∃ W, w.alloc (.cells #[.int .i64 0, .int .u64 1919247153, .int .i64 n, .int .i64 0] 101) = W := ⟨_, rfl⟩
  have fW : Still w W := hW ▸ (Fr.refl _ w).alloc _
  have bW : W.heap[w.heap.size]? = some (.cells #[.int .i64 0, .int .u64 1919247153, .int .i64 n, .int .i64 0] 101 (0, 0)) := hW ▸ heap_alloc_new w _
  have pW : PR W w.heap.size (.slice (some ⟨w.heap.size, 0, none⟩) 1 1) [⟨0, true, n, 0⟩] := ⟨rfl, .inr ⟨w.heap.size, 1, _, rfl, Nat.le_refl _, bW, Nat.le_refl _, by unfold maxLen; omega, rfl, rfl⟩⟩
  have c0 : W.cell? ⟨w.heap.size, 0, none⟩ = some (.int .i64 0) := cell_of_obj bW 0
  have c1 : W.cell? ⟨w.heap.size, 1, none⟩ = some (.int .u64 1919247153) := cell_of_obj bW 1
  have c2 : W.cell? ⟨w.heap.size, 2, none⟩ = some (.int .i64 n) := cell_of_obj bW 2
  have c3 : W.cell? ⟨w.heap.size, 3, none⟩ = some (.int .i64 0) := cell_of_obj bW 3
  have BH := p_behind 0 true n 0 (by omega) W
  have HW := hide hW; have HX := hide (And.intro fW pW); have HBH := hide BH
  clear hW fW bW pW BH
  go_enter Tryz.func54, Tryz.ntmps54
  go_wp2_with fail
  rw [unhide HW]
  refine (unhide HBH).mono ?_
  clear HBH HW c0 c1 c2 c3
  rintro e w1 ⟨rfl, f1⟩
  have HX1 := hide (And.intro ((unhide HX).1.trans' f1 (fun _ x => x.elim)) ((unhide HX).2.still f1))
  clear f1 HX
  go_wp2_with fail
  go_loopw [3, 4] (fun v nv wr => ∃ (g cap m f : Nat) (pre : List Prt), v = .slice (some ⟨g, 0, none⟩) pre.length cap ∧ nv = .int .i64 m ∧ m ≤ 248 * f ∧ m ≤ 4096 ∧ pre.length + f = 17 ∧ 1 ≤ pre.length ∧ chn true n 17 = pre ++ (if m = 0 then [] else chn false m f) ∧ PR wr w.heap.size (.slice (some ⟨g, 0, none⟩) pre.length cap) pre ∧ Still w wr) (fun v nv wr => (intOf nv).toNat)
  case atStart =>
    obtain ⟨f1, p1⟩ := unhide HX1
    refine ⟨w.heap.size, 1, bhN true n, 16, [⟨0, true, n, 0⟩], rfl, rfl, ?_, ?_, rfl, by simp, rfl, p1, f1⟩
    · unfold bhN ahd; simp; omega
    · have := bh_le true n; omega
  case round =>
    clear HX1
    obtain ⟨g, cap, m, f, pre, rfl, rfl, hmf, hm4, hpf, hp1, hch, pr, fr⟩ := hrel
    generalize wr = wq at *
    clear wr
    by_cases h0 : m = 0
    · subst h0
      rw [if_pos rfl, List.append_nil] at hch
      rw [← hch] at pr ⊢
      have HX := hide (And.intro pr fr)
      clear pr fr hch
      go_wp2
      go_ret
      exact ⟨g, cap, rfl, unhide HX⟩
    · have h0' : ((0 : Int) < m) = True := by simp; omega
      obtain ⟨f', rfl⟩ : ∃ f', f = f' + 1 := ⟨f - 1, by omega⟩
      obtain ⟨v2, w2, hap, pr2, fr2, loc2⟩ := run_prt wq w.heap.size 95 _ pre pr ⟨0, false, m, 0⟩ (by omega) fr.size
      obtain ⟨g2, cap2, ev2⟩ : ∃ g2 cap2, v2 = .slice (some ⟨g2, 0, none⟩) (pre.length + 1) cap2 := by
        rcases pr2.form with ⟨_, e⟩ | ⟨g2, cap2, e, _⟩
        · simp at e
        · exact ⟨g2, cap2, by rw [e]; simp⟩
      subst ev2
      have hk : (pre ++ [(⟨0, false, m, 0⟩ : Prt)])[pre.length]? = some ⟨0, false, m, 0⟩ := by simp
      obtain ⟨d0, d1, d2, d3⟩ := pr2.cells hk
      have BH := p_behind 0 false m 0 (by omega) w2
      have f02 : Still w w2 := fr.trans' fr2 (fun k hk => .inr (World.ownsRow.lt pr k hk).1)
      have HAP := hide hap; have HBH := hide BH; have HX2 := hide (And.intro f02 (And.intro pr2 (And.intro hch (And.intro hpf hmf))))
      have hpl9 : pre.length ≤ 1000 := by omega
      clear hap BH f02 pr2 fr2 loc2 hk hch pr fr hpf hmf
      generalize hpl : pre.length = pl at *
      have hi1 : (pl : Int) + 1 - 1 = (pl : Int) := by omega
      have HPL := hide hpl
      clear hpl
      go_wp2_with (first | (at_builtin; refine wpList_append_run rfl (.tmp 21) (.tmp 24) 95 rfl _ _ rfl rfl (.slice (some ⟨g2, 0, none⟩) (pl + 1) cap2) w2 (unhide HAP) ?_) | fail)
      refine (unhide HBH).mono ?_
      clear HBH HAP d0 d1 d2 d3
      rintro e w3 ⟨rfl, f3⟩
      have HF3 := hide f3
      clear f3
      go_wp2
      obtain ⟨f02, pr2, hch, hpf, hmf⟩ := unhide HX2
      have hpl := unhide HPL
      refine ⟨⟨g2, cap2, bhN false m, f', pre ++ [⟨0, false, m, 0⟩], by rw [List.length_append, hpl]; rfl, rfl, ?_, ?_, ?_, by simp, ?_, ?_, f02.trans' (unhide HF3) (fun _ x => x.elim)⟩, ?_⟩
      · unfold bhN ahd; simp; omega
      · have := bh_le false m; omega
      · rw [List.length_append, hpl]; simp; omega
      · rw [hch, if_neg h0]
        simp [chn]
      · have := pr2.still (unhide HF3)
        rw [List.length_append, hpl]; exact this
      · have : bhN false m < m := by unfold bhN ahd; simp; omega
        simp [intOf]; omega
end

section
set_option maxHeartbeats 800000 in
theorem onlyE_raw {f : Value} {w : World} {R : How → World → Prop} (K : Calls Tryz.prog 99 #[f] w fun e w' => ∃ h, e = .returned (.tuple #[h.v, .bool h.is]) ∧ R h w') (hk : ∀ h w', R h w' → h = .well ∨ ∃ i, h = .errno i) :
    Calls Tryz.prog 135 #[f] w fun e w' => (e = .returned (.tuple #[.int .i64 0, .bool false]) ∧ R .well w') ∨ ∃ i, e = .returned (.tuple #[.int .i64 i, .bool true]) ∧ R (.errno i) w' := by
  have HK := hide K; clear K
  have a3 := taE_errno
  go_enter Tryz.func135, Tryz.ntmps135
  go_wp2_with fail
  refine (unhide HK).mono ?_
  rintro e w1 ⟨h, rfl, hR⟩
  have hK := hk _ _ hR
  have HR := hide hR; clear hR HK hk
  rcases hK with rfl | ⟨i, rfl⟩
  · simp only [How.v, How.is]
    go_wp2
    go_ret2
    exact .inl ⟨rfl, unhide HR⟩
  · simp only [How.v, How.is]
    go_wp2
    go_ret2
    exact .inr ⟨i, rfl, unhide HR⟩
set_option maxHeartbeats 800000 in
theorem g_errno {f : Value} {w : World} {R : How → World → Prop} (K : Calls Tryz.prog 99 #[f] w fun e w' => ∃ h, e = .returned (.tuple #[h.v, .bool h.is]) ∧ R h w') (hk : ∀ h w', R h w' → h = .well ∨ ∃ i, h = .errno i) :
    Calls Tryz.prog 77 #[f] w fun e w' => (e = .returned (.int .i64 0) ∧ R .well w') ∨ ∃ i, e = .returned (.int .i64 i) ∧ R (.errno i) w' := by
  have HK := hide (onlyE_raw K hk); clear K hk
  go_enter Tryz.func77, Tryz.ntmps77
  go_wp2_with fail
  refine (unhide HK).mono ?_
  clear HK
  rintro e w1 (⟨rfl, h⟩ | ⟨i, rfl, h⟩)
  · have HR := hide h
    clear h
    go_wp2
    go_ret
    exact .inl ⟨rfl, unhide HR⟩
  · have HR := hide h
    clear h
    go_wp2
    go_ret
    exact .inr ⟨i, rfl, unhide HR⟩

section
variable {nu sz : Nat} {w w' w0 : World} {hb sb b : Nat} {T : Tay} {A : Ab} {P : List (Int × Int)}

theorem well_errnoG {i : Int} (h : How.well = How.errno i) : False := by injection h with h; cases h
def Tkn (nu : Nat) (f : Nat → Int) (u : Nat) : Prop := ask nu f u = 32 ∧ u < nu

set_option maxHeartbeats 1000000 in
theorem r_mustC (h : Hp nu sz w hb sb b T A P) (s : HpS nu (says P A)) (u : Nat) (tk : Tkn nu (says P A) u) {b2 b3 b4 : Nat} (c2 : w.cell? ⟨b2, 0, none⟩ = some (ptr hb)) (c3 : w.cell? ⟨b3, 0, none⟩ = some (.int .i64 (fi nu + u * 8))) (c4 : w.cell? ⟨b4, 0, none⟩ = some (.int .i64 0)) (z4 : w.frozen? ⟨b4, 0, none⟩ = false) :
    Calls Tryz.prog 113 #[ptr b2, ptr b3, ptr b4] w fun e w' => e = .returned (.tuple #[]) ∧ ∃ q, w' = (w.drewN q).setCell ⟨b4, 0, none⟩ (.int .i64 32) := by
  have hne : ask nu (says P A) u ≠ 0 := by rw [tk.1]; omega
  have SZ := h_size h.hp h.reads s.wd u tk.2 (begs_of s.inv hne)
  rw [tk.1] at SZ
  have HSZ := hide SZ
  clear SZ h s tk hne
  go_enter Tryz.func113, Tryz.ntmps113
  go_wp2_with fail
  refine (unhide HSZ).mono ?_
  clear HSZ
  rintro e w1 ⟨rfl, q, rfl⟩
  have c4' : (w.drewN q).cell? ⟨b4, 0, none⟩ = some (.int .i64 0) := c4
  have z4' : (w.drewN q).frozen? ⟨b4, 0, none⟩ = false := z4
  clear c4 z4 c2 c3
  go_wp2
  go_end0
  exact ⟨rfl, q, rfl⟩

set_option maxRecDepth 20000 in
set_option maxHeartbeats 2000000 in
theorem r_must (h : Hp nu sz w hb sb b T A P) (s : HpS nu (says P A)) (u : Nat) (fr : Bool) (n : Nat) (nx : Int) (tk : Tkn nu (says P A) u) :
    Calls Tryz.prog 60 #[ptr hb, ptV (fi nu + u * 8) fr n nx] w fun e w' => e = .returned (.tuple #[]) ∧ Still w w' := by
  obtain ⟨W1, hW1⟩ : ∃ W1, w.alloc (.cells #[ptr hb] 25) = W1 := ⟨_, rfl⟩
  obtain ⟨W2, hW2⟩ : ∃ W2, W1.alloc (ptO (fi nu + u * 8) fr n nx) = W2 := ⟨_, rfl⟩
  obtain ⟨W3, hW3⟩ : ∃ W3, W2.alloc (.cells #[.int .i64 0] 3) = W3 := ⟨_, rfl⟩
  obtain ⟨g, hg⟩ : ∃ g, w.heap.size = g := ⟨_, rfl⟩
  have z1 : W1.heap.size = g + 1 := by rw [← hW1]; simp [hg]
  have z2 : W2.heap.size = g + 2 := by rw [← hW2]; simp; omega
  have z3 : W3.heap.size = g + 3 := by rw [← hW3]; simp; omega
  have f1 : Still w W1 := hW1 ▸ (Fr.refl _ w).alloc _
  have f2 : Still W1 W2 := hW2 ▸ (Fr.refl _ W1).alloc _
  have f3 : Still W2 W3 := hW3 ▸ (Fr.refl _ W2).alloc _
  have f23 : Still W1 W3 := f2.trans' f3 (fun _ x => x.elim)
  have f03 : Still w W3 := f1.trans' f23 (fun _ x => x.elim)
  have b1 : Box W3 g (ptr hb) := by
    have := Box.new w (ptr hb) 25
    rw [hW1, hg] at this; exact this.kept f23 (fun x => x)
  have o2 : W3.heap[g + 1]? = some (.cells #[.int .i64 (fi nu + u * 8), .int .u64 (kdN fr), .int .i64 n, .int .i64 nx] 101 (0, 0)) := by
    have := heap_alloc_new W1 (ptO (fi nu + u * 8) fr n nx)
    rw [hW2, z1] at this; exact f3.obj this (fun x => x)
  have b3 : Box W3 (g + 2) (.int .i64 0) := by
    have := Box.new W2 (.int .i64 0) 3
    rw [hW3, z2] at this; exact this
  have TR : Calls Tryz.prog 99 #[.func (.func 113) #[] #[ptr g, ptr (g + 1), ptr (g + 2)]] W3 fun e w' => ∃ h : How, e = .returned (.tuple #[h.v, .bool h.is]) ∧ (h = .well ∧ Fr (fun k => k = g + 2) W3 w' ∧ Box w' (g + 2) (.int .i64 32)) :=
    try_fr (F := fun k => k = g + 2) (fun k hk => by omega) (acts_of (fun _ _ => by kernel_rfl) ((r_mustC (h.still (f03.alloc box)) s u tk (b1.alloc box).c (cell_of_obj (((Fr.refl (fun _ => False) W3).alloc box).obj o2 (fun x => x)) 0) (b3.alloc box).c (b3.alloc box).z).mono (by
      rintro e w' ⟨rfl, q, rfl⟩
      have fr1 : Fr (fun k => k = g + 2) (W3.alloc box) (((W3.alloc box).drewN q).setCell ⟨g + 2, 0, none⟩ (.int .i64 32)) := ((Fr.refl (fun k => k = g + 2) (W3.alloc box)).drewN q).setCell (.inl rfl) _
      refine ⟨.well, rfl, fr1, fun w2 f2 => ⟨rfl, ?_, ?_⟩⟩
      · exact (((Fr.refl (fun k => k = g + 2) W3).alloc box).trans fr1).trans' f2 (fun k hk => .inr (by omega))
      · exact (((b3.alloc box).kept ((Fr.refl (fun _ => False) _).drewN q) (fun x => x)).set _).kept f2 (fun e => by have e : g + 2 = W3.heap.size := e; omega))))
  have ER := g_errno (R := fun h w' => h = .well ∧ Fr (fun k => k = g + 2) W3 w' ∧ Box w' (g + 2) (.int .i64 32)) TR (fun h w' x => .inl x.1)
  have mfk := mf
  have HER := hide ER; have HW := hide (And.intro hW1 (And.intro hW2 hW3)); have HF := hide f03; have HO2 := hide o2
  unfold ptV ptO at *
  clear h s tk TR ER f1 f2 f3 f23 f03 b1 b3 o2 hW1 hW2 hW3 z1 z2
  go_enter Tryz.func60, Tryz.ntmps60
  go_wp2_with fail
  rw [(unhide HW).1, (unhide HW).2.1, (unhide HW).2.2, show g + 1 + 1 = g + 2 from rfl]
  refine (unhide HER).mono ?_
  clear HER HW
  rintro e w4 (⟨rfl, -, f4, b4⟩ | ⟨i, -, e, _⟩)
  · have c4 := b4.c
    have HF4 := hide ((unhide HF).trans' f4 (fun k hk => .inr (by omega)))
    clear f4 b4 HO2 HF
    go_wp2
    go_end0
    exact ⟨rfl, unhide HF4⟩
  · exact (well_errnoG e.symm).elim

theorem wr_parts (fr : Bool) (n q : Nat) (hn : n ≤ 4096) (hq : q < 65536) : ((wrN fr n q : Nat) : Int) / 4294967296 = (kdN fr : Nat) ∧ bits .and .u64 (((wrN fr n q : Nat) : Int) / 65536) 65535 = (n : Nat) ∧ bits .and .u64 ((wrN fr n q : Nat) : Int) 65535 = (q : Nat) ∧ wrN fr n q < 18446744073709551616 := by
  have hk : kdN fr < 4294967296 := by unfold kdN; split <;> omega
  unfold wrN
  generalize kdN fr = k at *
  refine ⟨by omega, ?_, ?_, by omega⟩
  · have e : ((k * 4294967296 + n * 65536 + q : Nat) : Int) / 65536 = ((k * 65536 + n : Nat) : Int) := by omega
    rw [e, show (65535 : Int) = ((65535 : Nat) : Int) from rfl, u64_and_nat _ _ (by omega) (by omega), nat_mask16]
    congr 1
    omega
  · rw [show (65535 : Int) = ((65535 : Nat) : Int) from rfl, u64_and_nat _ _ (by omega) (by omega), nat_mask16]
    congr 1
    omega

structure PtAt (sz : Nat) (f : Nat → Int) (p : Nat) (fr : Bool) (n q : Nat) : Prop where
  w : f p = ((wrN fr n q : Nat) : Int)
  n4 : n ≤ 4096
  q6 : q < 65536
  lo : 8 ≤ p
  m8 : p % 8 = 0
  hi : p + 32 ≤ sz
  nx : q = 0 ↔ bhN fr n = 0

end
end
end Go.Proofs.YtflnaiijdpihcaaGreatDoor
