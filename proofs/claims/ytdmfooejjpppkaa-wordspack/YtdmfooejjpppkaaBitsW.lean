/- WordsBits: one byte turned turns one word, at its place. -/
import Derived.Test.YtdmfooejjpppkaaUv
namespace Go.Proofs.Ytdmfooejjpppkaa
open Go.RowKit

theorem tmod_abs (z : Int) (n : Nat) (hn : 0 < n) : -(n : Int) < z.tmod n ∧ z.tmod n < n := by
  by_cases h : 0 ≤ z
  · rw [Int.tmod_eq_emod_of_nonneg h]
    have := Int.emod_nonneg z (show (n : Int) ≠ 0 by omega)
    have := Int.emod_lt_of_pos z (show (0 : Int) < n by omega)
    omega
  · have e : z.tmod n = -((-z).tmod n) := by rw [Int.neg_tmod, Int.neg_neg]
    rw [e, Int.tmod_eq_emod_of_nonneg (by omega)]
    have := Int.emod_nonneg (-z) (show (n : Int) ≠ 0 by omega)
    have := Int.emod_lt_of_pos (-z) (show (0 : Int) < n by omega)
    omega
theorem place (z : Int) (n : Nat) (hn : 0 < n) (hm : n ≤ 100000) : ∃ k : Nat, k < n ∧ (wrap64 (z.tmod n + n)).tmod n = k := by
  have h := tmod_abs z n hn
  have e : wrap64 (z.tmod n + n) = z.tmod n + n := by unfold wrap64; omega
  rw [e, Int.tmod_eq_emod_of_nonneg (by omega)]
  have := Int.emod_nonneg (z.tmod n + n) (show (n : Int) ≠ 0 by omega)
  have := Int.emod_lt_of_pos (z.tmod n + n) (show (0 : Int) < n by omega)
  exact ⟨((z.tmod n + n) % n).toNat, by omega, by omega⟩

theorem cast_shl (y s : Nat) : ((y * 2 ^ s : Nat) : Int) = (y : Int) * 2 ^ s := by rw [Int.natCast_mul, Int.natCast_pow]; rfl
/-- One byte turned. -/
def turnB (b : Nat → Nat) (k x : Nat) : Nat → Nat := fun i => if i = k then x else b i
theorem turn_word (b : Nat → Nat) (n k y j : Nat) (hk : k < n) (hy : y < 256) (hb : ∀ i, i < n → b i < 256) :
    wordN (turnB b k (b k ^^^ y)) n j = if j = k / 8 then wordN b n j ^^^ y * 2 ^ (8 * (k % 8)) else wordN b n j := by
  have hc : ∀ i, i < n → turnB b k (b k ^^^ y) i < 256 := by
    intro i hi
    unfold turnB
    split
    · exact Nat.xor_lt_two_pow (n := 8) (hb k hk) hy
    · exact hb i hi
  apply Nat.eq_of_testBit_eq
  intro m
  rw [word_bit _ _ _ _ hc]
  by_cases h : j = k / 8
  · rw [if_pos h, Nat.testBit_xor, word_bit _ _ _ _ hb, Nat.testBit_mul_two_pow]
    unfold turnB
    by_cases h1 : 8 * j + m / 8 = k
    · by_cases h2 : m < 64
      · rw [if_pos h1, Nat.testBit_xor, decide_eq_true (show m < 64 ∧ 8 * j + m / 8 < n by omega), decide_eq_true (show 8 * (k % 8) ≤ m by omega), h1, show m - 8 * (k % 8) = m % 8 by omega]
        simp
      · omega
    · rw [if_neg h1]
      have h0 : (decide (8 * (k % 8) ≤ m) && y.testBit (m - 8 * (k % 8))) = false := by
        by_cases e2 : 8 * (k % 8) ≤ m
        · have : 8 ≤ m - 8 * (k % 8) := by omega
          rw [Nat.testBit_lt_two_pow (Nat.lt_of_lt_of_le hy (Nat.pow_le_pow_right (n := 2) (by decide) this))]; simp
        · simp [e2]
      rw [h0, Bool.xor_false]
  · rw [if_neg h, word_bit _ _ _ _ hb]
    unfold turnB
    by_cases h2 : m < 64
    · rw [if_neg (by omega)]
    · simp [h2]
theorem byte_of (b : Nat → Nat) (n k : Nat) (hk : k < n) (hb : ∀ i, i < n → b i < 256) : wordN b n (k / 8) / 2 ^ (8 * (k % 8)) % 256 = b k := by
  apply Nat.eq_of_testBit_eq
  intro m
  rw [show (256 : Nat) = 2 ^ 8 from rfl, Nat.testBit_mod_two_pow, Nat.testBit_div_two_pow, word_bit _ _ _ _ hb]
  by_cases h : m < 8
  · rw [show 8 * (k / 8) + (m + 8 * (k % 8)) / 8 = k by omega, show (m + 8 * (k % 8)) % 8 = m by omega, decide_eq_true h, decide_eq_true (show m + 8 * (k % 8) < 64 ∧ k < n by omega)]
    simp
  · rw [Nat.testBit_lt_two_pow (Nat.lt_of_lt_of_le (hb k hk) (Nat.pow_le_pow_right (n := 2) (by decide) (show 8 ≤ m by omega)))]
    simp [h]
theorem set_turn (b : Nat → Nat) (n k x : Nat) (hk : k < n) (i : Nat) (hi : i < n) : ((rowL b n).set k x).getD i 0 = turnB b k x i := by
  unfold turnB
  by_cases h : i = k
  · subst h; simp [rowL, hi]
  · rw [if_neg h, List.getD_eq_getElem?_getD, List.getElem?_set_ne (Ne.symm h)]; simp [rowL, hi]

set_option maxRecDepth 100000 in
set_option maxHeartbeats 4000000 in
theorem bits_ok (a : Option Addr) (len cap : Nat) (z : Int) (y : Nat) (W : World) (b : Nat → Nat) (hN : Nats .u8 W a len b) (hb : ∀ i, i < len → b i < 256) (hnil : a = none → len = 0 ∧ cap = 0) (hy : y < 256) :
    Calls Try.prog 3 #[.slice a len cap, .int .i64 z, .int .u8 y] W fun e w' => e = .returned (.bool true) ∧ Below W.heap.size W w' := by
  have KP := hide pack_ok
  have KA := hide awake_ok
  have HN := hide hN
  have HB := hide hb
  have HNI := hide hnil
  clear hN hb hnil
  by_cases h0 : len = 0 ∨ 1000 < len
  · have HP := hide (pack_ok none 0 0 (fun _ => 0) W (fun i hi => by omega) (fun _ _ => by decide) (by decide))
    have hcond : (len : Int) = 0 ∨ (1000 : Int) < len := by omega
    rcases hcond with hc | hc
    · obtain rfl : len = 0 := by omega
      go_enter Try.func3, Try.ntmps3
      go_wp2_with fail
      refine (unhide HP).mono ?_
      rintro e w1 ⟨rfl, hM⟩
      have n1 : need 0 = 1 := rfl
      rw [n1]
      have HB1 := hide hM.bel
      clear hM HP
      go_wp2_with fail
      refine (unhide KA w1).mono ?_
      rintro e w2 ⟨rfl, hB⟩
      have HB2 := hide ((unhide HB1).trans (hB.mono (unhide HB1).size))
      clear hB
      go_wp2
      go_ret
      exact ⟨rfl, unhide HB2⟩
    · have hc' : ¬ (len : Int) = 0 := by omega
      go_enter Try.func3, Try.ntmps3
      go_wp2_with fail
      refine (unhide HP).mono ?_
      rintro e w1 ⟨rfl, hM⟩
      have n1 : need 0 = 1 := rfl
      rw [n1]
      have HB1 := hide hM.bel
      clear hM HP
      go_wp2_with fail
      refine (unhide KA w1).mono ?_
      rintro e w2 ⟨rfl, hB⟩
      have HB2 := hide ((unhide HB1).trans (hB.mono (unhide HB1).size))
      clear hB
      go_wp2
      go_ret
      exact ⟨rfl, unhide HB2⟩
  · have hc0 : ¬ (len : Int) = 0 := by omega
    have hc1 : ¬ (1000 : Int) < len := by omega
    obtain ⟨k, hk, hz⟩ := place z len (by omega) (by omega)
    obtain ⟨xb, xo, rfl, _⟩ := (unhide HN) 0 (by omega)
    clear HNI
    have hE := hide (OwnL.empty .u8 5 W)
    have hB0 := hide ((Below.refl W.heap.size W).alloc (Nat.le_refl _) (.cells #[] 5))
    have hsz : W.heap.size ≤ (W.alloc (.cells #[] 5)).heap.size := (unhide hB0).size
    have HSZ := hide hsz
    clear hsz
    go_enter Try.func3, Try.ntmps3
    go_wp2_with (at_builtin; refine append_row infoB (by decide) Try.underlying22 _ rfl (.tmp 37) (.tmp 38) rfl W.heap.size _ [] rfl (unhide hE) (some ⟨xb, xo, none⟩) len cap b rfl (fun e => by cases e) ((unhide HN).on (unhide hB0)) (by simp; omega) (unhide HSZ) ?_)
    intro v1 w1 hM1
    have hM1 : More .u8 5 (W.alloc (.cells #[] 5)) W.heap.size v1 (rowL b len) w1 := by simpa using hM1
    rcases hM1.own.form with ⟨_, hn⟩ | ⟨g, cap1, rfl, hcap, hg, hgl, hcell, hfz⟩
    · have := rowL_len b len; rw [hn] at this; simp at this; omega
    have hlen := rowL_len b len
    rw [hlen]
    have ck := hcell k (by rw [hlen]; exact hk)
    rw [rowL_get b len k hk] at ck
    have zk := hfz k
    have hbk := unhide HB k hk
    have hX := u8_xor_nat (b k) y hbk hy
    have HX := hide (show b k ^^^ y < 256 from Nat.xor_lt_two_pow (n := 8) hbk hy)
    have HTW := hide (fun j => turn_word b len k y j hk hy (unhide HB))
    have HBO := hide (byte_of b len k hk (unhide HB))
    have hO2 := hM1.own.set k (b k ^^^ y)
    rw [hlen] at hO2
    have HO2 := hide hO2
    clear hO2
    have HB2 := hide (((unhide hB0).trans hM1.bel).setCell (p := ⟨g, k, none⟩) hg (.int .u8 ((b k ^^^ y : Nat) : Int)))
    have hst := fun (w : World) (a : Addr) (x : Int) (m : Mode) => run_store Try.prog w a (.int .u8 x) m rfl
    clear hcell hfz hM1
    generalize hxx : b k ^^^ y = x at *
    have HXX := hide hxx
    clear hxx
    generalize hbk0 : b k = bk at *
    have HBK := hide hbk0
    clear hbk0
    go_wp2_with fail
    generalize w1.setCell ⟨g, k, none⟩ (.int .u8 (x : Nat)) = w2 at *
    clear ck zk hX hst
    refine (unhide KP (some ⟨xb, xo, none⟩) len cap b w2 ((unhide HN).on (unhide HB2)) (unhide HB) (by omega)).mono ?_
    rintro e w3 ⟨rfl, hP⟩
    have HP := hide hP
    clear hP
    go_wp2_with fail
    refine (unhide KP (some ⟨g, 0, none⟩) len cap1 (turnB b k x) w3 ?nn ?bb (by omega)).mono ?_
    case nn =>
      have h1 := ((unhide HO2).below (unhide HP).bel (Nat.le_refl _)).natsAt
      intro i hi
      obtain ⟨xb, xo, e, c⟩ := h1.2 i (by simp [rowL]; exact hi)
      exact ⟨xb, xo, e, by rw [c, ← set_turn b len k x hk i hi]⟩
    case bb =>
      intro i hi
      unfold turnB
      split
      · exact unhide HX
      · exact unhide HB i hi
    rintro e w4 ⟨rfl, hQ⟩
    have HBW := hide (((unhide HB2).trans ((unhide HP).bel.mono (unhide HB2).size)).trans (hQ.bel.mono (Nat.le_trans (unhide HB2).size (unhide HP).bel.size)))
    have HCP := hide ((unhide HP).nats.on hQ.bel)
    have HCQ := hide hQ.nats
    have HL := hide (fun j => word_lt b len j (unhide HB))
    clear hQ HP
    have hm' : 1 + ((len : Int) + 7) / 8 = (need len : Nat) := by unfold need; omega
    have HNE := hide (show need len = 1 + (len + 7) / 8 from rfl)
    have HQ := hide (show ∀ j, packF (turnB b k x) len j = if j = 1 + k / 8 then packF b len j ^^^ y * 2 ^ (8 * (k % 8)) else packF b len j by
      intro j
      have e := unhide HTW (j - 1)
      unfold packF
      by_cases hj : j = 0
      · rw [if_pos hj, if_neg (by omega), if_pos hj]
      · rw [if_neg hj, e, if_neg hj]
        by_cases h2 : j = 1 + k / 8
        · rw [if_pos (by omega), if_pos h2]
        · rw [if_neg (by omega), if_neg h2])
    have HPL := hide (show ∀ j, packF b len j < 18446744073709551616 by
      intro j; unfold packF; split
      · omega
      · exact unhide HL _)
    have HP0 := hide (show packF b len 0 = len from rfl)
    have HPK := hide (show packF b len (1 + k / 8) / 2 ^ (8 * (k % 8)) % 256 = bk by
      rw [show packF b len (1 + k / 8) = wordN b len (k / 8) by unfold packF; rw [if_neg (by omega)]; simp, unhide HBO])
    clear HL HTW HBO HO2 HX HXX hE
    generalize packF (turnB b k x) len = q at *
    generalize packF b len = p at *
    generalize need len = m at *
    generalize w3.heap.size = g4 at *
    generalize w2.heap.size = g3 at *
    clear HB2 hB0 HSZ
    go_wp2_with fail
    go_loop [11] (fun vi => ∃ j : Nat, vi = .int .i64 j ∧ Hid (j ≤ m)) (fun vi => m - (RowKit.intOf vi).toNat)
    case atStart => exact ⟨0, rfl, hide (Nat.zero_le _)⟩
    case round =>
      obtain ⟨j, rfl, HJ⟩ := hrel
      by_cases hlt : j < m
      · have hlt' : (j : Int) < m := by omega
        obtain ⟨_, _, e1, cp⟩ := unhide HCP j hlt
        cases e1
        obtain ⟨_, _, e1, cq⟩ := unhide HCQ j hlt
        cases e1
        rw [Nat.zero_add] at cp cq
        rw [unhide HQ j] at cq
        have hpl := unhide HPL j
        by_cases hj : j = 1 + k / 8
        · rw [if_pos hj] at cq
          have hxr := u64_xor_nat (p j) (y * 2 ^ (8 * (k % 8))) hpl (shl_nat y _ hy (by omega))
          have hsw := shl_wrap y (8 * (k % 8)) hy (by omega)
          rw [cast_shl] at hxr hsw
          subst hj
          generalize p (1 + k / 8) = pj at *
          go_wp2
          exact ⟨⟨1 + k / 8 + 1, by go_num, hide hlt⟩, by simp [RowKit.intOf]; omega⟩
        · have hje : ¬ ((j : Int) = 1 + (k : Int) / 8) := by omega
          rw [if_neg hj] at cq
          generalize p j = pj at *
          go_wp2
          exact ⟨⟨j + 1, by go_num, hide hlt⟩, by simp [RowKit.intOf]; omega⟩
      · have hlt' : ¬ (j : Int) < m := by omega
        have hm0 : 0 < m := by have := unhide HNE; omega
        have hmk : 1 + k / 8 < m := by have := unhide HNE; omega
        obtain ⟨_, _, e1, c0⟩ := unhide HCP 0 hm0
        cases e1
        obtain ⟨_, _, e1, c1⟩ := unhide HCP (1 + k / 8) hmk
        cases e1
        rw [Nat.zero_add] at c1
        rw [unhide HP0] at c0
        obtain ⟨_, _, e1, cb⟩ := ((unhide HN).on (unhide HBW)) k hk
        cases e1
        rw [unhide HBK] at cb
        have hpk := unhide HPK
        generalize p (1 + k / 8) = pk at *
        have hpi : ((pk : Int) / 2 ^ (8 * (k % 8))) % 256 = (bk : Int) := by
          rw [← hpk, Int.natCast_emod, Int.natCast_ediv, Int.natCast_pow]; rfl
        clear hpk
        clear HCP HCQ HQ HPL HP0 HPK HJ
        go_wp2_with fail
        refine region_tailP 26 (by kernel_rfl) (by kernel_rfl) ?_
        simp only [List.take, List.drop]
        repeat (go_big_quiet_step (fail))
        refine wpQuiet_nil ?_
        rintro _ ⟨nq, rfl⟩
        generalize hwd : w4.drewN nq = wd at *
        have HB5 := hide (show Below W.heap.size W wd by rw [← hwd]; exact Below.drewN' (unhide HBW) nq)
        clear hwd c0 c1 cb hpi
        go_wp2_with fail
        refine (unhide KA wd).mono ?_
        rintro e w6 ⟨rfl, hB⟩
        have HB6 := hide ((unhide HB5).trans (hB.mono (unhide HB5).size))
        clear hB
        go_wp2
        go_ret
        exact ⟨rfl, unhide HB6⟩
end Go.Proofs.Ytdmfooejjpppkaa
