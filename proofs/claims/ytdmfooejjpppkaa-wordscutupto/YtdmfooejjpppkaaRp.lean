/- The document's own Pack and Unpack; the law's own same. -/
import Derived.Test.YtdmfooejjpppkaaUp
namespace Go.Proofs.Ytdmfooejjpppkaa
open Go.RowKit

/-- A text of n bytes. -/
def strB (f : Nat → Nat) (n : Nat) : ByteArray := strOfNums ((rowL f n).map fun (x : Nat) => (x : Int))
theorem strB_size (f : Nat → Nat) (n : Nat) : (strB f n).size = n := by rw [strB, strOfNums_size]; simp [rowL]
theorem strB_congr (f g : Nat → Nat) (n : Nat) (h : ∀ i, i < n → f i = g i) : strB f n = strB g n := by
  unfold strB rowL
  congr 2
  exact List.map_congr_left fun i hi => h i (by simpa using hi)
theorem conv_str (w : World) (a : Option Addr) (len cap : Nat) (f : Nat → Nat) (hN : Nats .u8 w a len f) :
    (convert 22 9 (.slice a len cap)).run Try.prog w = .ok (.string (strB f len)) w := by
  by_cases h : len = 0
  · subst h
    rw [run_convert_bytes_string w 22 9 5 _ 0 cap Try.underlying22 Try.underlying5 Try.underlying9]
    cases a <;> simp [Conv.bytesToString, loadCells, strB, rowL, strOfNums]
    all_goals rfl
  · obtain ⟨xb, xo, rfl, _⟩ := hN 0 (by omega)
    refine run_convert_bytes_arg (P := Try.prog) w 22 5 Try.underlying22 Try.underlying5 xb xo len cap _ (by simp [rowL]) ?_ 9 Try.underlying9
    intro i hi
    obtain ⟨_, _, e, c⟩ := hN i hi
    cases e
    rw [c]
    simp [rowL, hi]
theorem index_run (f : Nat → Nat) (n k : Nat) (hk : k < n) (hf : f k < 256) (w : World) : (Instr.index 9 (.string (strB f n)) (.int .i64 (k : Int))).run Try.prog w = .ok (.int .u8 ((f k : Nat) : Int)) w := by
  have hs := strB_size f n
  rw [run_index_string w 9 (strB f n) .i64 _ Try.underlying9, dif_pos ⟨by omega, by omega⟩]
  have h1 : k < (strB f n).data.size := by rw [show (strB f n).data.size = (strB f n).size from rfl, hs]; exact hk
  have h2 : (strB f n).data[k] = UInt8.ofNat (f k) := by
    simp [strB, strOfNums, rowL]
  have h3 : ((strB f n).data[((k : Nat) : Int).toNat]'(by simpa using h1)).toNat = f k := by
    simp only [Int.toNat_natCast]
    rw [h2]; simp; omega
  have : (strB f n)[((k : Nat) : Int).toNat]'(by simpa [hs] using hk) = (strB f n).data[((k : Nat) : Int).toNat]'(by simpa using h1) := rfl
  rw [this, h3]

theorem drew_add (w : World) (q n : Nat) : (w.drewN q).drewN n = w.drewN (q + n) := by unfold World.drewN; simp [Nat.add_assoc]
/-- The law's own 'same', where they are. -/
theorem same_ok (a b : Option Addr) (n c1 c2 : Nat) (f : Nat → Nat) (w : World) (hA : Nats .u64 w a n f) (hB : Nats .u64 w b n f) (hn : n ≤ 1000000) :
    Calls Try.prog 13 #[.slice a n c1, .slice b n c2] w fun e w' => e = .returned (.bool true) ∧ ∃ q, w' = w.drewN q := by
  have HA := hide hA
  have HB := hide hB
  clear hA hB
  go_enter Try.func13, Try.ntmps13
  go_wp2_with fail
  go_loopw [5] (fun vi wr => ∃ k q : Nat, vi = .int .i64 k ∧ Hid (k ≤ n) ∧ wr = w.drewN q) (fun vi wr => n - (RowKit.intOf vi).toNat)
  case atStart => exact ⟨0, 0, rfl, hide (Nat.zero_le _), rfl⟩
  case round =>
    obtain ⟨k, q, rfl, HK, rfl⟩ := hrel
    by_cases hlt : k < n
    · have hlt' : (k : Int) < n := by omega
      obtain ⟨xb, xo, rfl, c1⟩ := unhide HA k hlt
      obtain ⟨yb, yo, rfl, c2⟩ := unhide HB k hlt
      generalize f k = x at *
      go_wp2_with fail
      go_quiet (fail)
      rw [drew_add]
      go_wp2
      go_roundw
      case rel => exact ⟨k + 1, q + nq, by go_num, hide hlt, rfl⟩
      case measure => simp [RowKit.intOf]; omega
    · have hlt' : ¬ (k : Int) < n := by omega
      go_wp2
      go_ret
      exact ⟨rfl, q, rfl⟩

theorem packI_step (f : Nat → Nat) (n k : Nat) (L : List Nat) (hl : L.length = 2 + k / 8) (hL : ∀ j, j < 2 + k / 8 → L.getD j 0 = packI f n k j) :
    L.set (1 + k / 8) (wordN f k (k / 8) ||| f k * 2 ^ (8 * (k % 8))) = rowL (packI f n (k + 1)) (need (k + 1)) := by
  have hd : need (k + 1) = 2 + k / 8 := by unfold need; omega
  apply List.ext_getElem
  · simp [rowL, hl, hd]
  · intro j h1 h2
    have hj : j < 2 + k / 8 := by simpa [rowL, hd] using h2
    have e1 : (rowL (packI f n (k + 1)) (need (k + 1)))[j] = packI f n (k + 1) j := by simp [rowL]
    rw [e1]
    by_cases h : j = 1 + k / 8
    · subst h
      rw [List.getElem_set_self]
      unfold packI
      rw [if_neg (by omega), show 1 + k / 8 - 1 = k / 8 by omega, word_succ, if_pos rfl]
    · rw [List.getElem_set_ne (Ne.symm h)]
      have h3 := hL j hj
      have h4 : L.getD j 0 = L[j]'(by omega) := by simp [show j < L.length by omega]
      rw [← h4, h3]
      unfold packI
      by_cases h0 : j = 0
      · rw [if_pos h0, if_pos h0]
      · rw [if_neg h0, if_neg h0, word_succ, if_neg (by omega)]
theorem packI_same (f : Nat → Nat) (n k : Nat) (h : k % 8 ≠ 0) : (rowL (packI f n k) (need k)).length = 2 + k / 8 ∧ ∀ j, j < 2 + k / 8 → (rowL (packI f n k) (need k)).getD j 0 = packI f n k j := by
  have hd : need k = 2 + k / 8 := by unfold need; omega
  exact ⟨by rw [rowL_len, hd], fun j hj => rowL_get _ _ _ (by omega)⟩
theorem packI_more (f : Nat → Nat) (n k : Nat) (h : k % 8 = 0) : (rowL (packI f n k) (need k) ++ [0]).length = 2 + k / 8 ∧ ∀ j, j < 2 + k / 8 → (rowL (packI f n k) (need k) ++ [0]).getD j 0 = packI f n k j := by
  have hd : need k = 1 + k / 8 := by unfold need; omega
  refine ⟨by simp [rowL, hd]; omega, fun j hj => ?_⟩
  by_cases h1 : j < need k
  · rw [List.getD_eq_getElem?_getD, List.getElem?_append_left (by rw [rowL_len]; exact h1), ← List.getD_eq_getElem?_getD, rowL_get _ _ _ h1]
  · have e : j = need k := by omega
    rw [List.getD_eq_getElem?_getD, List.getElem?_append_right (by rw [rowL_len]; omega), rowL_len, e]
    unfold packI
    rw [if_neg (by omega), word_far f k _ (by omega)]
    simp

set_option maxRecDepth 100000 in
set_option maxHeartbeats 2000000 in
theorem refPack_ok (f : Nat → Nat) (n : Nat) (w : World) (hf : ∀ i, i < n → f i < 256) (hn : n ≤ 60000) :
    Calls Try.prog 14 #[.string (strB f n)] w fun e w' => Below w.heap.size w w' ∧ ∃ g cap, e = .returned (.slice (some ⟨g, 0, none⟩) (need n) cap) ∧ Nats .u64 w' (some ⟨g, 0, none⟩) (need n) (packF f n) := by
  have HF := hide hf
  have hsz := strB_size f n
  have H0 := hide (OwnL.one .u64 26 w n)
  have B0 := hide ((Below.refl w.heap.size w).alloc (Nat.le_refl _) (.cells #[.int .u64 (n : Nat)] 26))
  clear hf
  go_enter Try.func14, Try.ntmps14
  go_wp2_with fail
  go_loopw [3, 4] (fun v vi wr => ∃ k : Nat, vi = .int .i64 k ∧ Hid (k ≤ n ∧ OwnL .u64 26 wr w.heap.size v (rowL (packI f n k) (need k)) ∧ Below w.heap.size w wr)) (fun v vi wr => n - (RowKit.intOf vi).toNat)
  case atStart => exact ⟨0, rfl, hide ⟨Nat.zero_le _, unhide H0, unhide B0⟩⟩
  case round =>
    obtain ⟨k, rfl, HI⟩ := hrel
    obtain ⟨hk, hO, hB⟩ := unhide HI
    by_cases hlt : k < n
    · have hlt' : (k : Int) < n := by omega
      have hbs : w.heap.size ≤ wr.heap.size := hB.size
      have hlen : (rowL (packI f n k) (need k)).length + 1 ≤ 1000000 := by rw [rowL_len]; unfold need; omega
      clear HI
      have HO := hide hO
      have HB := hide hB
      clear hO hB
      by_cases h8 : k % 8 = 0
      · have h8' : (k : Int) % 8 = 0 := by omega
        have hpm := packI_more f n k h8
        have HLL := hide hpm.1
        have HLG := hide hpm.2
        have HST := hide (packI_step f n k _ hpm.1 hpm.2)
        clear hpm
        generalize rowL (packI f n k) (need k) = L at *
        go_wp2_with (at_builtin; refine append_u64 wr rfl (.tmp 19) (.tmp 20) rfl w.heap.size _ L 0 rfl (unhide HO) rfl hlen hbs ?_)
        intro v' w2 hP
        have hO2 := hP.own
        have hB2 := (unhide HB).trans hP.bel
        clear hP HO HB h8' h8
        generalize L ++ [0] = L2 at *
        rcases hO2.form with ⟨_, hn0⟩ | ⟨g, cap, rfl, hcap, hg, hgl, hcell, hfz⟩
        · exfalso; have h1 := unhide HLL; rw [hn0] at h1; simp only [List.length_nil] at h1; omega
        have hLL := unhide HLL
        have ck := hcell (1 + k / 8) (by omega)
        have zk := hfz (1 + k / 8)
        rw [unhide HLG _ (by omega), show packI f n k (1 + k / 8) = wordN f k (k / 8) by unfold packI; rw [if_neg (by omega), show 1 + k / 8 - 1 = k / 8 by omega]] at ck
        rw [hLL] at hO2
        have HO3 := hide hO2
        have hwl := word_lt f k (k / 8) (fun i hi => unhide HF i (by omega))
        have hfk := unhide HF k hlt
        have hx := fun w => index_run f n k hlt hfk w
        have hidx : (2 + (k : Int) / 8 - 1) = ((1 + k / 8 : Nat) : Int) := by omega
        rw [hLL]
        clear hcell hfz hO2 hLL hsz
        have HB3 := hide (hB2.setCell (p := ⟨g, 1 + k / 8, none⟩) hg (.int .u64 ((wordN f k (k / 8) ||| f k * 2 ^ (8 * (k % 8)) : Nat) : Int)))
        have HO4 := hide ((unhide HO3).set (1 + k / 8) (wordN f k (k / 8) ||| f k * 2 ^ (8 * (k % 8))))
        rw [unhide HST] at HO4
        have hor := or_shl (wordN f k (k / 8)) (f k) (8 * (k % 8)) hwl hfk (by omega)
        generalize (wordN f k (k / 8) ||| f k * 2 ^ (8 * (k % 8))) = nv at *
        generalize wordN f k (k / 8) = ov at *
        generalize hfe : f k = fk at *
        clear hfe HST HLG HLL HO3 hB2
        go_wp2_with fail
        refine region_tailP 16 (by kernel_rfl) (by kernel_rfl) ?_
        simp only [List.take, List.drop]
        repeat (go_big_quiet_step (fail))
        refine wpQuiet_nil ?_
        rintro _ ⟨nr, rfl⟩
        have c2 : (w2.drewN nr).cell? ⟨g, 1 + k / 8, none⟩ = some (.int .u64 (ov : Nat)) := ck
        have z2 : (w2.drewN nr).frozen? ⟨g, 1 + k / 8, none⟩ = false := zk
        have HB5 := hide (show Below w.heap.size w ((w2.drewN nr).setCell ⟨g, 1 + k / 8, none⟩ (.int .u64 (nv : Nat))) from Below.drewN' (unhide HB3) nr)
        have HO5 := hide (show OwnL .u64 26 ((w2.drewN nr).setCell ⟨g, 1 + k / 8, none⟩ (.int .u64 (nv : Nat))) w.heap.size (.slice (some ⟨g, 0, none⟩) (2 + k / 8) cap) (rowL (packI f n (k + 1)) (need (k + 1))) from unhide HO4)
        clear ck zk HB3 HO4 hx
        generalize w2.drewN nr = w3 at *
        go_wp2
        go_roundw
        case rel => exact ⟨k + 1, by go_num, hide ⟨by omega, unhide HO5, unhide HB5⟩⟩
        case measure => simp [RowKit.intOf]; omega
      · have h8' : ¬ (k : Int) % 8 = 0 := by omega
        have hpm := packI_same f n k h8
        have HLL := hide hpm.1
        have HLG := hide hpm.2
        have HST := hide (packI_step f n k _ hpm.1 hpm.2)
        have hO2 := unhide HO
        have hB2 := unhide HB
        clear hpm HO HB
        generalize rowL (packI f n k) (need k) = L2 at *
        rcases hO2.form with ⟨_, hn0⟩ | ⟨g, cap, rfl, hcap, hg, hgl, hcell, hfz⟩
        · exfalso; have h1 := unhide HLL; rw [hn0] at h1; simp only [List.length_nil] at h1; omega
        have hLL := unhide HLL
        have ck := hcell (1 + k / 8) (by omega)
        have zk := hfz (1 + k / 8)
        rw [unhide HLG _ (by omega), show packI f n k (1 + k / 8) = wordN f k (k / 8) by unfold packI; rw [if_neg (by omega), show 1 + k / 8 - 1 = k / 8 by omega]] at ck
        rw [hLL] at hO2
        have HO3 := hide hO2
        have hwl := word_lt f k (k / 8) (fun i hi => unhide HF i (by omega))
        have hfk := unhide HF k hlt
        have hx := fun w => index_run f n k hlt hfk w
        have hidx : (2 + (k : Int) / 8 - 1) = ((1 + k / 8 : Nat) : Int) := by omega
        rw [hLL]
        clear hcell hfz hO2 hLL
        have HB3 := hide (hB2.setCell (p := ⟨g, 1 + k / 8, none⟩) hg (.int .u64 ((wordN f k (k / 8) ||| f k * 2 ^ (8 * (k % 8)) : Nat) : Int)))
        have HO4 := hide ((unhide HO3).set (1 + k / 8) (wordN f k (k / 8) ||| f k * 2 ^ (8 * (k % 8))))
        rw [unhide HST] at HO4
        have hor := or_shl (wordN f k (k / 8)) (f k) (8 * (k % 8)) hwl hfk (by omega)
        generalize (wordN f k (k / 8) ||| f k * 2 ^ (8 * (k % 8))) = nv at *
        generalize wordN f k (k / 8) = ov at *
        generalize hfe : f k = fk at *
        clear hfe HST HLG HLL HO3 hB2
        go_wp2_with fail
        refine region_tailP 16 (by kernel_rfl) (by kernel_rfl) ?_
        simp only [List.take, List.drop]
        repeat (go_big_quiet_step (fail))
        refine wpQuiet_nil ?_
        rintro _ ⟨nr, rfl⟩
        have c2 : (wr.drewN nr).cell? ⟨g, 1 + k / 8, none⟩ = some (.int .u64 (ov : Nat)) := ck
        have z2 : (wr.drewN nr).frozen? ⟨g, 1 + k / 8, none⟩ = false := zk
        have HB5 := hide (show Below w.heap.size w ((wr.drewN nr).setCell ⟨g, 1 + k / 8, none⟩ (.int .u64 (nv : Nat))) from Below.drewN' (unhide HB3) nr)
        have HO5 := hide (show OwnL .u64 26 ((wr.drewN nr).setCell ⟨g, 1 + k / 8, none⟩ (.int .u64 (nv : Nat))) w.heap.size (.slice (some ⟨g, 0, none⟩) (2 + k / 8) cap) (rowL (packI f n (k + 1)) (need (k + 1))) from unhide HO4)
        clear ck zk HB3 HO4 hx
        generalize wr.drewN nr = w3 at *
        go_wp2
        go_roundw
        case rel => exact ⟨k + 1, by go_num, hide ⟨by omega, unhide HO5, unhide HB5⟩⟩
        case measure => simp [RowKit.intOf]; omega
    · have hlt' : ¬ (k : Int) < n := by omega
      obtain rfl : k = n := by omega
      clear HI
      rcases hO.form with ⟨_, hn0⟩ | ⟨g, cap, rfl, hcap, hg, hgl, hcell, hfz⟩
      · exfalso; have h1 := rowL_len (packI f k k) (need k); rw [hn0] at h1; simp only [List.length_nil] at h1; unfold need at h1; omega
      have hL := rowL_len (packI f k k) (need k)
      have HC := hide hcell
      have HB := hide hB
      rw [hL]
      clear hL
      clear hcell hfz hO hB H0 B0
      go_wp2
      go_ret
      refine ⟨unhide HB, g, ?_⟩
      refine ⟨⟨cap, rfl⟩, fun i hi => ⟨g, 0, rfl, ?_⟩⟩
      rw [Nat.zero_add, unhide HC i (by rw [rowL_len]; exact hi), rowL_get _ _ _ hi]
      rfl

theorem over_false (v : Nat → Nat) (n : Nat) (hv : v (need n - 1) < 18446744073709551616) (h : ∀ i, n ≤ i → i < 8 * (need n - 1) → byteF v i = 0) : over v (need n) n = false := by
  unfold over
  by_cases h8 : 0 < n % 8
  · have hd : need n - 1 = 1 + n / 8 := by unfold need; omega
    rw [decide_eq_true h8, Bool.true_and, decide_eq_false]
    rw [hd] at hv ⊢
    intro hp
    have : v (1 + n / 8) / 2 ^ (8 * (n % 8)) = 0 := by
      apply Nat.eq_of_testBit_eq
      intro m
      rw [Nat.testBit_div_two_pow, Nat.zero_testBit]
      by_cases hm : m + 8 * (n % 8) < 64
      · have hb := h (8 * (n / 8) + (m + 8 * (n % 8)) / 8) (by omega) (by rw [hd]; omega)
        unfold byteF at hb
        rw [show 1 + (8 * (n / 8) + (m + 8 * (n % 8)) / 8) / 8 = 1 + n / 8 by omega, show (8 * (n / 8) + (m + 8 * (n % 8)) / 8) % 8 = (m + 8 * (n % 8)) / 8 by omega] at hb
        have h2 : (v (1 + n / 8) / 2 ^ (8 * ((m + 8 * (n % 8)) / 8)) % 2 ^ 8).testBit ((m + 8 * (n % 8)) % 8) = false := by
          rw [show (2 : Nat) ^ 8 = 256 from rfl, hb]; simp
        rw [Nat.testBit_mod_two_pow, Nat.testBit_div_two_pow, decide_eq_true (by omega), Bool.true_and] at h2
        rw [← h2]; congr 1; omega
      · exact Nat.testBit_lt_two_pow (Nat.lt_of_lt_of_le hv (Nat.pow_le_pow_right (n := 2) (by decide) (show 64 ≤ m + 8 * (n % 8) by omega)))
    omega
  · rw [decide_eq_false h8]; rfl
theorem over_true (v : Nat → Nat) (n i : Nat) (h1 : n ≤ i) (h2 : i < 8 * (need n - 1)) (h : byteF v i ≠ 0) : over v (need n) n = true := by
  have hn : need n = 1 + (n + 7) / 8 := rfl
  have h8 : 0 < n % 8 := by omega
  have hd : need n - 1 = 1 + n / 8 := by omega
  have hi : i / 8 = n / 8 := by omega
  unfold over
  rw [decide_eq_true h8, Bool.true_and, decide_eq_true_eq, hd]
  unfold byteF at h
  rw [hi] at h
  have h3 : 2 ^ (8 * (i % 8)) ≤ v (1 + n / 8) := by
    rcases Nat.lt_or_ge (v (1 + n / 8)) (2 ^ (8 * (i % 8))) with h4 | h4
    · rw [Nat.div_eq_of_lt h4] at h; simp at h
    · exact h4
  have h4 : 2 ^ (8 * (n % 8)) ≤ 2 ^ (8 * (i % 8)) := Nat.pow_le_pow_right (by decide) (by omega)
  exact Nat.div_pos (Nat.le_trans h4 h3) (Nat.pow_pos (by decide))

set_option maxRecDepth 100000 in
set_option maxHeartbeats 2000000 in
theorem refUnpack_ok (a : Option Addr) (m cap : Nat) (v : Nat → Nat) (w : World) (hN : Nats .u64 w a m v) (hv : ∀ i, i < m → v i < 18446744073709551616) (hm : m ≤ 100000) :
    Calls Try.prog 12 #[.slice a m cap] w fun e w' => Below w.heap.size w w' ∧
      ((unE v m ≠ 0 ∧ e = .returned (.tuple #[.string ⟨#[]⟩, .int .i64 (unE v m : Nat)])) ∨
       (unE v m = 0 ∧ e = .returned (.tuple #[.string (strB (byteF v) (v 0)), .int .i64 0]))) := by
  have HN := hide hN
  by_cases h0 : m = 0
  · subst h0
    clear hN hv
    go_enter Try.func12, Try.ntmps12
    go_wp2
    go_ret2
    exact ⟨Below.refl _ _, .inl ⟨by simp [unE], rfl⟩⟩
  · obtain ⟨xb, xo, rfl, c⟩ := hN 0 (by omega)
    have hv0 := hv 0 (by omega)
    have hmi : ¬ (m : Int) = 0 := by omega
    rw [Nat.add_zero] at c
    by_cases h1 : 65536 < v 0
    · have h1' : (65536 : Int) < (v 0 : Nat) := by omega
      have HE := hide (show unE v m = 3 by unfold unE; rw [if_neg h0, if_pos h1])
      clear hN hv
      generalize v 0 = n at *
      go_enter Try.func12, Try.ntmps12
      go_wp2
      go_ret2
      exact ⟨Below.refl _ _, .inl ⟨(by rw [unhide HE]; decide), (by rw [unhide HE]; rfl)⟩⟩
    · have h1' : ¬ (65536 : Int) < (v 0 : Nat) := by omega
      have hw : wrap64 (v 0 : Nat) = (v 0 : Nat) := by unfold wrap64; omega
      have hsz : 1 + ((v 0 : Nat) + 7 : Int) / 8 = (need (v 0) : Nat) := by unfold need; omega
      by_cases h2 : m < need (v 0)
      · have h2' : (m : Int) < (need (v 0) : Nat) := by omega
        have HE := hide (show unE v m = 4 by unfold unE; rw [if_neg h0, if_neg h1, if_pos h2])
        clear hN hv h2
        generalize need (v 0) = d at *
        generalize v 0 = n at *
        go_enter Try.func12, Try.ntmps12
        go_wp2
        go_ret2
        exact ⟨Below.refl _ _, .inl ⟨(by rw [unhide HE]; decide), (by rw [unhide HE]; rfl)⟩⟩
      · have h2' : ¬ (m : Int) < (need (v 0) : Nat) := by omega
        have HE3 := hide (show (need (v 0) < m ∨ over v m (v 0) = true) → unE v m = 3 from fun h3 => by unfold unE; rw [if_neg h0, if_neg h1, if_neg h2, if_pos h3])
        have HE0 := hide (show ¬ (need (v 0) < m ∨ over v m (v 0) = true) → unE v m = 0 from fun h3 => by unfold unE; rw [if_neg h0, if_neg h1, if_neg h2, if_neg h3])
        have HOT := hide (over_true v (v 0))
        have HOF := hide (over_false v (v 0) (hv _ (by unfold need; unfold need at h2; omega)))
        have HVV := hide hv
        obtain ⟨w1, hmk, hM⟩ := make_bytes (8 * (need (v 0) - 1)) (by unfold need; omega) w
        have HM := hide hM
        have hcc : 8 * (((need (v 0) : Nat) : Int) - 1) = ((8 * (need (v 0) - 1) : Nat) : Int) := by unfold need; omega
        have HDN := hide (show need (v 0) = 1 + (v 0 + 7) / 8 from rfl)
        have HD := hide (show 8 * (need (v 0) - 1) = 8 * (need (v 0) - 1) from rfl)
        clear hN hv hM
        generalize hD : 8 * (need (v 0) - 1) = D at *
        have HDD := hide hD
        clear hD
        generalize hd : need (v 0) = d at *
        have HND := hide hd
        clear hd
        generalize hn : v 0 = n at *
        have HV := hide hn
        clear hn
        go_enter Try.func12, Try.ntmps12
        go_wp2_with fail
        go_loopw [7] (fun vi wr => ∃ k : Nat, vi = .int .i64 k ∧ Hid (k ≤ D ∧ Mem .u8 w w.heap.size D (fun i => if i < k then byteF v i else 0) wr ∧ ∀ i, n ≤ i → i < k → byteF v i = 0)) (fun vi wr => D - (RowKit.intOf vi).toNat)
        case atStart => exact ⟨0, rfl, hide ⟨Nat.zero_le _, (unhide HM).ext fun i _ => by simp, fun i _ h => by omega⟩⟩
        case round =>
          obtain ⟨k, rfl, HI⟩ := hrel
          obtain ⟨hk, hM, hZ⟩ := unhide HI
          have hDD := unhide HDD
          have hdn := unhide HDN
          by_cases hlt : k < D
          · have hlt' : (k : Int) < D := by omega
            have hp : 1 + k / 8 < m := by omega
            obtain ⟨_, _, e1, c1⟩ := ((unhide HN).on hM.bel) (1 + k / 8) hp
            cases e1
            have c2 := hM.cell k hlt
            rw [if_neg (by omega)] at c2
            have z2 := hM.fz k
            have hval : ((v (1 + k / 8) : Nat) : Int) / 2 ^ (8 * (k % 8)) % 256 = ((byteF v k : Nat) : Int) := by rw [shr_nat]; unfold byteF; rw [Int.natCast_emod]; rfl
            have HM2 := hide (hM.set k (byteF v k) hlt)
            have HZ := hide hZ
            clear HI
            have HM1 := hide hM
            clear hM hZ hmk hdn hDD
            generalize v (1 + k / 8) = x at *
            have hst := fun (w : World) (a : Addr) (x : Int) (m : Mode) => run_store Try.prog w a (.int .u8 x) m rfl
            by_cases hbad : n ≤ k ∧ byteF v k ≠ 0
            · have hb1 : (n : Int) ≤ k := by omega
              have hb2 : ¬ ((byteF v k : Nat) : Int) = 0 := by omega
              have HE := hide (show unE v m = 3 from unhide HE3 (by
                by_cases hdm : d < m
                · exact .inl hdm
                · right
                  have e : m = d := by omega
                  rw [e]
                  exact unhide HOT k hbad.1 hlt hbad.2))
              clear hbad
              generalize byteF v k = y at *
              go_wp2
              go_ret2
              exact ⟨(unhide HM2).bel, .inl ⟨(by rw [unhide HE]; decide), (by rw [unhide HE]; rfl)⟩⟩
            · have HBD := hide hbad
              have HYY := hide (show byteF v k = byteF v k from rfl)
              by_cases hb1 : n ≤ k
              · have hb1' : (n : Int) ≤ k := by omega
                have hy0 : byteF v k = 0 := by
                  rcases Nat.eq_zero_or_pos (byteF v k) with h | h
                  · exact h
                  · exact absurd ⟨hb1, by omega⟩ hbad
                have HY0 := hide hy0
                rw [hy0] at hval HM2
                clear hbad hy0 HYY
                go_wp2
                go_roundw
                case rel =>
                  refine ⟨k + 1, by go_num, hide ⟨hlt, (unhide HM2).ext fun i _ => ?_, fun i h1 h2 => ?_⟩⟩
                  · by_cases hi : i = k
                    · rw [if_pos hi, if_pos (by omega), hi, unhide HY0]
                    · rw [if_neg hi]
                      by_cases h2 : i < k
                      · rw [if_pos h2, if_pos (by omega)]
                      · rw [if_neg h2, if_neg (by omega)]
                  · by_cases hi : i = k
                    · rw [hi]; exact unhide HY0
                    · exact unhide HZ i h1 (by omega)
                case measure => simp [RowKit.intOf]; omega
              · have hb1' : ¬ (n : Int) ≤ k := by omega
                clear hbad
                have HYK := hide (show ∀ i, (if i = k then byteF v k else if i < k then byteF v i else 0) = if i < k + 1 then byteF v i else 0 by
                  intro i
                  by_cases hi : i = k
                  · rw [if_pos hi, if_pos (by omega), hi]
                  · rw [if_neg hi]
                    by_cases h2 : i < k
                    · rw [if_pos h2, if_pos (by omega)]
                    · rw [if_neg h2, if_neg (by omega)])
                clear HYY
                generalize byteF v k = y at *
                go_wp2
                go_roundw
                case rel => exact ⟨k + 1, by go_num, hide ⟨hlt, (unhide HM2).ext fun i _ => unhide HYK i, fun i h1 h2 => unhide HZ i h1 (by omega)⟩⟩
                case measure => simp [RowKit.intOf]; omega
          · have hlt' : ¬ (k : Int) < D := by omega
            obtain rfl : k = D := by omega
            have hov : m = d → over v m n = false := by
              intro e
              rw [e]
              exact unhide HOF (fun i h1 h2 => hZ i h1 h2)
            have hnD : n ≤ k := by omega
            have HNA := hide (show Nats .u8 wr (some ⟨w.heap.size, 0, none⟩) n (byteF v) from fun i hi => ⟨_, _, rfl, by rw [Nat.zero_add, hM.cell i (by omega), if_pos (by omega)]⟩)
            have HB := hide hM.bel
            clear HI hM hZ hDD hdn hmk
            by_cases hdm : d < m
            · have hdm' : (d : Int) < m := by omega
              have HE := hide (show unE v m = 3 from unhide HE3 (.inl hdm))
              go_wp2
              go_ret2
              exact ⟨unhide HB, .inl ⟨(by rw [unhide HE]; decide), (by rw [unhide HE]; rfl)⟩⟩
            · have hdm' : ¬ (d : Int) < m := by omega
              have HE := hide (show unE v m = 0 from unhide HE0 (by
                rintro (h | h)
                · exact hdm h
                · rw [hov (by omega)] at h; cases h))
              have hcv := conv_str wr (some ⟨w.heap.size, 0, none⟩) n k (byteF v) (unhide HNA)
              clear hov
              go_wp2
              go_ret2
              refine ⟨unhide HB, .inr ⟨unhide HE, ?_⟩⟩
              rfl
end Go.Proofs.Ytdmfooejjpppkaa
