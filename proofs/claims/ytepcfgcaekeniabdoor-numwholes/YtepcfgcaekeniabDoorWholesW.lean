/- NumWholes walked. -/
import Derived.Test.YtepcfgcaekeniabDoorTextW
import Derived.Test.YtepcfgcaekeniabDoorParseX
import Derived.Test.YtepcfgcaekeniabDoorAwake
import Derived.BigQuiet
namespace Go.Proofs.YtepcfgcaekeniabDoor
open Go.RowKit

/-- The number that digits tell, behind a number that stands ahead of them. -/
def dv : List UInt8 → Nat → Nat
  | [], a => a
  | c :: l, a => dv l (10 * a + (c.toNat - 48))
theorem dv_append (l : List UInt8) (c : UInt8) (a : Nat) : dv (l ++ [c]) a = 10 * dv l a + (c.toNat - 48) := by
  induction l generalizing a with
  | nil => rfl
  | cons b l ih => rw [List.cons_append, dv, ih, dv]
theorem dv_ge (l : List UInt8) (a : Nat) : a ≤ dv l a := by
  induction l generalizing a with
  | nil => exact Nat.le_refl _
  | cons b l ih => rw [dv]; have := ih (10 * a + (b.toNat - 48)); omega
theorem dec_props (u : Nat) : (∀ c ∈ Lib.decDigits u, 48 ≤ c.toNat ∧ c.toNat ≤ 57) ∧ dv (Lib.decDigits u) 0 = u ∧ 1 ≤ (Lib.decDigits u).length ∧ (Lib.decDigits u).length ≤ u + 1 := by
  induction u using Nat.strongRecOn with
  | ind u ih =>
    have hd : ∀ k, k < 10 → (UInt8.ofNat (48 + k)).toNat = 48 + k := by decide
    rw [Lib.decDigits]
    split
    · rename_i h
      refine ⟨fun c hc => ?_, ?_, by simp, by simp⟩
      · rw [List.mem_singleton] at hc; subst hc; rw [hd u h]; omega
      · rw [dv, dv, hd u h]; omega
    · rename_i h
      obtain ⟨i1, i2, i3, i4⟩ := ih (u / 10) (by omega)
      refine ⟨fun c hc => ?_, ?_, by simp, by simp; omega⟩
      · rw [List.mem_append] at hc
        rcases hc with hc | hc
        · exact i1 c hc
        · rw [List.mem_singleton] at hc; subst hc; rw [hd _ (Nat.mod_lt _ (by omega))]; omega
      · rw [dv_append, i2, hd _ (Nat.mod_lt _ (by omega))]; omega

theorem hix_of (S : ByteArray) (T : List UInt8) (hS : S.data.toList = T) (i : Nat) (c : UInt8) (hc : T[i]? = some c) (w : World) : (Instr.index 9 (.string S) (.int .i64 (i : Int))).run Tryd.prog w = .ok (.int .u8 (c.toNat : Int)) w := by
  subst hS
  obtain ⟨hi, rfl⟩ := List.getElem?_eq_some_iff.1 hc
  have : i < S.size := by simpa using hi
  rw [run_index_string w 9 S .i64 _ Tryd.underlying9, dif_pos ⟨by omega, by omega⟩]
  simp only [Int.toNat_natCast]
  rfl
theorem tab_drewN2 {w : World} (h : Tab w) (n : Nat) : Tab (w.drewN n) := h
theorem below_drewN2 (w : World) (n : Nat) : Below w.heap.size w (w.drewN n) := ⟨rfl, rfl, rfl, Nat.le_refl _, fun _ _ => rfl⟩

set_option maxRecDepth 100000 in
set_option maxHeartbeats 2000000 in
theorem wholes_small (n : Int) (h : n.natAbs < 1000000000000000) (w : World) (ht : Tab w) (hp : Pow w) : Calls Tryd.prog 5 #[.int .i64 n] w fun e w' => e = .returned (.bool true) ∧ Below w.heap.size w w' := by
  have hcv : ∀ w, (convert 3 23 (.int .i64 n)).run Tryd.prog w = .ok (.float .f64 (fl n)) w := fun w => run_convert_int_float w 3 23 .i64 .f64 n (by kernel_rfl) Tryd.underlying23
  have hT := text_whole n h w hp
  have hB := Lib.hid h
  obtain ⟨p1, p2, p3, p4⟩ := dec_props n.natAbs
  have z1 : ((-1000000000000000 : Int) < n) = True := by simp; omega
  have z2 : (n < (1000000000000000 : Int)) = True := by simp; omega
  obtain ⟨S, hS⟩ : ∃ S : ByteArray, S = ⟨(Lib.itoa n).toArray⟩ := ⟨_, rfl⟩
  rw [← hS] at hT
  by_cases hn : n < 0
  · have hT2 : Lib.itoa n = 45 :: Lib.decDigits n.natAbs := by unfold Lib.itoa; rw [if_pos hn]
    have hSl : S.data.toList = 45 :: Lib.decDigits n.natAbs := by rw [hS, hT2]
    have hSz : S.size = 1 + (Lib.decDigits n.natAbs).length := by
      have := congrArg List.length hSl; simp at this; omega
    generalize Lib.decDigits n.natAbs = D at *
    have hi0 : ∀ w, (Instr.index 9 (.string S) (.int .i64 0)).run Tryd.prog w = .ok (.int .u8 45) w := fun w => hix_of S _ hSl 0 45 rfl w
    obtain ⟨N, hN⟩ : ∃ N, N = 1 + D.length := ⟨_, rfl⟩
    rw [← hN] at hSz
    have hpos : (0 < N) = True := by simp; omega
    have HN := Lib.hid (show N = 1 + D.length ∧ 1 ≤ D.length ∧ D.length ≤ n.natAbs + 1 from ⟨hN, p3, p4⟩)
    clear hN p3 p4 hS hT2 h
    go_enter Tryd.func5, Tryd.ntmps5
    go_wp2_with (first | (go_at_call 11; refine hT.mono ?_; rintro e w1 ⟨rfl, hb1⟩))
    go_quiet (fail)
    go_wp2_with fail
    go_loop [5, 7] (fun vm vi => ∃ m i : Nat, vm = .int .i64 m ∧ vi = .int .i64 i ∧ Hid (i ≤ 1 + D.length ∧ (i = 0 ∧ m = 0 ∨ 1 ≤ i ∧ dv (D.drop (i - 1)) m = n.natAbs))) (fun _ vi => 1 + D.length - (RowKit.intOf vi).toNat)
    case atStart => exact ⟨0, 0, rfl, rfl, Lib.hid ⟨by omega, .inl ⟨rfl, rfl⟩⟩⟩
    case round =>
      obtain ⟨m, i, rfl, rfl, HI⟩ := hrel
      obtain ⟨i1, i2⟩ := HI.out
      obtain ⟨hN, hD1, hD2⟩ := HN.out
      have h := hB.out
      have i9 : i < 2000000000000000 := by omega
      by_cases hi : i < 1 + D.length
      · have hz : ((i : Int) < (N : Int)) = True := by simp; omega
        rcases i2 with ⟨rfl, rfl⟩ | ⟨i2, i3⟩
        · have L := Lib.hid (show 1 ≤ 1 + D.length ∧ (1 = 0 ∧ 0 = 0 ∨ 1 ≤ 1 ∧ dv (D.drop (1 - 1)) 0 = n.natAbs) from ⟨by omega, .inr ⟨by omega, by simpa using p2⟩⟩)
          have hm : 1 + D.length - 1 < 1 + D.length - 0 := by omega
          clear HI i1 h hN hD1 hD2
          go_wp2
          exact ⟨⟨0, 1, rfl, rfl, L⟩, hm⟩
        · have hj : i - 1 < D.length := by omega
          have hcc : (45 :: D)[i]? = some D[i - 1] := by
            obtain ⟨j, rfl⟩ : ∃ j, i = j + 1 := ⟨i - 1, by omega⟩
            simp
          have hdr : D.drop (i - 1) = D[i - 1] :: D.drop i := by
            rw [List.drop_eq_getElem_cons hj, show i - 1 + 1 = i by omega]
          have hd := p1 _ (List.getElem_mem hj)
          generalize D[i - 1] = c at *
          have hix := hix_of S _ hSl i c hcc
          rw [hdr, dv] at i3
          obtain ⟨d, hdd⟩ : ∃ d, c.toNat = 48 + d := ⟨c.toNat - 48, by omega⟩
          have hge := dv_ge (D.drop i) (10 * m + (c.toNat - 48))
          rw [hdd] at hix i3 hge
          have L := Lib.hid (show i + 1 ≤ 1 + D.length ∧ (i + 1 = 0 ∧ 10 * m + d = 0 ∨ 1 ≤ i + 1 ∧ dv (D.drop (i + 1 - 1)) (10 * m + d) = n.natAbs) from ⟨by omega, .inr ⟨by omega, by rw [← i3]; simp⟩⟩)
          have hm : 1 + D.length - (i + 1) < 1 + D.length - i := by omega
          have b1 : d ≤ 9 := by omega
          have b2 : 10 * m + d < 1000000000000000 := by omega
          have e1 : ((48 + (d : Int)) == 45) = false := by simp; omega
          have e2 : (48 + (d : Int) < 48) = False := by simp only [eq_iff_iff, iff_false]; omega
          have e3 : ((57 : Int) < 48 + (d : Int)) = False := by simp; omega
          clear HI i1 i2 i3 hdd hge hd h hN hi hj hcc hdr hD1 hD2
          go_wp2
          exact ⟨⟨10 * m + d, i + 1, congrArg (Value.int .i64) (by omega), rfl, L⟩, hm⟩
      · obtain rfl : i = N := by omega
        have hz : ((i : Int) < (i : Int)) = False := by simp
        have hmn : m = n.natAbs := by
          rcases i2 with ⟨rfl, -⟩ | ⟨i2, i3⟩
          · omega
          · rw [List.drop_eq_nil_of_le (by omega)] at i3; exact i3
        have e1 : (-(m : Int) == n) = true := by simp; omega
        have b2 : m < 1000000000000000 := by omega
        have htw := ht.on hb1
        clear HI i1 i2 h hN hi hmn hD1 hD2
        go_wp2_with (go_at_call 10; refine (awake_ok _ (tab_drewN2 htw _)).mono ?_; rintro e w2 ⟨rfl, hb2⟩)
        go_ret
        exact ⟨rfl, below_step (below_step hb1 (below_drewN2 w1 _)) hb2⟩
  · have hT2 : Lib.itoa n = Lib.decDigits n.natAbs := by unfold Lib.itoa; rw [if_neg hn, show n.toNat = n.natAbs by omega]
    have hSl : S.data.toList = Lib.decDigits n.natAbs := by rw [hS, hT2]
    have hSz : S.size = 0 + (Lib.decDigits n.natAbs).length := by
      have := congrArg List.length hSl; simp at this; omega
    generalize Lib.decDigits n.natAbs = D at *
    obtain ⟨c0, hc0⟩ : ∃ c, D[0]? = some c := ⟨D[0], List.getElem?_eq_getElem (by omega)⟩
    have hd0 := p1 c0 (List.mem_of_getElem? hc0)
    have hi0 : ∀ w, (Instr.index 9 (.string S) (.int .i64 0)).run Tryd.prog w = .ok (.int .u8 (c0.toNat : Int)) w := fun w => hix_of S _ hSl 0 c0 hc0 w
    have hc45 : ((c0.toNat : Int) == 45) = false := by simp; omega
    clear hc0 hd0
    obtain ⟨N, hN⟩ : ∃ N, N = 0 + D.length := ⟨_, rfl⟩
    rw [← hN] at hSz
    have hpos : (0 < N) = True := by simp; omega
    have HN := Lib.hid (show N = 0 + D.length ∧ 1 ≤ D.length ∧ D.length ≤ n.natAbs + 1 from ⟨hN, p3, p4⟩)
    clear hN p3 p4 hS hT2 h
    go_enter Tryd.func5, Tryd.ntmps5
    go_wp2_with (first | (go_at_call 11; refine hT.mono ?_; rintro e w1 ⟨rfl, hb1⟩))
    go_quiet (fail)
    go_wp2_with fail
    go_loop [5, 7] (fun vm vi => ∃ m i : Nat, vm = .int .i64 m ∧ vi = .int .i64 i ∧ Hid (i ≤ D.length ∧ dv (D.drop i) m = n.natAbs)) (fun _ vi => 0 + D.length - (RowKit.intOf vi).toNat)
    case atStart => exact ⟨0, 0, rfl, rfl, Lib.hid ⟨by omega, by simpa using p2⟩⟩
    case round =>
      obtain ⟨m, i, rfl, rfl, HI⟩ := hrel
      obtain ⟨i1, i2⟩ := HI.out
      obtain ⟨hN, hD1, hD2⟩ := HN.out
      have h := hB.out
      have i9 : i < 2000000000000000 := by omega
      by_cases hi : i < 0 + D.length
      · have hz : ((i : Int) < (N : Int)) = True := by simp; omega
        have i3 := i2
        have hj : i < D.length := by omega
        have hcc : D[i]? = some D[i] := List.getElem?_eq_getElem hj
        have hdr : D.drop i = D[i] :: D.drop (i + 1) := List.drop_eq_getElem_cons hj
        have hd := p1 _ (List.getElem_mem hj)
        generalize D[i] = c at *
        have hix := hix_of S _ hSl i c hcc
        rw [hdr, dv] at i3
        obtain ⟨d, hdd⟩ : ∃ d, c.toNat = 48 + d := ⟨c.toNat - 48, by omega⟩
        have hge := dv_ge (D.drop (i + 1)) (10 * m + (c.toNat - 48))
        rw [hdd] at hix i3 hge
        have L := Lib.hid (show i + 1 ≤ D.length ∧ dv (D.drop (i + 1)) (10 * m + d) = n.natAbs from ⟨by omega, by rw [← i3]; simp⟩)
        have hm : 0 + D.length - (i + 1) < 0 + D.length - i := by omega
        have b1 : d ≤ 9 := by omega
        have b2 : 10 * m + d < 1000000000000000 := by omega
        have e1 : ((48 + (d : Int)) == 45) = false := by simp; omega
        have e2 : (48 + (d : Int) < 48) = False := by simp only [eq_iff_iff, iff_false]; omega
        have e3 : ((57 : Int) < 48 + (d : Int)) = False := by simp; omega
        clear HI i1 i2 i3 hdd hge hd h hN hi hj hcc hdr hD1 hD2
        go_wp2
        exact ⟨⟨10 * m + d, i + 1, congrArg (Value.int .i64) (by omega), rfl, L⟩, hm⟩
      · obtain rfl : i = N := by omega
        have hz : ((i : Int) < (i : Int)) = False := by simp
        have hmn : m = n.natAbs := by
          rw [List.drop_eq_nil_of_le (by omega)] at i2; exact i2
        have e1 : ((m : Int) == n) = true := by simp; omega
        have b2 : m < 1000000000000000 := by omega
        have htw := ht.on hb1
        clear HI i1 i2 h hN hi hmn hD1 hD2
        go_wp2_with (go_at_call 10; refine (awake_ok _ (tab_drewN2 htw _)).mono ?_; rintro e w2 ⟨rfl, hb2⟩)
        go_ret
        exact ⟨rfl, below_step (below_step hb1 (below_drewN2 w1 _)) hb2⟩

set_option maxRecDepth 100000 in
set_option maxHeartbeats 2000000 in
theorem wholes_big (n : Int) (h : 1000000000000000 ≤ n.natAbs) (h2 : n.natAbs ≤ 9223372036854775808) (w : World) (ht : Tab w) : Calls Tryd.prog 5 #[.int .i64 n] w fun e w' => e = .returned (.bool true) ∧ Below w.heap.size w w' := by
  have hcv : ∀ w, (convert 3 23 (.int .i64 n)).run Tryd.prog w = .ok (.float .f64 (fl n)) w := fun w => run_convert_int_float w 3 23 .i64 .f64 n (by kernel_rfl) Tryd.underlying23
  obtain ⟨f1, f2, f3⟩ := fl_big n h h2
  have hT := text_big (fl n) f1 f2 f3 w ht
  have hn : nanB (fl n) = false := by simp only [nanB, decide_eq_false_iff_not, Nat.not_lt]; omega
  have hP := parse_hexT (fl n) f1 hn
  have ho : (FloatKind.f64.format.order (fl n) (fl n) == some Ordering.eq) = true := by rw [ord_self' _ f1, hn]; rfl
  have hlen : (hexT (fl n)).length = 18 := by
    obtain ⟨l1, l2⟩ := hexL_length (fl n) f1
    simp [hexT]; omega
  obtain ⟨l, hl⟩ : ∃ l, hexT (fl n) = 48 :: 120 :: l := ⟨_, rfl⟩
  obtain ⟨S, hS⟩ : ∃ S : ByteArray, S = ⟨(hexT (fl n)).toArray⟩ := ⟨_, rfl⟩
  rw [← hS] at hT hP
  have hSz : S.size = 18 := by rw [hS]; show (hexT (fl n)).toArray.size = 18; rw [List.size_toArray]; exact hlen
  have hsl : ∀ w, (Instr.sliceAt 9 (.string S) none (some (.int .i64 2)) none).run Tryd.prog w = .ok (.string ⟨#[48, 120]⟩) w := fun w => by
    rw [run_sliceAt_string w 9 _ _ _ _ Tryd.underlying9]
    go_simp
    rw [if_pos (by omega), show (⟨(48 :: 120 :: l).toArray⟩ : ByteArray).extract 0 2 = ⟨#[48, 120]⟩ by apply ByteArray.ext; simp [ByteArray.data_extract]]
  have htw : ∀ w1, Below w.heap.size w w1 → Tab w1 := fun w1 hb => ht.on hb
  have zz : ((-1000000000000000 : Int) < n) = False ∨ ((-1000000000000000 : Int) < n) = True ∧ (n < (1000000000000000 : Int)) = False := by
    by_cases k : (-1000000000000000 : Int) < n
    · exact .inr ⟨by simpa using k, by simp; omega⟩
    · exact .inl (by simpa using k)
  clear h h2 f2 f3 hl hlen hS
  generalize fl n = b at *
  rcases zz with z1 | ⟨z1, z2⟩
  all_goals
    go_enter Tryd.func5, Tryd.ntmps5
    go_wp2_with (first | (go_at_call 11; refine hT.mono ?_; rintro e w1 ⟨rfl, hb1⟩) | (go_at_call 12; refine (hP _).mono ?_; rintro e w' ⟨rfl, rfl⟩) | (go_at_call 10; refine (awake_ok _ (htw _ hb1)).mono ?_; rintro e w2 ⟨rfl, hb2⟩))
    go_ret
    exact ⟨rfl, below_step hb1 hb2⟩

theorem wholes_ok (n : Int) (h1 : -9223372036854775808 ≤ n) (h2 : n ≤ 9223372036854775807) (w : World) (ht : Tab w) (hp : Pow w) : Calls Tryd.prog 5 #[.int .i64 n] w fun e w' => e = .returned (.bool true) ∧ Below w.heap.size w w' := by
  by_cases h : n.natAbs < 1000000000000000
  · exact wholes_small n h w ht hp
  · exact wholes_big n (by omega) (by omega) w ht
end Go.Proofs.YtepcfgcaekeniabDoor
