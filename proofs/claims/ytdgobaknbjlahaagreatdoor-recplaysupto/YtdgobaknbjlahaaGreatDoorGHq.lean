/- isFree, firstFree, piece, Size, Free, Root. -/
import Derived.Test.YtdgobaknbjlahaaGreatDoorGHr
import Derived.Test.YtdgobaknbjlahaaGreatDoorTxA
namespace Go.Proofs.YtdgobaknbjlahaaGreatDoor
open Go.RowKit

/-- All of the heap's own words are words. -/
def Words64 (nu : Nat) (f : Nat → Int) : Prop := ∀ i, i < fi nu → 0 ≤ f i ∧ f i < 18446744073709551616

abbrev errnoQ (i : Int) : List PanicEntry := [{ v := .iface 33 (.int .i64 i), recovered := false }]

section
variable {nu sz : Nat} {w : World} {hb sb : Nat} {f : Nat → Int}

theorem and_bit (x j : Nat) (hx : x < 18446744073709551616) : bits .and .u64 ((x : Int) / 2 ^ j) 1 = ((x / 2 ^ j % 2 : Nat) : Int) := by
  have e : ((x : Int) / 2 ^ j) = ((x / 2 ^ j : Nat) : Int) := by simp
  rw [e, show (1 : Int) = ((1 : Nat) : Int) from rfl, u64_and_nat _ _ (Nat.lt_of_le_of_lt (Nat.div_le_self _ _) hx) (by omega), nat_mask1]

set_option maxHeartbeats 1000000 in
theorem h_isFree (h : HpL nu sz w hb sb) (rd : Rds sz w sb f) (wd : Words64 nu f) (k b : Nat) (hk : k < 7) (hb' : b < 64 * gr nu k) :
    Calls Tryz.prog 102 #[ptr hb, .int .i64 k, .int .i64 b] w fun e w' => e = .returned (.bool (decide (b < nu / 2 ^ k) && fre nu f k b)) ∧ ∃ q, w' = w.drewN q := by
  have c0 := h.c0; have ck := h.cb k hk
  obtain ⟨g1, g2, g3, g4, g5, g6⟩ := h.geo.b
  have BK : ∀ q, Calls Tryz.prog 105 #[ptr hb, .int .i64 k] (w.drewN q) _ := fun q => h_blocks hb k hk (w.drewN q) (by omega) h.c1
  have bl := Bw_lt hb'
  obtain ⟨r0, r1⟩ := wd (Bw nu k + b / 64) (by omega)
  have LD := fun q => rd q (Bw nu k + b / 64) (by omega)
  obtain ⟨x, hx⟩ : ∃ x : Nat, f (Bw nu k + b / 64) = x := ⟨(f (Bw nu k + b / 64)).toNat, by omega⟩
  have hfr : fre nu f k b = decide (x / 2 ^ (b % 64) % 2 = 1) := by
    unfold fre
    rw [decide_eq_true hb', Bool.true_and, hx, Int.toNat_natCast, Nat.testBit_eq_decide_div_mod_eq]
  have AB := and_bit x (b % 64) (by omega)
  have hb5 : b ≤ 4100 := by have := gr_le' nu k; omega
  have EB : ((x : Int) / 2 ^ (b % 64) % 2 != 0) = decide (x / 2 ^ (b % 64) % 2 = 1) := by
    have e : ((x : Int) / 2 ^ (b % 64) % 2) = ((x / 2 ^ (b % 64) % 2 : Nat) : Int) := by simp
    rw [e]
    rcases Nat.mod_two_eq_zero_or_one (x / 2 ^ (b % 64)) with e | e <;> rw [e] <;> rfl
  have EB := hide EB
  rw [hfr]
  have e2 : ((Bw nu k + b / 64 : Nat) : Int) = (Bw nu k : Int) + (b : Int) / 64 := by omega
  simp only [hx, e2] at LD
  have bl3 : Bw nu k + b / 64 ≤ 300 := by omega
  clear bl g1 g2 g3 g4 g6 hb'
  generalize Bw nu k = B at *
  have hn4 : nu / 2 ^ k ≤ 4000 := Nat.le_trans (Nat.div_le_self _ _) g5.2
  clear g5
  generalize nu / 2 ^ k = n at *
  have HLD := @hide _ LD
  have HBK := @hide _ BK
  clear LD h rd BK hfr wd
  go_enter Tryz.func102, Tryz.ntmps102
  by_cases hlt : b < n
  · have hlt' : ((b : Int) < n) = True := by simp; omega
    go_wp2_with fail
    refine region_tailP 26 (by kernel_rfl) (by kernel_rfl) ?_
    simp only [List.take_succ_cons, List.take_zero, List.drop_succ_cons, List.drop_zero]
    repeat (go_big_quiet_step (first | (go_at_call 36; exact Calls.quiet_of_same (unhide HLD _)) | (go_at_call 105; exact Calls.quiet_of_same (unhide HBK _))))
    refine wpQuiet_nil ?_
    rintro _ ⟨nq, rfl⟩
    clear HLD HBK
    go_wp2
    go_ret
    exact ⟨by rw [decide_eq_true hlt, Bool.true_and]; rfl, nq, rfl⟩
  · have hlt' : ((b : Int) < n) = False := by simp; omega
    go_wp2_with fail
    refine region_tailP 26 (by kernel_rfl) (by kernel_rfl) ?_
    simp only [List.take_succ_cons, List.take_zero, List.drop_succ_cons, List.drop_zero]
    repeat (go_big_quiet_step (first | (go_at_call 36; exact Calls.quiet_of_same (unhide HLD _)) | (go_at_call 105; exact Calls.quiet_of_same (unhide HBK _))))
    refine wpQuiet_nil ?_
    rintro _ ⟨nq, rfl⟩
    clear HLD HBK
    go_wp2
    go_ret
    exact ⟨by rw [decide_eq_false hlt, Bool.false_and]; rfl, nq, rfl⟩

theorem gr_eq {k : Nat} (hk : k < 7) : (((nu / 2 ^ k : Nat) : Int) + 64 - 1) / 64 = gr nu k := by
  rw [gr_div hk]
  generalize nu / 2 ^ k = x
  omega
theorem gr_le (g : Geo nu sz) (k : Nat) : gr nu k ≤ 63 := by have := gr_le' nu k; have := g.hi; omega
theorem fre_zero {k i : Nat} (h : ∀ j, j < i → f (Bw nu k + j) = 0) {b : Nat} (hb' : b / 64 < i) : fre nu f k b = false := by
  unfold fre
  rw [h _ hb']
  simp

set_option maxHeartbeats 2000000 in
theorem h_firstFree (h : HpL nu sz w hb sb) (rd : Rds sz w sb f) (wd : Words64 nu f) (k : Nat) (hk : k < 7) (hin : ∀ b, fre nu f k b = true → b < nu / 2 ^ k) :
    Calls Tryz.prog 118 #[ptr hb, .int .i64 k] w fun e w' => ((∃ b : Nat, e = .returned (.tuple #[.int .i64 b, .bool true]) ∧ fre nu f k b = true) ∨ (e = .returned (.tuple #[.int .i64 0, .bool false]) ∧ ∀ b, fre nu f k b = false)) ∧ Dr w w' := by
  obtain ⟨g1, g2, g3, g4, g5, g6⟩ := h.geo.b
  have BK := h_blocks hb k hk w (by omega) h.c1
  have GR := h_groups ((nu / 2 ^ k : Nat) : Int) 64 (Int.natCast_nonneg _) (by have : nu / 2 ^ k ≤ nu := Nat.div_le_self _ _; omega) (by omega) (by omega) w
  rw [gr_eq hk] at GR
  have g8 := gr_le h.geo k
  have HH := hide h; have HRD := hide rd; have HWD := hide wd; have HIN := hide hin
  have hn5 : nu / 2 ^ k ≤ 4000 := Nat.le_trans (Nat.div_le_self _ _) g5.2
  clear h rd wd hin
  go_enter Tryz.func118, Tryz.ntmps118
  go_wp2_with (first | (go_at_call 105; refine BK.mono ?_; rintro e w' ⟨rfl, hh⟩; replace hh := hh.symm; subst hh) | (go_at_call 103; refine GR.mono ?_; rintro e w' ⟨rfl, hh⟩; replace hh := hh.symm; subst hh))
  clear BK GR
  go_loopw [12] (fun i wr => ∃ m : Nat, m ≤ gr nu k ∧ i = .int .i64 m ∧ (∀ j, j < m → f (Bw nu k + j) = 0) ∧ Dr w wr) (fun i wr => gr nu k - (intOf i).toNat)
  case atStart => exact ⟨0, by omega, rfl, fun j hj => by omega, Dr.refl w⟩
  case round =>
    obtain ⟨m, hm, rfl, hz, hdr⟩ := hrel
    by_cases hlt : m < gr nu k
    · have bl := Bw_lt (nu := nu) (k := k) (b := 64 * m) (by omega)
      have em : 64 * m / 64 = m := by omega
      rw [em] at bl
      obtain ⟨r0, r1⟩ := unhide HWD (Bw nu k + m) (by omega)
      have LD := fun q => (unhide HRD).dr hdr q (Bw nu k + m) (by omega)
      have c0 := ((unhide HH).dr hdr).c0; have ck := ((unhide HH).dr hdr).cb k hk
      obtain ⟨x, hx⟩ : ∃ x : Nat, f (Bw nu k + m) = x := ⟨(f (Bw nu k + m)).toNat, by omega⟩
      have e2 : ((Bw nu k + m : Nat) : Int) = (Bw nu k : Int) + (m : Int) := by omega
      simp only [hx, e2] at LD
      have HLD := @hide _ LD
      have hx64 : x < 18446744073709551616 := by omega
      have HZ := hide hz; have HDR := hide hdr; have HX := hide hx
      have bl3 : Bw nu k + m ≤ 300 := by omega
      have hn4 := g5.2
      clear LD hz hdr hx g1 g2 g3 g4 g5 g6 bl em e2
      generalize hB : Bw nu k = B at *
      have HB := hide hB
      clear hB
      go_wp2_with fail
      refine region_tailP 13 (by kernel_rfl) (by kernel_rfl) ?_
      simp only [List.take_succ_cons, List.take_zero, List.drop_succ_cons, List.drop_zero]
      repeat (go_big_quiet_step (first | (go_at_call 36; exact Calls.quiet_of_same (unhide HLD _))))
      refine wpQuiet_nil ?_
      rintro _ ⟨nq, rfl⟩
      clear HLD c0 ck
      have HDR2 := hide ((unhide HDR).trans ⟨nq, rfl⟩)
      by_cases hx0 : x = 0
      · subst hx0
        go_wp2
        refine ⟨⟨m + 1, by omega, by go_num, fun j hj => ?_, unhide HDR2⟩, by simp [intOf]; omega⟩
        by_cases e : j = m
        · subst e; exact unhide HX
        · exact unhide HZ j (by omega)
      · have hx0' : ((x : Int) != 0) = true := by simp; omega
        have TZ := tz_ok x hx64 hx0 (wr.drewN nq) ((unhide HH).dr (unhide HDR2)).tab
        obtain ⟨cb1, cb2⟩ := ctz_bit x hx64 hx0
        have hfr : fre nu f k (64 * m + Lib.ctz 64 x) = true := by
          unfold fre
          have e1 : (64 * m + Lib.ctz 64 x) / 64 = m := by omega
          have e2 : (64 * m + Lib.ctz 64 x) % 64 = Lib.ctz 64 x := by omega
          rw [e1, e2, unhide HB, unhide HX, Int.toNat_natCast, cb1, decide_eq_true (by omega)]; rfl
        have hlt2 := unhide HIN _ hfr
        have BK : Calls Tryz.prog 105 #[ptr hb, .int .i64 k] (wr.drewN nq) _ := h_blocks hb k hk _ (by omega) ((unhide HH).dr (unhide HDR2)).c1
        have HFR := hide hfr
        clear hfr cb1 HX HB HZ hx0
        generalize Lib.ctz 64 x = c at *
        have e47 : ((nu / 2 ^ k : Nat) : Int) = nu / 2 ^ k := by simp
        have hlt3 : 64 * (m : Int) + c < nu / 2 ^ k := by rw [← e47]; omega
        clear e47
        go_wp2_with (first | (go_at_call 105; refine BK.mono ?_; rintro e w' ⟨rfl, hh⟩; replace hh := hh.symm; subst hh) | (go_at_call 106; refine TZ.mono ?_; rintro e w' ⟨rfl, hh⟩; replace hh := hh.symm; subst hh))
        go_ret2
        exact ⟨.inl ⟨64 * m + c, by simp, unhide HFR⟩, unhide HDR2⟩
    · have : m = gr nu k := by omega
      subst this
      have HZ := hide hz; have HDR := hide hdr
      clear hz hdr
      go_wp2
      go_ret2
      refine ⟨.inr ⟨rfl, fun b => ?_⟩, unhide HDR⟩
      by_cases hb2 : b < 64 * gr nu k
      · exact fre_zero (unhide HZ) (by omega)
      · unfold fre; simp [hb2]
end
end Go.Proofs.YtdgobaknbjlahaaGreatDoor
