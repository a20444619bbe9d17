/- cover: blocks, whole; Check. -/
import Derived.Test.YtdgobaknbjlahaaGreatDoorGHc
namespace Go.Proofs.YtdgobaknbjlahaaGreatDoor
open Go.RowKit

/-- The blocks that were gone through: the levels below k, of level k those of the words below i; of the word i those that are no longer in x. -/
def Dm (F : Nat → Nat → Bool) (k i : Nat) : Nat → Nat → Bool := fun j c => F j c && (decide (j < k) || (decide (j = k) && decide (c / 64 < i)))
def Dn (F : Nat → Nat → Bool) (k i x : Nat) : Nat → Nat → Bool := fun j c => F j c && (decide (j < k) || (decide (j = k) && (decide (c / 64 < i) || (decide (c / 64 = i) && !x.testBit (c % 64)))))

theorem bool3 {a b c : Bool} (h : a = true → b = c) : (a && b) = (a && c) := by cases a; rfl; exact congrArg _ (h rfl)

section
variable {nu sz : Nat} {f : Nat → Int} {k i : Nat}
theorem dm_0 : Dm (fre nu f) 0 0 = fun _ _ => false := by funext j c; simp [Dm]
theorem dn_word (x : Nat) (hx : f (Bw nu k + i) = x) : Dn (fre nu f) k i x = Dm (fre nu f) k i := by
  funext j c
  unfold Dn Dm
  refine bool3 fun h => ?_
  by_cases e : j = k
  · subst e
    by_cases e2 : c / 64 = i
    · have h2 : x.testBit (c % 64) = true := by
        unfold fre at h
        rw [e2, hx, Int.toNat_natCast] at h
        simp at h
        exact h.2
      rw [h2]; simp
    · simp [e2]
  · simp [e]
theorem dn_done : Dn (fre nu f) k i 0 = Dm (fre nu f) k (i + 1) := by
  funext j c
  unfold Dn Dm
  refine bool3 fun _ => ?_
  by_cases e : j = k
  · subst e
    have : (c / 64 < i + 1) = (c / 64 < i ∨ c / 64 = i) := by simp only [eq_iff_iff]; omega
    simp [this]
  · simp [e]
theorem dm_next : Dm (fre nu f) k (gr nu k) = Dm (fre nu f) (k + 1) 0 := by
  funext j c
  unfold Dm
  refine bool3 fun h => ?_
  have h1 : c < 64 * gr nu j := by unfold fre at h; simp at h; exact h.1
  by_cases e : j = k
  · subst e
    have h2 : c / 64 < gr nu j := by omega
    simp [h2]
  · have : (j < k + 1) = (j < k) := by simp only [eq_iff_iff]; omega
    simp [e, this]
theorem dm_all : Dm (fre nu f) 7 0 = fre nu f := by
  funext j c
  unfold Dm
  cases h : fre nu f j c
  · rfl
  · have h1 : c < 64 * gr nu j := by unfold fre at h; simp at h; exact h.1
    have := gr_lt h1
    simp [this]

theorem ctz_form (x : Nat) (hx : x < 18446744073709551616) (hx0 : x ≠ 0) : ∃ m, x = 2 ^ Lib.ctz 64 x * (2 * m + 1) := by
  obtain ⟨m, h1, _⟩ := Lib.ctzFrom_spec 64 x (by omega) hx
  have e : Lib.ctz 64 x = Lib.ctzFrom 64 x := if_neg hx0
  rw [e]; exact ⟨m, h1⟩
theorem low_off (c m j : Nat) : ((2 ^ c * (2 * m + 1)) &&& (2 ^ c * (2 * m + 1) - 1)).testBit j = ((2 ^ c * (2 * m + 1)).testBit j && decide (j ≠ c)) := by
  have hp := two_pos c
  have e1 : 2 ^ c * (2 * m + 1) - 1 = 2 ^ c * (2 * m) + (2 ^ c - 1) := by rw [Nat.mul_add, Nat.mul_one]; omega
  rw [Nat.testBit_and]
  have t1 : (2 ^ c * (2 * m + 1)).testBit j = if j < c then false else (2 * m + 1).testBit (j - c) := by
    have := Nat.testBit_two_pow_mul_add (a := 2 * m + 1) (b := 0) (i := c) (by omega) j
    rw [Nat.add_zero] at this
    rw [this]; simp
  have t2 : (2 ^ c * (2 * m + 1) - 1).testBit j = if j < c then (2 ^ c - 1).testBit j else (2 * m).testBit (j - c) := by
    rw [e1]
    exact Nat.testBit_two_pow_mul_add (a := 2 * m) (b := 2 ^ c - 1) (i := c) (by omega) j
  rw [t1, t2]
  by_cases h : j < c
  · simp [h]
  · simp only [if_neg h]
    by_cases h2 : j = c
    · subst h2
      simp
    · obtain ⟨d, hd⟩ : ∃ d, j - c = d + 1 := ⟨j - c - 1, by omega⟩
      rw [hd, Nat.testBit_succ, Nat.testBit_succ]
      have e3 : (2 * m + 1) / 2 = m := by omega
      have e4 : 2 * m / 2 = m := by omega
      rw [e3, e4]
      simp [h2]
theorem low_test (x : Nat) (hx : x < 18446744073709551616) (hx0 : x ≠ 0) (j : Nat) : (x &&& (x - 1)).testBit j = (x.testBit j && decide (j ≠ Lib.ctz 64 x)) := by
  obtain ⟨m, h⟩ := ctz_form x hx hx0
  have := low_off (Lib.ctz 64 x) m j
  rw [← h] at this
  exact this
theorem low_lt (x : Nat) (hx0 : x ≠ 0) : x &&& (x - 1) < x := Nat.lt_of_le_of_lt Nat.and_le_right (by omega)

/-- One more block. -/
theorem dn_step (x : Nat) (hx : x < 18446744073709551616) (hx0 : x ≠ 0) (hf : fre nu f k (64 * i + Lib.ctz 64 x) = true) : Dn (fre nu f) k i (x &&& (x - 1)) = setF (Dn (fre nu f) k i x) k (64 * i + Lib.ctz 64 x) true := by
  obtain ⟨cb1, cb2⟩ := ctz_bit x hx hx0
  funext j c
  unfold setF
  by_cases e : j = k ∧ c = 64 * i + Lib.ctz 64 x
  · obtain ⟨rfl, rfl⟩ := e
    have e1 : (64 * i + Lib.ctz 64 x) / 64 = i := by omega
    have e2 : (64 * i + Lib.ctz 64 x) % 64 = Lib.ctz 64 x := by omega
    unfold Dn
    rw [hf, e1, e2, low_test x hx hx0]
    simp
  · rw [if_neg e]
    unfold Dn
    refine bool3 fun _ => ?_
    by_cases e1 : j = k
    · subst e1
      by_cases e2 : c / 64 = i
      · have : c % 64 ≠ Lib.ctz 64 x := fun h => e ⟨rfl, by omega⟩
        rw [low_test x hx hx0]
        simp [this]
      · simp [e2]
    · simp [e1]
theorem dn_not (x : Nat) (hx : x < 18446744073709551616) (hx0 : x ≠ 0) : Dn (fre nu f) k i x k (64 * i + Lib.ctz 64 x) = false := by
  obtain ⟨cb1, cb2⟩ := ctz_bit x hx hx0
  have e1 : (64 * i + Lib.ctz 64 x) / 64 = i := by omega
  have e2 : (64 * i + Lib.ctz 64 x) % 64 = Lib.ctz 64 x := by omega
  unfold Dn
  rw [e1, e2, cb1]
  simp

theorem odd_bits : ∀ j : Fin 64, (6148914691236517205 : Nat).testBit j.val = decide (j.val % 2 = 0) := by decide +kernel
/-- No two halves of one block stand unjoined in a word. -/
theorem halves_zero (x : Nat) (hx : x < 18446744073709551616) (hf : f (Bw nu k + i) = x) (hi : i < gr nu k) (hk : k < 6) {K : Nat → Nat} {hole : Nat → Nat} (inv : Inv nu (fre nu f) K hole) : x &&& x / 2 &&& 6148914691236517205 = 0 := by
  refine Nat.eq_of_testBit_eq fun j => ?_
  rw [Nat.zero_testBit, Nat.testBit_and, Nat.testBit_and]
  by_cases hj : j < 64
  · rw [odd_bits ⟨j, hj⟩]
    by_cases h2 : j % 2 = 0
    · have e : (x / 2).testBit j = x.testBit (j + 1) := (Nat.testBit_succ x j).symm
      rw [e]
      cases h1 : x.testBit j
      · rfl
      · have b1 : fre nu f k (64 * i + j) = true := by
          unfold fre
          rw [show (64 * i + j) / 64 = i by omega, show (64 * i + j) % 64 = j by omega, hf, Int.toNat_natCast, h1, decide_eq_true (by omega)]; rfl
        have b2 := inv.half k hk _ b1
        have eb : bud (64 * i + j) = 64 * i + (j + 1) := by unfold bud; rw [if_pos (by omega)]; omega
        rw [eb] at b2
        unfold fre at b2
        rw [show (64 * i + (j + 1)) / 64 = i by omega, show (64 * i + (j + 1)) % 64 = j + 1 by omega, hf, Int.toNat_natCast, decide_eq_true (by omega), Bool.true_and] at b2
        rw [b2]; rfl
    · simp [h2]
  · rw [Nat.testBit_lt_two_pow (Nat.lt_of_lt_of_le hx (Nat.pow_le_pow_right (n := 2) (j := j) (by omega) (show 64 ≤ j by omega)))]
    rfl

theorem hv_le {F G : Nat → Nat → Bool} {K : Nat → Nat} (h : ∀ j c, G j c = true → F j c = true) (u : Nat) : hv G K u ≤ hv F K u := by
  have H : ∀ k, (G k (u / 2 ^ k)).toNat ≤ (F k (u / 2 ^ k)).toNat := fun k => by
    cases e : G k (u / 2 ^ k)
    · simp
    · rw [h _ _ e]; exact Nat.le_refl _
  have h0 := H 0; have h1 := H 1; have h2 := H 2; have h3 := H 3; have h4 := H 4; have h5 := H 5; have h6 := H 6
  simp only [hv, sum7]
  omega
end

/-- The cover counts D and the pieces. -/
def Cz (nu : Nat) (w : World) (hb cb ab sb b : Nat) (T : Tay) (f : Nat → Int) (D : Nat → Nat → Bool) (wr : World) : Prop :=
  ∃ fr, CovL nu wr hb cb ab sb b T (hv D (ask nu f)) fr ∧ fr + 8 * inP nu (ask nu f) = 8 * sumTo (hv D (ask nu f)) nu ∧ Cb cb ab w wr

theorem hv_none (K : Nat → Nat) : hv (fun _ _ => false) K = cv K := by
  funext u
  rw [hv_cv]
  simp [sum7]

section
variable {nu sz : Nat} {w w' w1 : World} {hb cb ab sb b : Nat} {T : Tay} {A : Ab} {P : List (Int × Int)} {g : Nat → Nat} {fr : Nat}

theorem Dn_le {F : Nat → Nat → Bool} {k i x j c : Nat} (h : Dn F k i x j c = true) : F j c = true := by
  unfold Dn at h
  simp only [Bool.and_eq_true] at h
  exact h.1

set_option maxRecDepth 20000 in
set_option maxHeartbeats 4000000 in
theorem c_blocks (h : Hp nu sz w hb sb b T A P) (s : HpS nu (says P A)) (c : CovL nu w hb cb ab sb b T (cv (ask nu (says P A))) 0) :
    Calls Tryz.prog 75 #[ptr cb] w fun e w' => e = .returned (.bool true) ∧ Cz nu w hb cb ab sb b T (says P A) (fre nu (says P A)) w' := by
  have HH := hide h; have HS := hide s; have HC := hide c
  clear h s c
  go_enter Tryz.func75, Tryz.ntmps75
  go_wp2_with fail
  go_loopw [6] (fun i wr => ∃ k : Nat, k ≤ 7 ∧ i = .int .i64 k ∧ Cz nu w hb cb ab sb b T (says P A) (Dm (fre nu (says P A)) k 0) wr) (fun i wr => 7 - (intOf i).toNat)
  case atStart =>
    refine ⟨0, by omega, rfl, 0, ?_, ?_, Cb.refl _⟩
    · rw [dm_0, hv_none]; exact unhide HC
    · rw [dm_0, hv_none]; unfold inP; omega
  case round =>
    obtain ⟨k, hk, rfl, hz⟩ := hrel
    by_cases hk7 : k < 7
    · have hn4 := (unhide HH).hp.geo.hi
      have g8 := gr_le (unhide HH).hp.geo k
      obtain ⟨fr, hcv, hfr, hcb⟩ := hz
      have hp := (unhide HH).cov (unhide HC) hcb
      have BK := h_blocks hb k hk7 wr (by omega) hp.hp.c1
      have GR := h_groups ((nu / 2 ^ k : Nat) : Int) 64 (Int.natCast_nonneg _) (by have : nu / 2 ^ k ≤ nu := Nat.div_le_self _ _; omega) (by omega) (by omega) wr
      rw [gr_eq hk7] at GR
      obtain ⟨n, hn⟩ : ∃ n, nu / 2 ^ k = n := ⟨_, rfl⟩
      rw [hn] at BK GR
      have HN := hide hn
      clear hn
      have c0 := hcv.c0
      have HZ := hide (show Cz nu w hb cb ab sb b T (says P A) (Dm (fre nu (says P A)) k 0) wr from ⟨fr, hcv, hfr, hcb⟩)
      clear hp hcv hfr hcb
      go_wp2_with (first | (go_at_call 105; refine BK.mono ?_; rintro e w' ⟨rfl, hh⟩; replace hh := hh.symm; subst hh) | (go_at_call 103; refine GR.mono ?_; rintro e w' ⟨rfl, hh⟩; replace hh := hh.symm; subst hh) | fail)
      clear BK GR c0
      go_loopw [16] (fun i wr => ∃ m : Nat, m ≤ gr nu k ∧ i = .int .i64 m ∧ Cz nu w hb cb ab sb b T (says P A) (Dm (fre nu (says P A)) k m) wr) (fun i wr => gr nu k - (intOf i).toNat)
      case atStart => exact ⟨0, by omega, rfl, unhide HZ⟩
      case round =>
        clear HZ
        rename_i wr0
        obtain ⟨m, hm, rfl, hz⟩ := hrel
        by_cases hlt : m < gr nu k
        · obtain ⟨fr, hcv, hfr, hcb⟩ := hz
          have hp := (unhide HH).cov (unhide HC) hcb
          obtain ⟨g1, g2, g3, g4, g5, g6⟩ := hp.hp.geo.b
          have bl := Bw_lt (nu := nu) (k := k) (b := 64 * m) (by omega)
          have em : 64 * m / 64 = m := by omega
          rw [em] at bl
          obtain ⟨r0, r1⟩ := (unhide HS).wd (Bw nu k + m) (by omega)
          have LD := fun q => hp.reads q (Bw nu k + m) (by omega)
          have c0 := hcv.c0; have h0 := hp.hp.c0; have hck := hp.hp.cb k hk7
          obtain ⟨x, hx⟩ : ∃ x : Nat, says P A (Bw nu k + m) = x := ⟨(says P A (Bw nu k + m)).toNat, by omega⟩
          have hx64 : x < 18446744073709551616 := by omega
          have e2 : ((Bw nu k + m : Nat) : Int) = (Bw nu k : Int) + (m : Int) := by omega
          simp only [hx, e2] at LD
          have ha1 := u64_and_nat x (x / 2) hx64 (by omega)
          have ha2 := u64_and_nat (x &&& x / 2) 6148914691236517205 (Nat.lt_of_le_of_lt Nat.and_le_left hx64) (by omega)
          have HZ := hide (show Cz nu w hb cb ab sb b T (says P A) (Dm (fre nu (says P A)) k m) _ from ⟨fr, hcv, hfr, hcb⟩)
          have HLD := @hide _ LD; have HX := hide hx
          have bl3 : Bw nu k + m ≤ 300 := by omega
          clear LD hp hcv hfr hcb hx bl g1 g2 g3 g4 g5 g6 em
          go_wp2_with fail
          refine region_tailP 19 (by kernel_rfl) (by kernel_rfl) ?_
          simp only [List.take_succ_cons, List.take_zero, List.drop_succ_cons, List.drop_zero]
          repeat (go_big_quiet_step (first | (go_at_call 36; exact Calls.quiet_of_same (unhide HLD _))))
          refine wpQuiet_nil ?_
          rintro _ ⟨nq, rfl⟩
          clear HLD c0 h0 hck
          have HZ1 : Hid (Cz nu w hb cb ab sb b T (says P A) (Dn (fre nu (says P A)) k m x) (wr.drewN nq)) := by
            obtain ⟨fr, hcv, hfr, hcb⟩ := unhide HZ
            rw [← dn_word x (unhide HX)] at hcv hfr
            exact ⟨fr, hcv.still ((Fr.refl _ wr).drewN nq), hfr, hcb.dr ((Fr.refl _ wr).drewN nq)⟩
          clear HZ
          generalize wr.drewN nq = w1 at *
          rcases (show k < 6 ∨ k = 6 by omega) with hk6 | hk6
          case' inl =>
            have ha3 : ((x &&& x / 2 &&& 6148914691236517205 : Nat) : Int) = 0 := by rw [halves_zero x hx64 (unhide HX) hlt hk6 (unhide HS).inv]; rfl
            have hk6' : ((k : Int) < 6) = True := by simp; omega
            have e22 : ((x / 2 : Nat) : Int) = (x : Int) / 2 := by omega
            rw [e22] at ha1
            have ha4 : bits .and .u64 ((x &&& x / 2 : Nat) : Int) 6148914691236517205 = 0 := ha2.trans ha3
            clear ha2 ha3
            generalize x &&& x / 2 = z at *
            go_wp2_with fail
          case' inr =>
            have hk6' : ((k : Int) < 6) = False := by simp; omega
            clear ha1 ha2 hk6
            go_wp2_with fail
          all_goals
            have g8' := gr_le (unhide HH).hp.geo k
            obtain ⟨Y, hY⟩ : ∃ Y, 2 ^ k = Y := ⟨_, rfl⟩
            have hYe : ((2 : Int) ^ k) = Y := by rw [← hY]; simp
            have hY6 : Y ≤ 64 := by rw [← hY]; exact Nat.pow_le_pow_right (n := 2) (j := 6) (by omega) (by omega)
            have hw8 : wrap64 (8 * (Y : Int)) = 8 * Y := small_w64 (by omega)
            (try clear ha1); (try clear ha4)
            go_loopw [5] (fun i wr => ∃ y : Nat, i = .int .u64 y ∧ y < 18446744073709551616 ∧ (∀ j, y.testBit j = true → x.testBit j = true) ∧ Cz nu w hb cb ab sb b T (says P A) (Dn (fre nu (says P A)) k m y) wr) (fun i wr => (intOf i).toNat)
            case atStart => exact ⟨x, rfl, hx64, fun _ h => h, unhide HZ1⟩
            case round =>
              clear HZ1
              obtain ⟨y, rfl, hy64, hsub, hz⟩ := hrel
              by_cases hy0 : y = 0
              · subst hy0
                rw [dn_done] at hz
                have HZ := hide hz
                clear hz
                go_wp2
                exact ⟨⟨m + 1, by omega, by go_num, unhide HZ⟩, by simp [intOf]; omega⟩
              · obtain ⟨fr, hcv, hfr, hcb⟩ := hz
                have hp := (unhide HH).cov (unhide HC) hcb
                have TZ := tz_ok y hy64 hy0 wr hp.hp.tab
                obtain ⟨cb1, cb2⟩ := ctz_bit y hy64 hy0
                have hf : fre nu (says P A) k (64 * m + Lib.ctz 64 y) = true := by
                  unfold fre
                  rw [show (64 * m + Lib.ctz 64 y) / 64 = m by omega, show (64 * m + Lib.ctz 64 y) % 64 = Lib.ctz 64 y by omega, unhide HX, Int.toNat_natCast, hsub _ cb1, decide_eq_true (by omega)]; rfl
                have hzi := (unhide HS).inv.inside k hk7 _ hf
                have hvle : ∀ v, v < nu → hv (Dn (fre nu (says P A)) k m y) (ask nu (says P A)) v ≤ 1 := fun v hv' => Nat.le_trans (hv_le (fun j c h => Dn_le h) v) (Nat.le_of_eq ((unhide HS).inv.cov v hv'))
                have LY := c_lay hcv k (64 * m + Lib.ctz 64 y) hk7 hzi (fun v hv' => Nat.le_trans (hvle v hv') (by omega))
                have hst := dn_step y hy64 hy0 hf
                have hnt := dn_not (nu := nu) (f := says P A) (k := k) (i := m) y hy64 hy0
                have hlow := low_test y hy64 hy0
                have hlt2 := low_lt y hy0
                have ha5 := u64_and_nat y (y - 1) hy64 (by omega)
                rw [show ((y - 1 : Nat) : Int) = (y : Int) - 1 by omega] at ha5
                have hy0' : ((y : Int) != 0) = true := by simp; exact hy0
                have hsum : sumTo (hv (Dn (fre nu (says P A)) k m y) (ask nu (says P A))) nu ≤ nu := by
                  have := sumTo_le (n := nu) (g := hv (Dn (fre nu (says P A)) k m y) (ask nu (says P A))) (h := fun _ => 1) hvle
                  rwa [sumTo_one] at this
                have hfr4 : fr ≤ 8 * nu := by omega
                have hz4 := block_lt hzi
                generalize Lib.ctz 64 y = cz at *
                rw [hY] at LY hz4
                have e3 : (((64 * m + cz) * Y : Nat) : Int) = (64 * (m : Int) + cz) * Y := by simp
                have e4 : (64 * (m : Int) + cz) * Y ≤ nu := by rw [← e3]; omega
                have e5 : 0 ≤ (64 * (m : Int) + cz) * Y := by rw [← e3]; omega
                rw [e3] at LY
                have HLY := hide LY; have HX2 := hide (And.intro hfr (And.intro hcb (And.intro hst (And.intro hnt (And.intro hlow (And.intro hlt2 (And.intro hsub hzi)))))))
                have hp9 : y &&& (y - 1) < 18446744073709551616 := by omega
                generalize hY9 : y &&& (y - 1) = y9 at *
                have HY9 := hide hY9
                clear LY hfr hcb hst hnt hlow hlt2 hsub hp hf hzi hvle hsum hcv e3 hY9 cb1
                go_wp2_with (first | (go_at_call 106; refine TZ.mono ?_; rintro e w' ⟨rfl, hh⟩; replace hh := hh.symm; subst hh) | fail)
                refine (unhide HLY).mono ?_
                clear HLY TZ
                rintro e w4 ⟨rfl, hcv4, hcb4⟩
                have c2 := hcv4.c2; have z1 := hcv4.z1 2
                have HX4 := hide (And.intro hcv4 hcb4)
                clear hcv4 hcb4
                go_wp2_with fail
                refine region_tailP 9 (by kernel_rfl) (by kernel_rfl) ?_
                simp only [List.take_succ_cons, List.take_zero, List.drop_succ_cons, List.drop_zero]
                repeat (go_big_quiet_step (first | fail))
                refine wpQuiet_nil ?_
                rintro _ ⟨nq2, rfl⟩
                have c2' : (w4.drewN nq2).cell? ⟨cb, 2, none⟩ = some (.int .i64 fr) := c2
                have z1' : (w4.drewN nq2).frozen? ⟨cb, 2, none⟩ = false := z1
                have X5 := ((unhide HX4).1.still ((Fr.refl _ w4).drewN nq2)).more (fr + 8 * Y)
                rw [show ((fr + 8 * Y : Nat) : Int) = (fr : Int) + 8 * Y by omega] at X5
                have HX5 := hide X5
                clear X5
                have HX6 := hide ((unhide HX4).2.dr ((Fr.refl _ w4).drewN nq2))
                clear HX4 c2 z1
                generalize w4.drewN nq2 = w5 at *
                go_wp2
                obtain ⟨hfr, hcb, hst, hnt, hlow, hlt2, hsub, hzi⟩ := unhide HX2
                have hhv : ∀ v, hv (Dn (fre nu (says P A)) k m y9) (ask nu (says P A)) v = hv (Dn (fre nu (says P A)) k m y) (ask nu (says P A)) v + ind k (64 * m + cz) v := fun v => by
                  rw [hst]
                  have := hv_setF (F := Dn (fre nu (says P A)) k m y) (K := ask nu (says P A)) (b := 64 * m + cz) hk7 true v
                  rw [hnt] at this
                  unfold ind
                  split at this
                  · rename_i e; rw [if_pos e]; simpa using this
                  · rename_i e; rw [if_neg e]; simpa using this
                refine ⟨⟨y9, rfl, by omega, fun j hj => ?_, fr + 8 * Y, (unhide HX5).1.same (fun v _ => hhv v), ?_, (hcb.trans (unhide HX6)).trans (unhide HX5).2⟩, by simp [intOf]; omega⟩
                · have := hlow j
                  rw [hj] at this
                  have h2 := this.symm
                  simp only [Bool.and_eq_true] at h2
                  exact hsub j h2.1
                · rw [sumTo_congr (fun v _ => hhv v), sumTo_add, sum_block hzi, hY]
                  omega
        · have : m = gr nu k := by omega
          subst this
          have HZ := hide hz
          clear hz
          go_wp2
          refine ⟨⟨k + 1, by omega, by go_num, ?_⟩, by simp [intOf]; omega⟩
          have hz := unhide HZ
          rw [dm_next] at hz
          exact hz
    · have : k = 7 := by omega
      subst this
      have HZ := hide hz
      clear hz
      go_wp2
      go_ret
      have hz := unhide HZ
      rw [dm_all] at hz
      exact ⟨rfl, hz⟩
end
end Go.Proofs.YtdgobaknbjlahaaGreatDoor
