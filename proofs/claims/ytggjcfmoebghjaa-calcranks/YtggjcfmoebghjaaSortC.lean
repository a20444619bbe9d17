/- Two stretches in order, each of more than one, brought together. -/
import Derived.Test.YtggjcfmoebghjaaSortP
namespace Go.Proofs.Ytggjcfmoebghjaa
open Go.RowKit

/-- What bringing together does. -/
def Merges (g cap : Nat) (a m b : Nat) (l : List Nat) (w : World) : Prop := a < m → m < b → b ≤ l.length → l.length ≤ 1000 → Srt l a m → Srt l m b → Dat w g l w →
    Calls Try.prog 45 #[.slice (some ⟨g, 0, none⟩) l.length cap, .int .i64 a, .int .i64 m, .int .i64 b, cmpV] w fun e w' => e = .returned (.tuple #[]) ∧ ∃ l', Mv a b l l' ∧ Srt l' a b ∧ Dat w g l' w'

set_option maxRecDepth 100000 in
set_option maxHeartbeats 4000000 in
theorem merge_mid (g cap : Nat) (a m b : Nat) (l : List Nat) (w : World) (ham : a + 1 < m) (hmb : m + 1 < b) (hb : b ≤ l.length) (hl : l.length ≤ 1000) (S1 : Srt l a m) (S2 : Srt l m b) (hD : Dat w g l w)
    (IH : ∀ a' m' b' l' w', b' - a' < b - a → Merges g cap a' m' b' l' w') :
    Calls Try.prog 45 #[.slice (some ⟨g, 0, none⟩) l.length cap, .int .i64 a, .int .i64 m, .int .i64 b, cmpV] w fun e w' => e = .returned (.tuple #[]) ∧ ∃ l', Mv a b l l' ∧ Srt l' a b ∧ Dat w g l' w' := by
  have HD := hide hD
  have HS1 := hide S1
  have HS2 := hide S2
  have HIH := hide IH
  have hm1 : ((m : Int) - (a : Int) == 1) = false := by simp; omega
  have hb1 : ((b : Int) - (m : Int) == 1) = false := by simp; omega
  obtain ⟨mid, hmid⟩ : ∃ mid, mid = (a + b) / 2 := ⟨_, rfl⟩
  have hmI : ((a : Int) + (b : Int)) / 2 = (mid : Int) := by omega
  have hmid1 : a < mid := by omega
  have hmid2 : mid < b := by omega
  have HMID := hide hmid
  clear hD S1 S2 IH hmid
  obtain ⟨s0, r0, hcase⟩ : ∃ s0 r0, (mid < m ∧ s0 = mid + m - b ∧ r0 = mid) ∨ (m ≤ mid ∧ s0 = a ∧ r0 = m) := by
    by_cases h : mid < m
    · exact ⟨_, _, .inl ⟨h, rfl, rfl⟩⟩
    · exact ⟨_, _, .inr ⟨by omega, rfl, rfl⟩⟩
  have HC := hide hcase
  have hr0 : s0 ≤ r0 ∧ a ≤ s0 ∧ r0 ≤ m ∧ r0 ≤ mid := by have := unhide HMID; omega
  obtain ⟨r1, r2, r3, r4⟩ := hr0
  rcases hcase with ⟨hx, hs0, hr0⟩ | ⟨hx, hs0, hr0⟩
  all_goals
    first
      | have hx' : (mid : Int) < m := by omega
        have hsI : (mid : Int) + m - b = s0 := by have := unhide HMID; omega
      | have hx' : ¬ (mid : Int) < m := by omega
        have hsI : (a : Int) = s0 := by omega
    have HS0 := hide hs0
    have HR0 := hide hr0
    have HSI := hide hsI
    clear hs0 hr0 hsI
    go_enter Try.func45, Try.ntmps45
    go_wp2_with fail
    go_loopw [20, 21, 23] (fun vi vj _ wr => ∃ (i j : Nat), vi = .int .i64 i ∧ vj = .int .i64 j ∧ Dat w g l wr ∧ Hid (s0 ≤ i ∧ i ≤ j ∧ j ≤ r0 ∧ (∀ c, s0 ≤ c → c < i → cd l c ≤ cd l (mid + m - 1 - c)) ∧ ∀ c, j ≤ c → c < r0 → cd l (mid + m - 1 - c) < cd l c)) (fun vi vj _ wr => (RowKit.intOf vj).toNat - (RowKit.intOf vi).toNat)
    case atStart => exact ⟨s0, r0, by have := unhide HSI; congr 1, by have := unhide HR0; rw [this], unhide HD, hide ⟨Nat.le_refl _, r1, Nat.le_refl _, fun c h1 h2 => by omega, fun c h1 h2 => by omega⟩⟩
    case round =>
      obtain ⟨i, j, rfl, rfl, hE, HI⟩ := hrel
      have HE := hide hE
      clear hE
      obtain ⟨i1, i2, i3, f1, f2⟩ := unhide HI
      by_cases hlt : i < j
      · have hlt' : (i : Int) < j := by omega
        obtain ⟨h, hh⟩ : ∃ h, h = (i + j) / 2 := ⟨_, rfl⟩
        have hhI : ((i : Int) + (j : Int)) / 2 = (h : Int) := by omega
        have h1 : i ≤ h := by omega
        have h2 : h < j := by omega
        obtain ⟨q, hq⟩ : ∃ q, q = mid + m - 1 - h := ⟨_, rfl⟩
        have hqI : (mid : Int) + m - 1 - h = q := by omega
        have hqb : m ≤ q ∧ q < b := by have c := unhide HC; have := unhide HMID; omega
        obtain ⟨hq1, hq2⟩ := hqb
        have c1 := fun n => ((unhide HE).drewN n).cell q (by omega)
        have c2 := fun n => ((unhide HE).drewN n).cell h (by omega)
        have c10 := (unhide HE).cell q (by omega)
        have c20 := (unhide HE).cell h (by omega)
        have b1 := (unhide HD).lt q (by omega)
        have b2 := (unhide HD).lt h (by omega)
        have hcl := cmp3_lt (codeN (at_ l q)) (codeN (at_ l h))
        have hhl : h < l.length := by omega
        have hal : q < l.length := by omega
        clear hh
        have mono : ∀ c c', s0 ≤ c → c < c' → c' < r0 → cd l c ≤ cd l c' ∧ cd l (mid + m - 1 - c') ≤ cd l (mid + m - 1 - c) := by
          intro c c' k1 k2 k3
          have t1 := unhide HC; have t2 := unhide HMID
          exact ⟨unhide HS1 c c' (by omega) k2 (by omega), unhide HS2 _ _ (by omega) (by omega) (by omega)⟩
        by_cases hc : codeN (at_ l q) < codeN (at_ l h)
        · have d2 : decide (cmp3 (codeN (at_ l q)) (codeN (at_ l h)) < 0) = true := decide_eq_true (by rw [hcl]; exact hc)
          have HN := hide (show s0 ≤ i ∧ i ≤ h ∧ h ≤ r0 ∧ (∀ c, s0 ≤ c → c < i → cd l c ≤ cd l (mid + m - 1 - c)) ∧ ∀ c, h ≤ c → c < r0 → cd l (mid + m - 1 - c) < cd l c from ⟨i1, h1, by omega, f1, fun c k1 k2 => by
            rw [hq] at hc
            by_cases e : c = h
            · rw [e]; exact hc
            · have := mono h c (by omega) (by omega) k2
              exact Nat.lt_of_le_of_lt this.2 (Nat.lt_of_lt_of_le hc this.1)⟩)
          clear HI f1 f2 hcl hc mono hq
          generalize at_ l h = x at *
          generalize at_ l q = y at *
          go_wp2_with fail
          go_quiet (first | (go_at_call 16; exact Calls.quiet_of_same (cmp_ok _ _ b1 b2 _)))
          go_wp2
          go_roundw
          case rel => exact ⟨i, h, rfl, rfl, (unhide HE).drewN _, unhide HN⟩
          case measure => simp [RowKit.intOf]; omega
        · have d2 : decide (cmp3 (codeN (at_ l q)) (codeN (at_ l h)) < 0) = false := decide_eq_false (by rw [hcl]; exact hc)
          have HN := hide (show s0 ≤ h + 1 ∧ h + 1 ≤ j ∧ j ≤ r0 ∧ (∀ c, s0 ≤ c → c < h + 1 → cd l c ≤ cd l (mid + m - 1 - c)) ∧ ∀ c, j ≤ c → c < r0 → cd l (mid + m - 1 - c) < cd l c from ⟨by omega, by omega, i3, fun c k1 k2 => by
            rw [hq] at hc
            by_cases e : c = h
            · rw [e]; exact Nat.le_of_not_lt hc
            · have := mono c h k1 (by omega) (by omega)
              exact Nat.le_trans this.1 (Nat.le_trans (Nat.le_of_not_lt hc) this.2), f2⟩)
          clear HI f1 f2 hcl hc mono hq
          generalize at_ l h = x at *
          generalize at_ l q = y at *
          go_wp2_with fail
          go_quiet (first | (go_at_call 16; exact Calls.quiet_of_same (cmp_ok _ _ b1 b2 _)))
          go_wp2
          go_roundw
          case rel => exact ⟨h + 1, j, by go_num, rfl, (unhide HE).drewN _, unhide HN⟩
          case measure => simp [RowKit.intOf]; omega
      · have hlt' : ¬ (i : Int) < j := by omega
        obtain rfl : j = i := by omega
        generalize hjs : j = s at *
        clear hjs
        have hcut := CutAt.of (by omega) (by omega) (unhide HMID) (unhide HC) ⟨i1, i3⟩ (unhide HS1) (unhide HS2) f1 f2
        obtain ⟨e, he⟩ : ∃ e, e = mid + m - s := ⟨_, rfl⟩
        have hei : (mid : Int) + m - s = e := by omega
        have z0 := hcut.h0
        rw [← he] at z0
        obtain ⟨q0, q1, q2, q3, q4, q5⟩ := z0
        have HCUT := hide hcut
        have HEQ := hide he
        clear HI f1 f2 hcut he
        rcases (show (s < m ∧ s < mid ∧ a < s ∧ e < b) ∨ (s < m ∧ s < mid ∧ a < s ∧ e = b) ∨ (s < m ∧ s < mid ∧ s = a ∧ e < b) ∨ (s < m ∧ s < mid ∧ s = a ∧ e = b) ∨ (s = m ∧ m < mid) ∨ (s = m ∧ m = mid) ∨ (s = mid ∧ mid < m) by omega) with h7 | h7 | h7 | h7 | h7 | h7 | h7
        · first
            | (exfalso; omega)
            | have k1 : (s : Int) < m := by omega
              have k2 : (m : Int) < e := by omega
              have k3 : (a : Int) < s := by omega
              have k4 : (s : Int) < mid := by omega
              have k5 : (mid : Int) < e := by omega
              have k6 : (e : Int) < b := by omega
              have hse := unhide HEQ
              have KR := hide (rotate_ok g cap cmpV s m e l wr (by omega) (by omega) (by omega) hl (unhide HE).here)
              clear hse h7
              go_wp2_with fail
              refine (unhide KR).mono ?_
              rintro e1 w1 ⟨rfl, L1, hR, hE1⟩
              have HD1 := hide ((unhide HE).trans hE1)
              have HR := hide hR
              clear hR hE1 KR
              have hH := Half.of (unhide HCUT) (unhide HS1) (unhide HS2) (by have t := unhide HR; rw [unhide HEQ] at t; exact t)
              rw [← unhide HEQ] at hH
              have HH := hide hH
              have HMV := hide ((unhide HR).mv (a := a) (b := b) q1 q3 q0 q4)
              have len1 := (unhide HR).len
              clear hH
              have K1 := unhide HIH a s mid L1 w1 (by omega) (by omega) (by omega) (by omega) (by omega) (unhide HH).s1 (unhide HH).s2 (unhide HD1).here
              rw [len1] at K1
              have HK1 := hide K1
              clear K1
              go_wp2_with fail
              refine (unhide HK1).mono ?_
              rintro e2 w2 ⟨rfl, L2, hM2, hS2, hE2⟩
              have HD2 := hide ((unhide HD1).trans hE2)
              have HM2 := hide hM2
              have HS2b := hide hS2
              clear hM2 hS2 hE2 HK1
              have len2 := (unhide HM2).len
              have K2 := unhide HIH mid e b L2 w2 (by omega) (by omega) (by omega) (by omega) (by omega) ((unhide HH).s3.kept (unhide HM2) (.inr (by omega))) ((unhide HH).s4.kept (unhide HM2) (.inr (by omega))) (unhide HD2).here
              rw [len2, len1] at K2
              have HK2 := hide K2
              clear K2
              go_wp2_with fail
              refine (unhide HK2).mono ?_
              rintro e3 w3 ⟨rfl, L3, hM3, hS3, hE3⟩
              have HD3 := hide ((unhide HD2).trans hE3)
              have HM3 := hide hM3
              have HS3b := hide hS3
              clear hM3 hS3 hE3 HK2
              have HFIN := hide (Srt.both (unhide HM2) (unhide HM3) (unhide HS2b) (unhide HS3b) (unhide HH).lr)
              have HMF := hide (((unhide HMV).trans ((unhide HM2).wide (Nat.le_refl _) (by omega))).trans ((unhide HM3).wide (by omega) (Nat.le_refl _)))
              clear HH HMV HM2 HM3 HS2b HS3b HCUT
              go_wp2
              go_end0
              exact ⟨rfl, L3, unhide HMF, unhide HFIN, unhide HD3⟩
        · first
            | (exfalso; omega)
            | have k1 : (s : Int) < m := by omega
              have k2 : (m : Int) < e := by omega
              have k3 : (a : Int) < s := by omega
              have k4 : (s : Int) < mid := by omega
              have k5 : (mid : Int) < e := by omega
              have k6 : ¬ (e : Int) < b := by omega
              have hse := unhide HEQ
              have KR := hide (rotate_ok g cap cmpV s m e l wr (by omega) (by omega) (by omega) hl (unhide HE).here)
              clear hse h7
              go_wp2_with fail
              refine (unhide KR).mono ?_
              rintro e1 w1 ⟨rfl, L1, hR, hE1⟩
              have HD1 := hide ((unhide HE).trans hE1)
              have HR := hide hR
              clear hR hE1 KR
              have hH := Half.of (unhide HCUT) (unhide HS1) (unhide HS2) (by have t := unhide HR; rw [unhide HEQ] at t; exact t)
              rw [← unhide HEQ] at hH
              have HH := hide hH
              have HMV := hide ((unhide HR).mv (a := a) (b := b) q1 q3 q0 q4)
              have len1 := (unhide HR).len
              clear hH
              have K1 := unhide HIH a s mid L1 w1 (by omega) (by omega) (by omega) (by omega) (by omega) (unhide HH).s1 (unhide HH).s2 (unhide HD1).here
              rw [len1] at K1
              have HK1 := hide K1
              clear K1
              go_wp2_with fail
              refine (unhide HK1).mono ?_
              rintro e2 w2 ⟨rfl, L2, hM2, hS2, hE2⟩
              have HD2 := hide ((unhide HD1).trans hE2)
              have HM2 := hide hM2
              have HS2b := hide hS2
              clear hM2 hS2 hE2 HK1
              have len2 := (unhide HM2).len
              obtain ⟨L3, hL3⟩ : ∃ L3, L3 = L2 := ⟨_, rfl⟩
              have HM3 := hide (show Mv mid b L2 L3 by rw [hL3]; exact Mv.refl _ _ _)
              have HS3b := hide (show Srt L3 mid b by rw [hL3]; exact Srt.one ((unhide HH).s3.kept (unhide HM2) (.inr (by omega))) ((unhide HH).s4.kept (unhide HM2) (.inr (by omega))) (by omega) (by omega) (by omega))
              have HD3 := hide (show Dat w g L3 w2 by rw [hL3]; exact unhide HD2)
              clear hL3
              have HFIN := hide (Srt.both (unhide HM2) (unhide HM3) (unhide HS2b) (unhide HS3b) (unhide HH).lr)
              have HMF := hide (((unhide HMV).trans ((unhide HM2).wide (Nat.le_refl _) (by omega))).trans ((unhide HM3).wide (by omega) (Nat.le_refl _)))
              clear HH HMV HM2 HM3 HS2b HS3b HCUT
              go_wp2
              go_end0
              exact ⟨rfl, L3, unhide HMF, unhide HFIN, unhide HD3⟩
        · first
            | (exfalso; omega)
            | have k1 : (s : Int) < m := by omega
              have k2 : (m : Int) < e := by omega
              have k3 : ¬ (a : Int) < s := by omega
              have k5 : (mid : Int) < e := by omega
              have k6 : (e : Int) < b := by omega
              have hse := unhide HEQ
              have KR := hide (rotate_ok g cap cmpV s m e l wr (by omega) (by omega) (by omega) hl (unhide HE).here)
              clear hse h7
              go_wp2_with fail
              refine (unhide KR).mono ?_
              rintro e1 w1 ⟨rfl, L1, hR, hE1⟩
              have HD1 := hide ((unhide HE).trans hE1)
              have HR := hide hR
              clear hR hE1 KR
              have hH := Half.of (unhide HCUT) (unhide HS1) (unhide HS2) (by have t := unhide HR; rw [unhide HEQ] at t; exact t)
              rw [← unhide HEQ] at hH
              have HH := hide hH
              have HMV := hide ((unhide HR).mv (a := a) (b := b) q1 q3 q0 q4)
              have len1 := (unhide HR).len
              clear hH
              obtain ⟨L2, hL2⟩ : ∃ L2, L2 = L1 := ⟨_, rfl⟩
              have HM2 := hide (show Mv a mid L1 L2 by rw [hL2]; exact Mv.refl _ _ _)
              have HS2b := hide (show Srt L2 a mid by rw [hL2]; exact Srt.one (unhide HH).s1 (unhide HH).s2 (by omega) (by omega) (by omega))
              have HD2 := hide (show Dat w g L2 w1 by rw [hL2]; exact unhide HD1)
              clear hL2
              have len2 := (unhide HM2).len
              have K2 := unhide HIH mid e b L2 w1 (by omega) (by omega) (by omega) (by omega) (by omega) ((unhide HH).s3.kept (unhide HM2) (.inr (by omega))) ((unhide HH).s4.kept (unhide HM2) (.inr (by omega))) (unhide HD2).here
              rw [len2, len1] at K2
              have HK2 := hide K2
              clear K2
              go_wp2_with fail
              refine (unhide HK2).mono ?_
              rintro e3 w3 ⟨rfl, L3, hM3, hS3, hE3⟩
              have HD3 := hide ((unhide HD2).trans hE3)
              have HM3 := hide hM3
              have HS3b := hide hS3
              clear hM3 hS3 hE3 HK2
              have HFIN := hide (Srt.both (unhide HM2) (unhide HM3) (unhide HS2b) (unhide HS3b) (unhide HH).lr)
              have HMF := hide (((unhide HMV).trans ((unhide HM2).wide (Nat.le_refl _) (by omega))).trans ((unhide HM3).wide (by omega) (Nat.le_refl _)))
              clear HH HMV HM2 HM3 HS2b HS3b HCUT
              go_wp2
              go_end0
              exact ⟨rfl, L3, unhide HMF, unhide HFIN, unhide HD3⟩
        · first
            | (exfalso; omega)
            | have k1 : (s : Int) < m := by omega
              have k2 : (m : Int) < e := by omega
              have k3 : ¬ (a : Int) < s := by omega
              have k5 : (mid : Int) < e := by omega
              have k6 : ¬ (e : Int) < b := by omega
              have hse := unhide HEQ
              have KR := hide (rotate_ok g cap cmpV s m e l wr (by omega) (by omega) (by omega) hl (unhide HE).here)
              clear hse h7
              go_wp2_with fail
              refine (unhide KR).mono ?_
              rintro e1 w1 ⟨rfl, L1, hR, hE1⟩
              have HD1 := hide ((unhide HE).trans hE1)
              have HR := hide hR
              clear hR hE1 KR
              have hH := Half.of (unhide HCUT) (unhide HS1) (unhide HS2) (by have t := unhide HR; rw [unhide HEQ] at t; exact t)
              rw [← unhide HEQ] at hH
              have HH := hide hH
              have HMV := hide ((unhide HR).mv (a := a) (b := b) q1 q3 q0 q4)
              have len1 := (unhide HR).len
              clear hH
              obtain ⟨L2, hL2⟩ : ∃ L2, L2 = L1 := ⟨_, rfl⟩
              have HM2 := hide (show Mv a mid L1 L2 by rw [hL2]; exact Mv.refl _ _ _)
              have HS2b := hide (show Srt L2 a mid by rw [hL2]; exact Srt.one (unhide HH).s1 (unhide HH).s2 (by omega) (by omega) (by omega))
              have HD2 := hide (show Dat w g L2 w1 by rw [hL2]; exact unhide HD1)
              clear hL2
              have len2 := (unhide HM2).len
              obtain ⟨L3, hL3⟩ : ∃ L3, L3 = L2 := ⟨_, rfl⟩
              have HM3 := hide (show Mv mid b L2 L3 by rw [hL3]; exact Mv.refl _ _ _)
              have HS3b := hide (show Srt L3 mid b by rw [hL3]; exact Srt.one ((unhide HH).s3.kept (unhide HM2) (.inr (by omega))) ((unhide HH).s4.kept (unhide HM2) (.inr (by omega))) (by omega) (by omega) (by omega))
              have HD3 := hide (show Dat w g L3 w1 by rw [hL3]; exact unhide HD2)
              clear hL3
              have HFIN := hide (Srt.both (unhide HM2) (unhide HM3) (unhide HS2b) (unhide HS3b) (unhide HH).lr)
              have HMF := hide (((unhide HMV).trans ((unhide HM2).wide (Nat.le_refl _) (by omega))).trans ((unhide HM3).wide (by omega) (Nat.le_refl _)))
              clear HH HMV HM2 HM3 HS2b HS3b HCUT
              go_wp2
              go_end0
              exact ⟨rfl, L3, unhide HMF, unhide HFIN, unhide HD3⟩
        · first
            | (exfalso; omega)
            | have k1 : ¬ (s : Int) < m := by omega
              have k3 : (a : Int) < s := by omega
              have k4 : (s : Int) < mid := by omega
              have k5 : ¬ (mid : Int) < e := by omega
              have hse := unhide HEQ
              obtain ⟨L1, hL1⟩ : ∃ L1, L1 = l := ⟨_, rfl⟩
              have HR := hide (show Rot s m e l L1 by rw [hL1]; exact Rot.none l (by omega))
              have HD1 := hide (show Dat w g L1 wr by rw [hL1]; exact unhide HE)
              clear hse h7 hL1
              have hH := Half.of (unhide HCUT) (unhide HS1) (unhide HS2) (by have t := unhide HR; rw [unhide HEQ] at t; exact t)
              rw [← unhide HEQ] at hH
              have HH := hide hH
              have HMV := hide ((unhide HR).mv (a := a) (b := b) q1 q3 q0 q4)
              have len1 := (unhide HR).len
              clear hH
              have K1 := unhide HIH a s mid L1 wr (by omega) (by omega) (by omega) (by omega) (by omega) (unhide HH).s1 (unhide HH).s2 (unhide HD1).here
              rw [len1] at K1
              have HK1 := hide K1
              clear K1
              go_wp2_with fail
              refine (unhide HK1).mono ?_
              rintro e2 w2 ⟨rfl, L2, hM2, hS2, hE2⟩
              have HD2 := hide ((unhide HD1).trans hE2)
              have HM2 := hide hM2
              have HS2b := hide hS2
              clear hM2 hS2 hE2 HK1
              have len2 := (unhide HM2).len
              obtain ⟨L3, hL3⟩ : ∃ L3, L3 = L2 := ⟨_, rfl⟩
              have HM3 := hide (show Mv mid b L2 L3 by rw [hL3]; exact Mv.refl _ _ _)
              have HS3b := hide (show Srt L3 mid b by rw [hL3]; exact Srt.one ((unhide HH).s3.kept (unhide HM2) (.inr (by omega))) ((unhide HH).s4.kept (unhide HM2) (.inr (by omega))) (by omega) (by omega) (by omega))
              have HD3 := hide (show Dat w g L3 w2 by rw [hL3]; exact unhide HD2)
              clear hL3
              have HFIN := hide (Srt.both (unhide HM2) (unhide HM3) (unhide HS2b) (unhide HS3b) (unhide HH).lr)
              have HMF := hide (((unhide HMV).trans ((unhide HM2).wide (Nat.le_refl _) (by omega))).trans ((unhide HM3).wide (by omega) (Nat.le_refl _)))
              clear HH HMV HM2 HM3 HS2b HS3b HCUT
              go_wp2
              go_end0
              exact ⟨rfl, L3, unhide HMF, unhide HFIN, unhide HD3⟩
        · first
            | (exfalso; omega)
            | have k1 : ¬ (s : Int) < m := by omega
              have k3 : (a : Int) < s := by omega
              have k4 : ¬ (s : Int) < mid := by omega
              have k5 : ¬ (mid : Int) < e := by omega
              have hse := unhide HEQ
              obtain ⟨L1, hL1⟩ : ∃ L1, L1 = l := ⟨_, rfl⟩
              have HR := hide (show Rot s m e l L1 by rw [hL1]; exact Rot.none l (by omega))
              have HD1 := hide (show Dat w g L1 wr by rw [hL1]; exact unhide HE)
              clear hse h7 hL1
              have hH := Half.of (unhide HCUT) (unhide HS1) (unhide HS2) (by have t := unhide HR; rw [unhide HEQ] at t; exact t)
              rw [← unhide HEQ] at hH
              have HH := hide hH
              have HMV := hide ((unhide HR).mv (a := a) (b := b) q1 q3 q0 q4)
              have len1 := (unhide HR).len
              clear hH
              obtain ⟨L2, hL2⟩ : ∃ L2, L2 = L1 := ⟨_, rfl⟩
              have HM2 := hide (show Mv a mid L1 L2 by rw [hL2]; exact Mv.refl _ _ _)
              have HS2b := hide (show Srt L2 a mid by rw [hL2]; exact Srt.one (unhide HH).s1 (unhide HH).s2 (by omega) (by omega) (by omega))
              have HD2 := hide (show Dat w g L2 wr by rw [hL2]; exact unhide HD1)
              clear hL2
              have len2 := (unhide HM2).len
              obtain ⟨L3, hL3⟩ : ∃ L3, L3 = L2 := ⟨_, rfl⟩
              have HM3 := hide (show Mv mid b L2 L3 by rw [hL3]; exact Mv.refl _ _ _)
              have HS3b := hide (show Srt L3 mid b by rw [hL3]; exact Srt.one ((unhide HH).s3.kept (unhide HM2) (.inr (by omega))) ((unhide HH).s4.kept (unhide HM2) (.inr (by omega))) (by omega) (by omega) (by omega))
              have HD3 := hide (show Dat w g L3 wr by rw [hL3]; exact unhide HD2)
              clear hL3
              have HFIN := hide (Srt.both (unhide HM2) (unhide HM3) (unhide HS2b) (unhide HS3b) (unhide HH).lr)
              have HMF := hide (((unhide HMV).trans ((unhide HM2).wide (Nat.le_refl _) (by omega))).trans ((unhide HM3).wide (by omega) (Nat.le_refl _)))
              clear HH HMV HM2 HM3 HS2b HS3b HCUT
              go_wp2
              go_end0
              exact ⟨rfl, L3, unhide HMF, unhide HFIN, unhide HD3⟩
        · first
            | (exfalso; omega)
            | have k1 : (s : Int) < m := by omega
              have k2 : ¬ (m : Int) < e := by omega
              have k3 : (a : Int) < s := by omega
              have k4 : ¬ (s : Int) < mid := by omega
              have k5 : (mid : Int) < e := by omega
              have k6 : (e : Int) < b := by omega
              have hse := unhide HEQ
              obtain ⟨L1, hL1⟩ : ∃ L1, L1 = l := ⟨_, rfl⟩
              have HR := hide (show Rot s m e l L1 by rw [hL1]; exact Rot.none l (by omega))
              have HD1 := hide (show Dat w g L1 wr by rw [hL1]; exact unhide HE)
              clear hse h7 hL1
              have hH := Half.of (unhide HCUT) (unhide HS1) (unhide HS2) (by have t := unhide HR; rw [unhide HEQ] at t; exact t)
              rw [← unhide HEQ] at hH
              have HH := hide hH
              have HMV := hide ((unhide HR).mv (a := a) (b := b) q1 q3 q0 q4)
              have len1 := (unhide HR).len
              clear hH
              obtain ⟨L2, hL2⟩ : ∃ L2, L2 = L1 := ⟨_, rfl⟩
              have HM2 := hide (show Mv a mid L1 L2 by rw [hL2]; exact Mv.refl _ _ _)
              have HS2b := hide (show Srt L2 a mid by rw [hL2]; exact Srt.one (unhide HH).s1 (unhide HH).s2 (by omega) (by omega) (by omega))
              have HD2 := hide (show Dat w g L2 wr by rw [hL2]; exact unhide HD1)
              clear hL2
              have len2 := (unhide HM2).len
              have K2 := unhide HIH mid e b L2 wr (by omega) (by omega) (by omega) (by omega) (by omega) ((unhide HH).s3.kept (unhide HM2) (.inr (by omega))) ((unhide HH).s4.kept (unhide HM2) (.inr (by omega))) (unhide HD2).here
              rw [len2, len1] at K2
              have HK2 := hide K2
              clear K2
              go_wp2_with fail
              refine (unhide HK2).mono ?_
              rintro e3 w3 ⟨rfl, L3, hM3, hS3, hE3⟩
              have HD3 := hide ((unhide HD2).trans hE3)
              have HM3 := hide hM3
              have HS3b := hide hS3
              clear hM3 hS3 hE3 HK2
              have HFIN := hide (Srt.both (unhide HM2) (unhide HM3) (unhide HS2b) (unhide HS3b) (unhide HH).lr)
              have HMF := hide (((unhide HMV).trans ((unhide HM2).wide (Nat.le_refl _) (by omega))).trans ((unhide HM3).wide (by omega) (Nat.le_refl _)))
              clear HH HMV HM2 HM3 HS2b HS3b HCUT
              go_wp2
              go_end0
              exact ⟨rfl, L3, unhide HMF, unhide HFIN, unhide HD3⟩
end Go.Proofs.Ytggjcfmoebghjaa
