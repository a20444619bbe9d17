/- A stretch in order and a stretch of one, brought together. -/
import Derived.Test.YtggjcfmoebghjaaSortP
namespace Go.Proofs.Ytggjcfmoebghjaa
open Go.RowKit

set_option maxRecDepth 100000 in
set_option maxHeartbeats 2000000 in
theorem merge_last (g cap : Nat) (a m : Nat) (l : List Nat) (w : World) (ham : a + 1 < m) (hb : m + 1 ≤ l.length) (hl : l.length ≤ 1000) (hS : Srt l a m) (hD : Dat w g l w) :
    Calls Try.prog 45 #[.slice (some ⟨g, 0, none⟩) l.length cap, .int .i64 a, .int .i64 m, .int .i64 ((m + 1 : Nat) : Int), cmpV] w fun e w' => e = .returned (.tuple #[]) ∧ ∃ l', Mv a (m + 1) l l' ∧ Srt l' a (m + 1) ∧ Dat w g l' w' := by
  have HD := hide hD
  have HS := hide hS
  have hm1 : ((m : Int) - (a : Int) == 1) = false := by simp; omega
  clear hD hS
  go_enter Try.func45, Try.ntmps45
  go_wp2_with fail
  go_loopw [14, 15, 16] (fun vi vj _ wr => ∃ (i j : Nat), vi = .int .i64 i ∧ vj = .int .i64 j ∧ Dat w g l wr ∧ Hid (a ≤ i ∧ i ≤ j ∧ j ≤ m ∧ (∀ p, a ≤ p → p < i → cd l p ≤ cd l m) ∧ ∀ p, j ≤ p → p < m → cd l m < cd l p)) (fun vi vj _ wr => (RowKit.intOf vj).toNat - (RowKit.intOf vi).toNat)
  case atStart => exact ⟨a, m, rfl, rfl, unhide HD, hide ⟨Nat.le_refl _, by omega, Nat.le_refl _, fun p h1 h2 => by omega, fun p h1 h2 => by omega⟩⟩
  case round =>
    obtain ⟨i, j, rfl, rfl, hE, HI⟩ := hrel
    have HE := hide hE
    clear hE
    obtain ⟨i1, i2, i3, f1, f2⟩ := unhide HI
    by_cases hlt : i < j
    · have hlt' : (i : Int) < j := by omega
      obtain ⟨h, hh⟩ : ∃ h, h = (i + j) / 2 := ⟨_, rfl⟩
      have hhI : ((i : Int) + (j : Int)) / 2 = (h : Int) := by omega
      have h1 : i ≤ h := by omega
      have h2 : h < j := by omega
      have c1 := fun n => ((unhide HE).drewN n).cell m (by omega)
      have c2 := fun n => ((unhide HE).drewN n).cell h (by omega)
      have c10 := (unhide HE).cell m (by omega)
      have c20 := (unhide HE).cell h (by omega)
      have b1 := (unhide HD).lt m (by omega)
      have b2 := (unhide HD).lt h (by omega)
      have hcl := cmp3_lt (codeN (at_ l m)) (codeN (at_ l h))
      have hhl : h < l.length := by omega
      have hal : m < l.length := by omega
      clear hh
      by_cases hc : codeN (at_ l m) < codeN (at_ l h)
      · have d2 : decide (cmp3 (codeN (at_ l m)) (codeN (at_ l h)) < 0) = true := decide_eq_true (by rw [hcl]; exact hc)
        have HN := hide (show a ≤ i ∧ i ≤ h ∧ h ≤ m ∧ (∀ p, a ≤ p → p < i → cd l p ≤ cd l m) ∧ ∀ p, h ≤ p → p < m → cd l m < cd l p from ⟨i1, h1, by omega, f1, fun p p1 p2 => by
          by_cases e : p = h
          · rw [e]; exact hc
          · exact Nat.lt_of_lt_of_le hc (unhide HS h p (by omega) (by omega) p2)⟩)
        clear HI f1 f2 hcl hc
        generalize at_ l h = x at *
        generalize at_ l m = y at *
        go_wp2_with fail
        go_quiet (first | (go_at_call 16; exact Calls.quiet_of_same (cmp_ok _ _ b1 b2 _)))
        go_wp2
        go_roundw
        case rel => exact ⟨i, h, rfl, rfl, (unhide HE).drewN _, unhide HN⟩
        case measure => simp [RowKit.intOf]; omega
      · have d2 : decide (cmp3 (codeN (at_ l m)) (codeN (at_ l h)) < 0) = false := decide_eq_false (by rw [hcl]; exact hc)
        have HN := hide (show a ≤ h + 1 ∧ h + 1 ≤ j ∧ j ≤ m ∧ (∀ p, a ≤ p → p < h + 1 → cd l p ≤ cd l m) ∧ ∀ p, j ≤ p → p < m → cd l m < cd l p from ⟨by omega, by omega, i3, fun p p1 p2 => by
          by_cases e : p = h
          · rw [e]; exact Nat.le_of_not_lt hc
          · exact Nat.le_trans (unhide HS p h p1 (by omega) (by omega)) (Nat.le_of_not_lt hc), f2⟩)
        clear HI f1 f2 hcl hc
        generalize at_ l h = x at *
        generalize at_ l m = y at *
        go_wp2_with fail
        go_quiet (first | (go_at_call 16; exact Calls.quiet_of_same (cmp_ok _ _ b1 b2 _)))
        go_wp2
        go_roundw
        case rel => exact ⟨h + 1, j, by go_num, rfl, (unhide HE).drewN _, unhide HN⟩
        case measure => simp [RowKit.intOf]; omega
    · have hlt' : ¬ (i : Int) < j := by omega
      obtain rfl : j = i := by omega
      have HF := hide (And.intro f1 f2)
      clear HI f1 f2
      go_wp2_with fail
      generalize wr = w1 at *
      clear wr
      go_loopw [17] (fun vk wr => ∃ (k : Nat) (L : List Nat), vk = .int .i64 k ∧ Hid (j ≤ k ∧ k ≤ m ∧ Dnw a m k l L) ∧ Dat w g L wr) (fun vk wr => (RowKit.intOf vk).toNat)
      case atStart => exact ⟨m, l, rfl, hide ⟨by omega, Nat.le_refl _, Mv.refl _ _ _, fun p h1 h2 => by omega, rfl, fun _ _ => rfl⟩, unhide HE⟩
      case round =>
        obtain ⟨k, L, rfl, HJ, hE⟩ := hrel
        obtain ⟨k1, k2, hU⟩ := unhide HJ
        have hLl := hU.mv.len
        by_cases hkt : j < k
        · have hkt' : (j : Int) < (k : Int) := by omega
          obtain ⟨q, rfl⟩ : ∃ q, k = q + 1 := ⟨k - 1, by omega⟩
          have c1 := hE.cell (q + 1) (by omega)
          have c2 := hE.cell q (by omega)
          have z1 := hE.fz (q + 1)
          have z2 := hE.fz q
          have hne : ¬ q + 1 = q := by omega
          have HN := hide (show j ≤ q ∧ q ≤ m ∧ Dnw a m q l (swp L (q + 1) q) from ⟨by omega, by omega, hU.step (by omega) (by omega) (by omega)⟩)
          have HD2 := hide (hE.swap (q + 1) q (by omega) (by omega)).drew
          have hst := store_float
          clear HJ hU hE
          generalize at_ L q = x at *
          generalize at_ L (q + 1) = y at *
          go_wp2_with fail
          go_region
          go_wp2
          go_roundw
          case rel => exact ⟨q, _, by go_num, unhide HN, unhide HD2⟩
          case measure => simp [RowKit.intOf]
        · have hkt' : ¬ (j : Int) < (k : Int) := by omega
          obtain rfl : k = j := by omega
          have HE2 := hide (hU.done (by omega) (by omega) (unhide HS) (unhide HF).1 (unhide HF).2)
          have HM := hide hU.mv
          have HD2 := hide hE
          clear HJ hU hE
          go_wp2
          refine bodyPost_ret (results_none rfl _ _ _) rfl ?_
          exact ⟨rfl, L, unhide HM, unhide HE2, unhide HD2⟩
end Go.Proofs.Ytggjcfmoebghjaa
