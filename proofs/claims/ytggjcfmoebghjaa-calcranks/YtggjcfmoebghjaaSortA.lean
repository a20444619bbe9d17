/- A stretch of one and a stretch in order, brought together. -/
import Derived.Test.YtggjcfmoebghjaaSortP
namespace Go.Proofs.Ytggjcfmoebghjaa
open Go.RowKit

set_option maxRecDepth 100000 in
set_option maxHeartbeats 2000000 in
theorem merge_one (g cap : Nat) (a b : Nat) (l : List Nat) (w : World) (hab : a + 1 < b) (hb : b ≤ l.length) (hl : l.length ≤ 1000) (hS : Srt l (a + 1) b) (hD : Dat w g l w) :
    Calls Try.prog 45 #[.slice (some ⟨g, 0, none⟩) l.length cap, .int .i64 a, .int .i64 ((a + 1 : Nat) : Int), .int .i64 b, cmpV] w fun e w' => e = .returned (.tuple #[]) ∧ ∃ l', Mv a b l l' ∧ Srt l' a b ∧ Dat w g l' w' := by
  have HD := hide hD
  have HS := hide hS
  have hone : IntKind.i64.wrap (((a + 1 : Nat) : Int) - a) = 1 := by rw [IntKind.wrap_i64]; omega
  clear hD hS
  go_enter Try.func45, Try.ntmps45
  go_wp2_with fail
  go_loopw [10, 11, 12] (fun vi vj _ wr => ∃ (i j : Nat), vi = .int .i64 i ∧ vj = .int .i64 j ∧ Dat w g l wr ∧ Hid (a + 1 ≤ i ∧ i ≤ j ∧ j ≤ b ∧ (∀ p, a + 1 ≤ p → p < i → cd l p < cd l a) ∧ ∀ p, j ≤ p → p < b → cd l a ≤ cd l p)) (fun vi vj _ wr => (RowKit.intOf vj).toNat - (RowKit.intOf vi).toNat)
  case atStart => exact ⟨a + 1, b, rfl, rfl, unhide HD, hide ⟨Nat.le_refl _, by omega, Nat.le_refl _, fun p h1 h2 => by omega, fun p h1 h2 => by omega⟩⟩
  case round =>
    obtain ⟨i, j, rfl, rfl, hE, HI⟩ := hrel
    have HE := hide hE
    clear hE
    obtain ⟨i1, i2, i3, f1, f2⟩ := unhide HI
    by_cases hlt : i < j
    · have hlt' : (i : Int) < j := by omega
      obtain ⟨h, hh⟩ : ∃ h, h = (i + j) / 2 := ⟨_, rfl⟩
      have hhI : ((i : Int) + (j : Int)) / 2 = (h : Int) := by omega
      have h1 : i ≤ h := by omega
      have h2 : h < j := by omega
      have c1 := fun n => ((unhide HE).drewN n).cell h (by omega)
      have c2 := fun n => ((unhide HE).drewN n).cell a (by omega)
      have c10 := (unhide HE).cell h (by omega)
      have c20 := (unhide HE).cell a (by omega)
      have b1 := (unhide HD).lt h (by omega)
      have b2 := (unhide HD).lt a (by omega)
      have hcl := cmp3_lt (codeN (at_ l h)) (codeN (at_ l a))
      have hhl : h < l.length := by omega
      have hal : a < l.length := by omega
      clear hh
      by_cases hc : codeN (at_ l h) < codeN (at_ l a)
      · have d2 : decide (cmp3 (codeN (at_ l h)) (codeN (at_ l a)) < 0) = true := decide_eq_true (by rw [hcl]; exact hc)
        have HN := hide (show a + 1 ≤ h + 1 ∧ h + 1 ≤ j ∧ j ≤ b ∧ (∀ p, a + 1 ≤ p → p < h + 1 → cd l p < cd l a) ∧ ∀ p, j ≤ p → p < b → cd l a ≤ cd l p from ⟨by omega, by omega, i3, fun p p1 p2 => by
          by_cases e : p = h
          · rw [e]; exact hc
          · exact Nat.lt_of_le_of_lt (unhide HS p h p1 (by omega) (by omega)) hc, f2⟩)
        clear HI f1 f2 hcl hc
        generalize at_ l h = x at *
        generalize at_ l a = y at *
        go_wp2_with fail
        go_quiet (first | (go_at_call 16; exact Calls.quiet_of_same (cmp_ok _ _ b1 b2 _)))
        go_wp2
        go_roundw
        case rel => exact ⟨h + 1, j, by go_num, rfl, (unhide HE).drewN _, unhide HN⟩
        case measure => simp [RowKit.intOf]; omega
      · have d2 : decide (cmp3 (codeN (at_ l h)) (codeN (at_ l a)) < 0) = false := decide_eq_false (by rw [hcl]; exact hc)
        have HN := hide (show a + 1 ≤ i ∧ i ≤ h ∧ h ≤ b ∧ (∀ p, a + 1 ≤ p → p < i → cd l p < cd l a) ∧ ∀ p, h ≤ p → p < b → cd l a ≤ cd l p from ⟨i1, h1, by omega, f1, fun p p1 p2 => by
          by_cases e : p = h
          · rw [e]; exact Nat.le_of_not_lt hc
          · exact Nat.le_trans (Nat.le_of_not_lt hc) (unhide HS h p (by omega) (by omega) p2)⟩)
        clear HI f1 f2 hcl hc
        generalize at_ l h = x at *
        generalize at_ l a = y at *
        go_wp2_with fail
        go_quiet (first | (go_at_call 16; exact Calls.quiet_of_same (cmp_ok _ _ b1 b2 _)))
        go_wp2
        go_roundw
        case rel => exact ⟨i, h, rfl, rfl, (unhide HE).drewN _, unhide HN⟩
        case measure => simp [RowKit.intOf]; omega
    · have hlt' : ¬ (i : Int) < j := by omega
      obtain rfl : j = i := by omega
      have HF := hide (And.intro f1 f2)
      clear HI f1 f2
      go_wp2_with fail
      generalize wr = w1 at *
      clear wr
      go_loopw [13] (fun vk wr => ∃ (k : Nat) (L : List Nat), vk = .int .i64 k ∧ Hid (a ≤ k ∧ k ≤ j - 1 ∧ Upw a b k l L) ∧ Dat w g L wr) (fun vk wr => j - (RowKit.intOf vk).toNat)
      case atStart => exact ⟨a, l, rfl, hide ⟨Nat.le_refl _, by omega, Mv.refl _ _ _, fun p h1 h2 => by omega, rfl, fun _ _ => rfl⟩, unhide HE⟩
      case round =>
        obtain ⟨k, L, rfl, HJ, hE⟩ := hrel
        obtain ⟨k1, k2, hU⟩ := unhide HJ
        have hLl := hU.mv.len
        by_cases hkt : k < j - 1
        · have hkt' : (k : Int) < (j : Int) - 1 := by omega
          have c1 := hE.cell k (by omega)
          have c2 := hE.cell (k + 1) (by omega)
          have z1 := hE.fz k
          have z2 := hE.fz (k + 1)
          have hne : ¬ k = k + 1 := by omega
          have HN := hide (show a ≤ k + 1 ∧ k + 1 ≤ j - 1 ∧ Upw a b (k + 1) l (swp L k (k + 1)) from ⟨by omega, by omega, hU.step k1 (by omega) hb⟩)
          have HD2 := hide (hE.swap k (k + 1) (by omega) (by omega)).drew
          have hst := store_float
          clear HJ hU hE
          generalize at_ L k = x at *
          generalize at_ L (k + 1) = y at *
          go_wp2_with fail
          go_region
          go_wp2
          go_roundw
          case rel => exact ⟨k + 1, _, by go_num, unhide HN, unhide HD2⟩
          case measure => simp [RowKit.intOf]; omega
        · have hkt' : ¬ (k : Int) < (j : Int) - 1 := by omega
          obtain rfl : k = j - 1 := by omega
          have HE2 := hide (hU.done (by omega) (unhide HS) (by omega) (unhide HF).1 (unhide HF).2)
          have HM := hide hU.mv
          have HD2 := hide hE
          clear HJ hU hE
          go_wp2
          refine bodyPost_ret (results_none rfl _ _ _) rfl ?_
          exact ⟨rfl, L, unhide HM, unhide HE2, unhide HD2⟩
end Go.Proofs.Ytggjcfmoebghjaa
