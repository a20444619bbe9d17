/- Two stretches in order, brought together, whatever their lengths. -/
import Derived.Test.YtggjcfmoebghjaaSortA
import Derived.Test.YtggjcfmoebghjaaSortB
import Derived.Test.YtggjcfmoebghjaaSortC
namespace Go.Proofs.Ytggjcfmoebghjaa
open Go.RowKit

theorem merge_all (g cap : Nat) (n : Nat) : ∀ a m b l w, b - a ≤ n → Merges g cap a m b l w := by
  induction n with
  | zero => intro a m b l w h ham hmb; omega
  | succ n ih =>
    intro a m b l w h ham hmb hb hl S1 S2 hD
    by_cases c1 : m = a + 1
    · subst c1; exact merge_one g cap a b l w (by omega) hb hl S2 hD
    · by_cases c2 : b = m + 1
      · subst c2; exact merge_last g cap a m l w (by omega) hb hl S1 hD
      · exact merge_mid g cap a m b l w (by omega) (by omega) hb hl S1 S2 hD fun a' m' b' l' w' h' => ih a' m' b' l' w' (by omega)
theorem merge_ok (g cap a m b : Nat) (l : List Nat) (w : World) : Merges g cap a m b l w := merge_all g cap (b - a) a m b l w (Nat.le_refl _)

/-- Blocks of s numbers, each in order, from lo to hi. -/
def Blk (l : List Nat) (s lo hi : Nat) : Prop := ∀ p q, lo ≤ p → p < q → q < hi → p / s = q / s → cd l p ≤ cd l q
theorem Srt.here {w wr : World} {g : Nat} {l : List Nat} (h : Dat w g l wr) : Dat wr g l wr := h.here

set_option maxRecDepth 100000 in
set_option maxHeartbeats 2000000 in
theorem stable_ok (g cap : Nat) (l : List Nat) (w : World) (hl : l.length ≤ 60) (hD : Dat w g l w) :
    Calls Try.prog 42 #[.slice (some ⟨g, 0, none⟩) l.length cap, .int .i64 l.length, cmpV] w fun e w' => e = .returned (.tuple #[]) ∧ ∃ l', Mv 0 l.length l l' ∧ Srt l' 0 l.length ∧ Dat w g l' w' := by
  have HD := hide hD
  clear hD
  obtain ⟨n, hn⟩ : ∃ n, n = l.length := ⟨_, rfl⟩
  rw [← hn] at hl ⊢
  have HNL := hide hn
  clear hn
  go_enter Try.func42, Try.ntmps42
  go_wp2
  go_loopw [7, 8] (fun va vb wr => ∃ (a : Nat) (L : List Nat), va = .int .i64 a ∧ vb = .int .i64 ((a + 20 : Nat) : Int) ∧ Hid (a % 20 = 0 ∧ a ≤ n ∧ Mv 0 n l L ∧ Blk L 20 0 a) ∧ Dat w g L wr) (fun va vb wr => n + 20 - (RowKit.intOf va).toNat)
  case atStart => exact ⟨0, l, rfl, rfl, hide ⟨rfl, Nat.zero_le _, Mv.refl _ _ _, fun p q h1 h2 h3 => by omega⟩, unhide HD⟩
  case round =>
    obtain ⟨a, L, rfl, rfl, HI, hE⟩ := hrel
    obtain ⟨a1, a2, hM, hB⟩ := unhide HI
    have len1 := hM.len
    rw [← unhide HNL] at len1
    by_cases hlt : a + 20 ≤ n
    · have hlt' : ((a : Int) + 20 ≤ (n : Int)) := by omega
      have K := insertion_ok g cap a (a + 20) L wr (by omega) (by omega) (by omega) hE.here
      rw [len1] at K
      have HK := hide K
      have HE := hide hE; have HM := hide hM; have HBk := hide hB
      clear K HI hM hB hE
      go_wp2_with fail
      refine (unhide HK).mono ?_
      rintro e w' ⟨rfl, L', hM', hS', hD'⟩
      have HN := hide (show (a + 20) % 20 = 0 ∧ a + 20 ≤ n ∧ Mv 0 n l L' ∧ Blk L' 20 0 (a + 20) from ⟨by omega, hlt, (unhide HM).trans (hM'.wide (Nat.zero_le _) hlt), fun p q p1 pq q2 hd => by
        by_cases c : a ≤ p
        · exact hS' p q c pq q2
        · have : q < a := by omega
          unfold cd
          rw [hM'.out p (.inl (by omega)), hM'.out q (.inl this)]
          exact unhide HBk p q p1 pq this hd⟩)
      have HD2 := hide ((unhide HE).trans hD')
      clear hM' hS' hD' HK
      go_wp2
      go_roundw
      case rel => exact ⟨a + 20, L', by go_num, by go_num, unhide HN, unhide HD2⟩
      case measure => simp [RowKit.intOf]; omega
    · have hlt' : ¬ ((a : Int) + 20 ≤ (n : Int)) := by omega
      have K := insertion_ok g cap a n L wr (by omega) (by omega) (by omega) hE.here
      rw [len1] at K
      have HK := hide K
      have HE := hide hE; have HM := hide hM; have HBk := hide hB
      clear K HI hM hB hE
      go_wp2_with fail
      refine (unhide HK).mono ?_
      rintro e w' ⟨rfl, L', hM', hS', hD'⟩
      have HN := hide (show Mv 0 n l L' ∧ Blk L' 20 0 n from ⟨(unhide HM).trans (hM'.wide (Nat.zero_le _) (Nat.le_refl _)), fun p q p1 pq q2 hd => by
        by_cases c : a ≤ p
        · exact hS' p q c pq q2
        · have : q < a := by omega
          unfold cd
          rw [hM'.out p (.inl (by omega)), hM'.out q (.inl this)]
          exact unhide HBk p q p1 pq this hd⟩)
      have HD2 := hide ((unhide HE).trans hD')
      clear hM' hS' hD' HK HE HM HBk
      go_wp2_with fail
      clear wr
      go_loopw [6, 7, 8, 9] (fun vs _ _ _ wr => ∃ (s : Nat) (L : List Nat), vs = .int .i64 s ∧ Hid ((s = 20 ∨ s = 40 ∨ s = 80) ∧ Mv 0 n l L ∧ Blk L s 0 n) ∧ Dat w g L wr) (fun vs _ _ _ wr => 100 - (RowKit.intOf vs).toNat)
      case atStart => exact ⟨20, L', rfl, hide ⟨.inl rfl, (unhide HN).1, (unhide HN).2⟩, unhide HD2⟩
      case round =>
        obtain ⟨s, K1, rfl, HI, hE⟩ := hrel
        obtain ⟨s1, hM, hB⟩ := unhide HI
        have HE := hide hE; have HM := hide hM; have HBk := hide hB
        clear HI hM hB hE
        rcases s1 with rfl | rfl | rfl
        · by_cases hlt2 : 20 < n
          · have hlt2' : ((20 : Int) < (n : Int)) := by omega
            go_wp2_with fail
            generalize wr = w1 at *
            clear wr
            go_loopw [7, 8] (fun va vb wr => ∃ (a : Nat) (L : List Nat), va = .int .i64 a ∧ vb = .int .i64 ((a + 40 : Nat) : Int) ∧ Hid (a % 40 = 0 ∧ a ≤ n ∧ Mv 0 n l L ∧ Blk L 40 0 a ∧ Blk L 20 a n) ∧ Dat w g L wr) (fun va vb wr => n + 40 - (RowKit.intOf va).toNat)
            case atStart => exact ⟨0, K1, rfl, by go_num, hide ⟨rfl, Nat.zero_le _, unhide HM, fun p q h1 h2 h3 => by omega, unhide HBk⟩, unhide HE⟩
            case round =>
              obtain ⟨a, L, rfl, rfl, HJ, hF⟩ := hrel
              obtain ⟨a1, a2, hM, hB1, hB2⟩ := unhide HJ
              have lenL := hM.len
              rw [← unhide HNL] at lenL
              by_cases hlt3 : a + 40 ≤ n
              · have hlt3' : ((a : Int) + 40 ≤ (n : Int)) := by omega
                have K := merge_ok g cap a (a + 20) (a + 40) L wr (by omega) (by omega) (by omega) (by omega) (fun p q p1 pq q2 => hB2 p q p1 pq (by omega) (by omega)) (fun p q p1 pq q2 => hB2 p q (by omega) pq (by omega) (by omega)) hF.here
                rw [lenL] at K
                have e1 : ((a + 20 : Nat) : Int) = (a : Int) + 20 := by omega
                have e2 : ((a + 40 : Nat) : Int) = (a : Int) + 40 := by omega
                rw [e1, e2] at K
                have HK := hide K
                have HF := hide hF; have HM2 := hide hM; have H1 := hide hB1; have H2 := hide hB2
                clear K HJ hM hB1 hB2 hF e1 e2
                go_wp2_with fail
                refine (unhide HK).mono ?_
                rintro e w' ⟨rfl, L', hM', hS', hD'⟩
                have HN := hide (show (a + 40) % 40 = 0 ∧ a + 40 ≤ n ∧ Mv 0 n l L' ∧ Blk L' 40 0 (a + 40) ∧ Blk L' 20 (a + 40) n from ⟨by omega, hlt3, (unhide HM2).trans (hM'.wide (Nat.zero_le _) hlt3), fun p q p1 pq q2 hd => by
                  by_cases c : a ≤ p
                  · exact hS' p q c pq q2
                  · have : q < a := by omega
                    unfold cd
                    rw [hM'.out p (.inl (by omega)), hM'.out q (.inl this)]
                    exact unhide H1 p q p1 pq this hd, fun p q p1 pq q2 hd => by
                  unfold cd
                  rw [hM'.out p (.inr p1), hM'.out q (.inr (by omega))]
                  exact unhide H2 p q (by omega) pq q2 hd⟩)
                have HD3 := hide ((unhide HF).trans hD')
                clear hM' hS' hD' HK
                go_wp2
                go_roundw
                case rel =>
                  refine ⟨_, _, _, _, _, _, _, _, _, _, _, _, _, _, _, _, _, _, ⟨a + 40, L', ?_, ?_, unhide HN, unhide HD3⟩, rfl⟩
                  all_goals go_num
                case measure => simp [RowKit.intOf]; omega
              · have hlt3' : ¬ ((a : Int) + 40 ≤ (n : Int)) := by omega
                by_cases hlt4 : a + 20 < n
                · have hlt4' : ((a : Int) + 20 < (n : Int)) := by omega
                  have K := merge_ok g cap a (a + 20) n L wr (by omega) (by omega) (by omega) (by omega) (fun p q p1 pq q2 => hB2 p q p1 pq (by omega) (by omega)) (fun p q p1 pq q2 => hB2 p q (by omega) pq q2 (by omega)) hF.here
                  rw [lenL] at K
                  have e1 : ((a + 20 : Nat) : Int) = (a : Int) + 20 := by omega
                  rw [e1] at K
                  have HK := hide K
                  have HF := hide hF; have HM2 := hide hM; have H1 := hide hB1
                  clear K HJ hM hB1 hB2 hF e1
                  go_wp2_with fail
                  refine (unhide HK).mono ?_
                  rintro e w' ⟨rfl, L', hM', hS', hD'⟩
                  have HN := hide (show Mv 0 n l L' ∧ Blk L' 40 0 n from ⟨(unhide HM2).trans (hM'.wide (Nat.zero_le _) (Nat.le_refl _)), fun p q p1 pq q2 hd => by
                    by_cases c : a ≤ p
                    · exact hS' p q c pq q2
                    · have : q < a := by omega
                      unfold cd
                      rw [hM'.out p (.inl (by omega)), hM'.out q (.inl this)]
                      exact unhide H1 p q p1 pq this hd⟩)
                  have HD3 := hide ((unhide HF).trans hD')
                  clear hM' hS' hD' HK
                  go_wp2
                  go_roundw
                  case rel => exact ⟨40, L', by go_num, hide ⟨by decide, (unhide HN).1, (unhide HN).2⟩, unhide HD3⟩
                  case measure => simp [RowKit.intOf]
                · have hlt4' : ¬ ((a : Int) + 20 < (n : Int)) := by omega
                  have HN := hide (show Mv 0 n l L ∧ Blk L 40 0 n from ⟨hM, fun p q p1 pq q2 hd => by
                    by_cases c : a ≤ p
                    · exact hB2 p q c pq q2 (by omega)
                    · exact hB1 p q p1 pq (by omega) hd⟩)
                  have HD3 := hide hF
                  clear HJ hM hB1 hB2 hF
                  go_wp2
                  go_roundw
                  case rel => exact ⟨40, L, by go_num, hide ⟨by decide, (unhide HN).1, (unhide HN).2⟩, unhide HD3⟩
                  case measure => simp [RowKit.intOf]
          · have hlt2' : ¬ ((20 : Int) < (n : Int)) := by omega
            have HN := hide (show Srt K1 0 n from fun p q p1 pq q2 => unhide HBk p q p1 pq q2 (by omega))
            go_wp2
            go_end0
            exact ⟨rfl, K1, unhide HM, unhide HN, unhide HE⟩
        · by_cases hlt2 : 40 < n
          · have hlt2' : ((40 : Int) < (n : Int)) := by omega
            go_wp2_with fail
            generalize wr = w1 at *
            clear wr
            go_loopw [7, 8] (fun va vb wr => ∃ (a : Nat) (L : List Nat), va = .int .i64 a ∧ vb = .int .i64 ((a + 80 : Nat) : Int) ∧ Hid (a % 80 = 0 ∧ a ≤ n ∧ Mv 0 n l L ∧ Blk L 80 0 a ∧ Blk L 40 a n) ∧ Dat w g L wr) (fun va vb wr => n + 80 - (RowKit.intOf va).toNat)
            case atStart => exact ⟨0, K1, rfl, by go_num, hide ⟨rfl, Nat.zero_le _, unhide HM, fun p q h1 h2 h3 => by omega, unhide HBk⟩, unhide HE⟩
            case round =>
              obtain ⟨a, L, rfl, rfl, HJ, hF⟩ := hrel
              obtain ⟨a1, a2, hM, hB1, hB2⟩ := unhide HJ
              have lenL := hM.len
              rw [← unhide HNL] at lenL
              by_cases hlt3 : a + 80 ≤ n
              · have hlt3' : ((a : Int) + 80 ≤ (n : Int)) := by omega
                have K := merge_ok g cap a (a + 40) (a + 80) L wr (by omega) (by omega) (by omega) (by omega) (fun p q p1 pq q2 => hB2 p q p1 pq (by omega) (by omega)) (fun p q p1 pq q2 => hB2 p q (by omega) pq (by omega) (by omega)) hF.here
                rw [lenL] at K
                have e1 : ((a + 40 : Nat) : Int) = (a : Int) + 40 := by omega
                have e2 : ((a + 80 : Nat) : Int) = (a : Int) + 80 := by omega
                rw [e1, e2] at K
                have HK := hide K
                have HF := hide hF; have HM2 := hide hM; have H1 := hide hB1; have H2 := hide hB2
                clear K HJ hM hB1 hB2 hF e1 e2
                go_wp2_with fail
                refine (unhide HK).mono ?_
                rintro e w' ⟨rfl, L', hM', hS', hD'⟩
                have HN := hide (show (a + 80) % 80 = 0 ∧ a + 80 ≤ n ∧ Mv 0 n l L' ∧ Blk L' 80 0 (a + 80) ∧ Blk L' 40 (a + 80) n from ⟨by omega, hlt3, (unhide HM2).trans (hM'.wide (Nat.zero_le _) hlt3), fun p q p1 pq q2 hd => by
                  by_cases c : a ≤ p
                  · exact hS' p q c pq q2
                  · have : q < a := by omega
                    unfold cd
                    rw [hM'.out p (.inl (by omega)), hM'.out q (.inl this)]
                    exact unhide H1 p q p1 pq this hd, fun p q p1 pq q2 hd => by
                  unfold cd
                  rw [hM'.out p (.inr p1), hM'.out q (.inr (by omega))]
                  exact unhide H2 p q (by omega) pq q2 hd⟩)
                have HD3 := hide ((unhide HF).trans hD')
                clear hM' hS' hD' HK
                go_wp2
                go_roundw
                case rel =>
                  refine ⟨_, _, _, _, _, _, _, _, _, _, _, _, _, _, _, _, _, _, ⟨a + 80, L', ?_, ?_, unhide HN, unhide HD3⟩, rfl⟩
                  all_goals go_num
                case measure => simp [RowKit.intOf]; omega
              · have hlt3' : ¬ ((a : Int) + 80 ≤ (n : Int)) := by omega
                by_cases hlt4 : a + 40 < n
                · have hlt4' : ((a : Int) + 40 < (n : Int)) := by omega
                  have K := merge_ok g cap a (a + 40) n L wr (by omega) (by omega) (by omega) (by omega) (fun p q p1 pq q2 => hB2 p q p1 pq (by omega) (by omega)) (fun p q p1 pq q2 => hB2 p q (by omega) pq q2 (by omega)) hF.here
                  rw [lenL] at K
                  have e1 : ((a + 40 : Nat) : Int) = (a : Int) + 40 := by omega
                  rw [e1] at K
                  have HK := hide K
                  have HF := hide hF; have HM2 := hide hM; have H1 := hide hB1
                  clear K HJ hM hB1 hB2 hF e1
                  go_wp2_with fail
                  refine (unhide HK).mono ?_
                  rintro e w' ⟨rfl, L', hM', hS', hD'⟩
                  have HN := hide (show Mv 0 n l L' ∧ Blk L' 80 0 n from ⟨(unhide HM2).trans (hM'.wide (Nat.zero_le _) (Nat.le_refl _)), fun p q p1 pq q2 hd => by
                    by_cases c : a ≤ p
                    · exact hS' p q c pq q2
                    · have : q < a := by omega
                      unfold cd
                      rw [hM'.out p (.inl (by omega)), hM'.out q (.inl this)]
                      exact unhide H1 p q p1 pq this hd⟩)
                  have HD3 := hide ((unhide HF).trans hD')
                  clear hM' hS' hD' HK
                  go_wp2
                  go_roundw
                  case rel => exact ⟨80, L', by go_num, hide ⟨by decide, (unhide HN).1, (unhide HN).2⟩, unhide HD3⟩
                  case measure => simp [RowKit.intOf]
                · have hlt4' : ¬ ((a : Int) + 40 < (n : Int)) := by omega
                  have HN := hide (show Mv 0 n l L ∧ Blk L 80 0 n from ⟨hM, fun p q p1 pq q2 hd => by
                    by_cases c : a ≤ p
                    · exact hB2 p q c pq q2 (by omega)
                    · exact hB1 p q p1 pq (by omega) hd⟩)
                  have HD3 := hide hF
                  clear HJ hM hB1 hB2 hF
                  go_wp2
                  go_roundw
                  case rel => exact ⟨80, L, by go_num, hide ⟨by decide, (unhide HN).1, (unhide HN).2⟩, unhide HD3⟩
                  case measure => simp [RowKit.intOf]
          · have hlt2' : ¬ ((40 : Int) < (n : Int)) := by omega
            have HN := hide (show Srt K1 0 n from fun p q p1 pq q2 => unhide HBk p q p1 pq q2 (by omega))
            go_wp2
            go_end0
            exact ⟨rfl, K1, unhide HM, unhide HN, unhide HE⟩
        · have hlt2' : ¬ ((80 : Int) < (n : Int)) := by omega
          have HN := hide (show Srt K1 0 n from fun p q p1 pq q2 => unhide HBk p q p1 pq q2 (by omega))
          go_wp2
          go_end0
          exact ⟨rfl, K1, unhide HM, unhide HN, unhide HE⟩
end Go.Proofs.Ytggjcfmoebghjaa
