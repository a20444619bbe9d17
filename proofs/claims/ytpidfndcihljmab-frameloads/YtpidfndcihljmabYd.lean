/- Where a line ends. -/
import Derived.Test.YtpidfndcihljmabYc
import Derived.WalkMore
namespace Go.Proofs.Ytpidfndcihljmab
open Go.RowKit

theorem eq8 (x c : UInt8) (n : Int) (hn : n = c.toNat) (h : x = c) : ((x.toNat : Int) == n) = true := by subst hn h; simp
theorem ne8 (x c : UInt8) (n : Int) (hn : n = c.toNat) (h : x ≠ c) : ((x.toNat : Int) == n) = false := by
  subst hn
  simp only [beq_eq_false_iff_ne, ne_eq]
  intro e
  exact h (UInt8.toNat_inj.1 (by omega))
theorem eol_of (l : List UInt8) : (0 < nl l ∧ l.getD (nl l - 1) 0 = 13 ∧ eol l = nl l - 1) ∨ (¬ (0 < nl l ∧ l.getD (nl l - 1) 0 = 13) ∧ eol l = nl l) := by
  unfold eol
  by_cases h : 0 < nl l ∧ l.getD (nl l - 1) 0 = 13
  · exact .inl ⟨h.1, h.2, if_pos h⟩
  · exact .inr ⟨h, if_neg h⟩

set_option maxRecDepth 100000 in
set_option maxHeartbeats 4000000 in
theorem lineEnd_ok {w : World} (a : Option Addr) (n cap : Nat) (l : List UInt8) (hn : n = l.length) (h : Rd w a l) (hN : n ≤ 100000000) :
    Calls Try.prog 12 #[.slice a n cap] w fun e w' => ∃ (m : Nat) (F : Bool), e = .returned (.tuple #[iv m, .bool F]) ∧ w' = w ∧ ((F = true ∧ nl l < l.length ∧ nl l ≤ 258 ∧ m = eol l) ∨ (F = false ∧ m = 0 ∧ ¬ (nl l < l.length ∧ nl l ≤ 258))) := by
  have H := hide h; have HN := hide hn
  clear h hn
  go_enter Try.func12, Try.ntmps12
  go_wp2_with fail
  go_step3
  go_wp2_with fail
  (try go_step3)
  (try go_wp2_with fail)
  go_loop [2, 3, 8] (fun e f i => e = iv 0 ∧ f = .bool false ∧ ∃ k : Nat, i = iv k ∧ Hid (k ≤ n ∧ k ≤ 258 ∧ ∀ j, j < k → l.getD j 0 ≠ 10)) (fun e f i => n - (RowKit.intOf i).toNat)
  case atStart => exact ⟨rfl, rfl, 0, rfl, hide ⟨Nat.zero_le _, by omega, fun j hj => by omega⟩⟩
  case round =>
    obtain ⟨rfl, rfl, k, rfl, HI⟩ := hrel
    obtain ⟨hk, hk2, hno⟩ := unhide HI
    by_cases hlt : k < n
    · have hlt' : (k : Int) < n := by omega
      obtain ⟨b, o, rfl, c0⟩ := unhide H k (unhide HN ▸ hlt)
      obtain ⟨x, hx⟩ : ∃ x, l.getD k 0 = x := ⟨_, rfl⟩
      rw [hx] at c0
      have HX := hide hx
      clear hx
      by_cases he : x = 10
      · have HNL := hide (nl_eq l k hno (unhide HN ▸ hlt) (by rw [unhide HX]; exact he))
        have he' := eq8 x 10 10 rfl he
        have HK := hide (And.intro hlt hk2)
        clear HI hno he
        by_cases h0 : 0 < k
        · have h0' : (0 : Int) < k := by omega
          obtain ⟨_, _, e, c1⟩ := unhide H (k - 1) (by have := unhide HN; omega)
          cases e
          obtain ⟨y, hy⟩ : ∃ y, l.getD (k - 1) 0 = y := ⟨_, rfl⟩
          rw [hy] at c1
          have c1 : w.cell? ⟨b, o + ((k : Int) - 1).toNat, none⟩ = some (bv y) := by rw [show ((k : Int) - 1).toNat = k - 1 by omega]; exact c1
          have hk1 : (k : Int) - 1 < n := by omega
          have hk0 : (0 : Int) ≤ (k : Int) - 1 := by omega
          have HY := hide hy
          clear hy
          by_cases h13 : y = 13
          · have h13' := eq8 y 13 13 rfl h13
            have HF := hide h13
            clear h13
            go_wp2_with fail
            (try rw [Exit.noGoto_ret])
            go_ret2
            refine ⟨k - 1, true, ?_, rfl, .inl ⟨rfl, ?_, ?_, ?_⟩⟩
            · rw [show ((k - 1 : Nat) : Int) = (k : Int) - 1 by omega]; rfl
            · rw [unhide HNL, ← unhide HN]; exact (unhide HK).1
            · rw [unhide HNL]; exact (unhide HK).2
            · rcases eol_of l with ⟨_, _, e⟩ | ⟨hn, e⟩
              · rw [e, unhide HNL]
              · exact absurd ⟨by rw [unhide HNL]; exact h0, by rw [unhide HNL, unhide HY]; exact unhide HF⟩ hn
          · have h13' := ne8 y 13 13 rfl h13
            have HF := hide h13
            clear h13
            go_wp2_with fail
            (try rw [Exit.noGoto_ret])
            go_ret2
            refine ⟨k, true, rfl, rfl, .inl ⟨rfl, ?_, ?_, ?_⟩⟩
            · rw [unhide HNL, ← unhide HN]; exact (unhide HK).1
            · rw [unhide HNL]; exact (unhide HK).2
            · rcases eol_of l with ⟨_, h2, e⟩ | ⟨hn, e⟩
              · rw [unhide HNL, unhide HY] at h2; exact absurd h2 (unhide HF)
              · rw [e, unhide HNL]
        · obtain rfl : k = 0 := by omega
          simp only [Nat.add_zero] at c0
          go_wp2_with fail
          (try rw [Exit.noGoto_ret])
          go_ret2
          refine ⟨0, true, rfl, rfl, .inl ⟨rfl, ?_, ?_, ?_⟩⟩
          · rw [unhide HNL, ← unhide HN]; exact (unhide HK).1
          · rw [unhide HNL]; exact (unhide HK).2
          · rcases eol_of l with ⟨h2, _, e⟩ | ⟨hn, e⟩
            · rw [unhide HNL] at h2; omega
            · rw [e, unhide HNL]
      · have he' := ne8 x 10 10 rfl he
        have HE := hide (show ∀ j, j < k + 1 → l.getD j 0 ≠ 10 from fun j hj => by
          by_cases hjk : j = k
          · subst hjk; rw [unhide HX]; exact he
          · exact hno j (by omega))
        clear he
        by_cases h258 : k = 258
        · have h258' : (258 : Int) ≤ k := by omega
          have HG := hide (nl_ge l (k + 1) (unhide HE) (by have := unhide HN; omega))
          have H8 := hide h258
          clear HI hno h258
          go_wp2_with fail
          (try rw [Exit.noGoto_ret])
          go_ret2
          refine ⟨0, false, rfl, rfl, .inr ⟨rfl, rfl, fun h => ?_⟩⟩
          have h1 := unhide HG
          have h2 := unhide H8
          omega
        · have h258' : ¬ (258 : Int) ≤ k := by omega
          clear HI hno
          go_wp2_with fail
          refine ⟨⟨by trivial, by trivial, k + 1, by go_num, hide ⟨by omega, by omega, unhide HE⟩⟩, by simp [RowKit.intOf]; omega⟩
    · have hlt' : ¬ (k : Int) < n := by omega
      have HG := hide (nl_ge l k hno (by have := unhide HN; omega))
      have hkn : k = n := by omega
      have HKN := hide hkn
      clear HI hno hkn
      go_wp2_with fail
      (try rw [Exit.noGoto_ret])
      go_ret2
      refine ⟨0, false, rfl, rfl, .inr ⟨rfl, rfl, fun h => ?_⟩⟩
      have h1 := unhide HG; have h2 := unhide HN; have h3 := unhide HKN
      omega
end Go.Proofs.Ytpidfndcihljmab
