/- A stretch put in order by insertion. -/
import Derived.Test.YtggjcfmoebghjaaSortD
namespace Go.Proofs.Ytggjcfmoebghjaa
open Go.RowKit

/-- The code of the i-th number. -/
abbrev cd (l : List Nat) (i : Nat) : Nat := codeN (at_ l i)
/-- A stretch is in order. -/
def Srt (l : List Nat) (a b : Nat) : Prop := ∀ p q, a ≤ p → p < q → q < b → cd l p ≤ cd l q
/-- Numbers of one stretch were changed about. -/
structure Mv (a b : Nat) (l l' : List Nat) : Prop where
  len : l'.length = l.length
  perm : l'.Perm l
  out : ∀ i, (i < a ∨ b ≤ i) → at_ l' i = at_ l i
  fr : ∀ i, a ≤ i → i < b → ∃ j, a ≤ j ∧ j < b ∧ at_ l' i = at_ l j
theorem Mv.refl (a b : Nat) (l : List Nat) : Mv a b l l := ⟨rfl, List.Perm.refl _, fun _ _ => rfl, fun i h1 h2 => ⟨i, h1, h2, rfl⟩⟩
theorem Mv.trans {a b : Nat} {l l' l'' : List Nat} (h : Mv a b l l') (k : Mv a b l' l'') : Mv a b l l'' := by
  refine ⟨k.len.trans h.len, k.perm.trans h.perm, fun i hi => (k.out i hi).trans (h.out i hi), fun i h1 h2 => ?_⟩
  obtain ⟨j, j1, j2, e⟩ := k.fr i h1 h2
  obtain ⟨p, p1, p2, e2⟩ := h.fr j j1 j2
  exact ⟨p, p1, p2, e.trans e2⟩
theorem Mv.wide {a b c d : Nat} {l l' : List Nat} (h : Mv a b l l') (h1 : c ≤ a) (h2 : b ≤ d) : Mv c d l l' := by
  refine ⟨h.len, h.perm, fun i hi => h.out i (by omega), fun i i1 i2 => ?_⟩
  by_cases c : a ≤ i ∧ i < b
  · obtain ⟨j, j1, j2, e⟩ := h.fr i c.1 c.2
    exact ⟨j, by omega, by omega, e⟩
  · exact ⟨i, i1, i2, h.out i (by omega)⟩
theorem Mv.swap {a b : Nat} (l : List Nat) (i j : Nat) (hi : a ≤ i ∧ i < b) (hj : a ≤ j ∧ j < b) (hb : b ≤ l.length) : Mv a b l (swp l i j) := by
  have h1 : i < l.length := by omega
  have h2 : j < l.length := by omega
  refine ⟨swp_len _ _ _, swp_perm _ _ _ h1 h2, fun k hk => ?_, fun k k1 k2 => ?_⟩
  · rw [swp_at _ _ _ _ h1 h2, if_neg (by omega), if_neg (by omega)]
  · rw [swp_at _ _ _ _ h1 h2]
    split
    · exact ⟨i, hi.1, hi.2, rfl⟩
    · split
      · exact ⟨j, hj.1, hj.2, rfl⟩
      · exact ⟨k, k1, k2, rfl⟩
/-- In order but for the one at j. -/
def But (L : List Nat) (a i j : Nat) : Prop := ∀ p q, a ≤ p → p < q → q ≤ i → q ≠ j → cd L p ≤ cd L q
theorem But.swap {L : List Nat} {a i j : Nat} (h : But L a i j) (haj : a < j) (hji : j ≤ i) (hi : i < L.length) (hc : cd L j < cd L (j - 1)) : But (swp L j (j - 1)) a i (j - 1) := by
  intro p q h1 h2 h3 h4
  have e : ∀ k, cd (swp L j (j - 1)) k = if k = j - 1 then cd L j else if k = j then cd L (j - 1) else cd L k := by
    intro k
    unfold cd
    rw [swp_at L j (j - 1) k (by omega) (by omega)]
    split
    · rfl
    · split <;> rfl
  rw [e, e, if_neg h4]
  by_cases hq : q = j
  · rw [if_pos hq]
    by_cases hp : p = j - 1
    · rw [if_pos hp]; omega
    · rw [if_neg hp, if_neg (by omega)]; exact h p (j - 1) h1 (by omega) (by omega) (by omega)
  · rw [if_neg hq]
    by_cases hp : p = j - 1
    · rw [if_pos hp]; exact h j q (by omega) (by omega) h3 hq
    · rw [if_neg hp]
      by_cases hp2 : p = j
      · rw [if_pos hp2]; exact h (j - 1) q (by omega) (by omega) h3 hq
      · rw [if_neg hp2]; exact h p q h1 h2 h3 hq
theorem But.done {L : List Nat} {a i j : Nat} (h : But L a i j) (hc : j ≤ a ∨ cd L (j - 1) ≤ cd L j) : Srt L a (i + 1) := by
  intro p q h1 h2 h3
  by_cases hq : q = j
  · subst hq
    rcases hc with hc | hc
    · omega
    · by_cases hp : p = q - 1
      · rw [hp]; exact hc
      · exact Nat.le_trans (h p (q - 1) h1 (by omega) (by omega) (by omega)) hc
  · exact h p q h1 h2 (by omega) hq

/-- num's Cmp as a value. -/
abbrev cmpV : Value := .func (.func 16) #[] #[]

set_option maxRecDepth 100000 in
set_option maxHeartbeats 2000000 in
theorem insertion_ok (g cap : Nat) (a b : Nat) (l : List Nat) (w : World) (hb : b ≤ l.length) (hl : l.length ≤ 1000) (ha : a ≤ 1000) (hD : Dat w g l w) :
    Calls Try.prog 44 #[.slice (some ⟨g, 0, none⟩) l.length cap, .int .i64 a, .int .i64 b, cmpV] w fun e w' => e = .returned (.tuple #[]) ∧ ∃ l', Mv a b l l' ∧ Srt l' a b ∧ Dat w g l' w' := by
  have HD := hide hD
  clear hD
  go_enter Try.func44, Try.ntmps44
  go_wp2
  go_loopw [8, 9] (fun vi _ wr => ∃ (i : Nat) (L : List Nat), vi = .int .i64 i ∧ Hid (a + 1 ≤ i ∧ (i ≤ b ∨ i = a + 1) ∧ Mv a b l L ∧ Srt L a i) ∧ Dat w g L wr) (fun vi _ wr => b + 1 - (RowKit.intOf vi).toNat)
  case atStart => exact ⟨a + 1, l, by go_num, hide ⟨Nat.le_refl _, .inr rfl, Mv.refl _ _ _, fun p q h1 h2 h3 => by omega⟩, unhide HD⟩
  case round =>
    obtain ⟨i, L, rfl, HI, hD⟩ := hrel
    obtain ⟨i1, i2, hM, hS⟩ := unhide HI
    have HD1 := hide hD
    by_cases hlt : i < b
    · have hlt' : (i : Int) < b := by omega
      have HM := hide hM; have HS := hide hS
      clear HI hM hS hD
      go_wp2_with fail
      generalize wr = w1 at *
      clear wr
      go_loopw [9] (fun vj wr => ∃ (j : Nat) (K : List Nat), vj = .int .i64 j ∧ Hid (a ≤ j ∧ j ≤ i ∧ Mv a b l K ∧ But K a i j) ∧ Dat w g K wr) (fun vj wr => (RowKit.intOf vj).toNat)
      case atStart => exact ⟨i, L, rfl, hide ⟨by omega, Nat.le_refl _, unhide HM, fun p q h1 h2 h3 h4 => unhide HS p q h1 h2 (by omega)⟩, unhide HD1⟩
      case round =>
        obtain ⟨j, K, rfl, HJ, hE⟩ := hrel
        obtain ⟨j1, j2, hM, hB⟩ := unhide HJ
        have hKl := hM.len
        by_cases haj : a < j
        · have haj' : (a : Int) < j := by omega
          have c1 := fun n => (hE.drewN n).cell j (by omega)
          have c2 := fun n => (hE.drewN n).cell (j - 1) (by omega)
          have z1 := fun n => (hE.drewN n).fz j
          have z2 := fun n => (hE.drewN n).fz (j - 1)
          have c10 := hE.cell j (by omega)
          have c20 := hE.cell (j - 1) (by omega)
          have b1 := hE.lt j (by omega)
          have b2 := hE.lt (j - 1) (by omega)
          have hcl := cmp3_lt (codeN (at_ K j)) (codeN (at_ K (j - 1)))
          obtain ⟨i', rfl⟩ : ∃ i', j = i' + 1 := ⟨j - 1, by omega⟩
          rw [Nat.add_sub_cancel] at c2 z2 b2 hcl c20
          by_cases hc : codeN (at_ K (i' + 1)) < codeN (at_ K i')
          · have HN := hide (show a ≤ i' ∧ i' ≤ i ∧ Mv a b l (swp K (i' + 1) i') ∧ But (swp K (i' + 1) i') a i i' from ⟨by omega, by omega, hM.trans (Mv.swap K _ _ ⟨by omega, by omega⟩ ⟨by omega, by omega⟩ (by omega)), by
              have := hB.swap haj j2 (by omega) (by rw [Nat.add_sub_cancel]; exact hc)
              rw [Nat.add_sub_cancel] at this; exact this⟩)
            have HD2 := hide (fun n => (hE.drewN n).swap (i' + 1) i' (by omega) (by omega))
            have hst := store_float
            have d1 : decide ((a : Int) < (i' : Int) + 1) = true := by simp; omega
            have d2 : decide (cmp3 (codeN (at_ K (i' + 1))) (codeN (at_ K i')) < 0) = true := decide_eq_true (by rw [hcl]; exact hc)
            clear HJ hM hB hE hcl hc
            generalize at_ K (i' + 1) = x at *
            generalize at_ K i' = y at *
            go_wp2_with fail
            go_quiet (first | (go_at_call 16; exact Calls.quiet_of_same (cmp_ok _ _ b1 b2 _)))
            have hne : ¬ i' + 1 = i' := by omega
            go_wp2_with fail
            go_region
            go_wp2
            go_roundw
            case rel => exact ⟨i', _, by go_num, unhide HN, unhide HD2 _⟩
            case measure => simp [RowKit.intOf]
          · have HN := hide (show i + 1 ≤ b ∧ Mv a b l K ∧ Srt K a (i + 1) from ⟨hlt, hM, hB.done (.inr (by rw [Nat.add_sub_cancel]; exact Nat.le_of_not_lt hc))⟩)
            have HD2 := hide (fun n => hE.drewN n)
            have d1 : decide ((a : Int) < (i' : Int) + 1) = true := by simp; omega
            have d2 : decide (cmp3 (codeN (at_ K (i' + 1))) (codeN (at_ K i')) < 0) = false := decide_eq_false (by rw [hcl]; exact hc)
            clear HJ hM hB hE hcl hc
            generalize at_ K (i' + 1) = x at *
            generalize at_ K i' = y at *
            go_wp2_with fail
            go_quiet (first | (go_at_call 16; exact Calls.quiet_of_same (cmp_ok _ _ b1 b2 _)))
            go_wp2
            go_roundw
            case rel => exact ⟨i + 1, K, by go_num, hide ⟨by omega, .inl (unhide HN).1, (unhide HN).2.1, (unhide HN).2.2⟩, unhide HD2 _⟩
            case measure => simp [RowKit.intOf]; omega
        · have HN := hide (show i + 1 ≤ b ∧ Mv a b l K ∧ Srt K a (i + 1) from ⟨hlt, hM, hB.done (.inl (by omega))⟩)
          have HD2 := hide (fun n => hE.drewN n)
          have d1 : decide ((a : Int) < (j : Int)) = false := by simp; omega
          clear HJ hM hB hE
          go_wp2_with fail
          go_quiet (fail)
          go_wp2
          go_roundw
          case rel => exact ⟨i + 1, K, by go_num, hide ⟨by omega, .inl (unhide HN).1, (unhide HN).2.1, (unhide HN).2.2⟩, unhide HD2 _⟩
          case measure => simp [RowKit.intOf]; omega
    · have hlt' : ¬ (i : Int) < b := by omega
      have HM := hide hM
      have HS := hide (show Srt L a b from fun p q h1 h2 h3 => hS p q h1 h2 (by omega))
      clear HI hM hS hD
      go_wp2
      go_end0
      exact ⟨rfl, L, unhide HM, unhide HS, unhide HD1⟩
end Go.Proofs.Ytggjcfmoebghjaa
