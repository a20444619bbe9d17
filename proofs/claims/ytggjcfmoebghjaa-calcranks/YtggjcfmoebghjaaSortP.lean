/- Two stretches in order, brought together: what is moved, and why all is in order behind it. -/
import Derived.Test.YtggjcfmoebghjaaSortR
import Derived.Test.YtggjcfmoebghjaaSortI
namespace Go.Proofs.Ytggjcfmoebghjaa
open Go.RowKit

/-- One number on its way upwards from a, at k now. -/
structure Upw (a b k : Nat) (l L : List Nat) : Prop where
  mv : Mv a b l L
  lo : ∀ p, a ≤ p → p < k → at_ L p = at_ l (p + 1)
  it : at_ L k = at_ l a
  hi : ∀ p, k < p → at_ L p = at_ l p
theorem Upw.step {a b k : Nat} {l L : List Nat} (h : Upw a b k l L) (ha : a ≤ k) (hk : k + 1 < b) (hb : b ≤ l.length) : Upw a b (k + 1) l (swp L k (k + 1)) := by
  have hl := h.mv.len
  have e := fun p => swp_at L k (k + 1) p (by omega) (by omega)
  refine ⟨h.mv.trans (Mv.swap L _ _ ⟨ha, by omega⟩ ⟨by omega, hk⟩ (by omega)), fun p p1 p2 => ?_, ?_, fun p p1 => ?_⟩
  · rw [e, if_neg (by omega)]
    by_cases c : p = k
    · rw [if_pos c, c]; exact h.hi _ (by omega)
    · rw [if_neg c]; exact h.lo p p1 (by omega)
  · rw [e, if_pos rfl]; exact h.it
  · rw [e, if_neg (by omega), if_neg (by omega)]; exact h.hi p (by omega)
theorem Upw.done {a b r : Nat} {l L : List Nat} (h : Upw a b (r - 1) l L) (hr : a + 1 ≤ r) (hs : Srt l (a + 1) b) (hrb : r ≤ b) (h1 : ∀ p, a + 1 ≤ p → p < r → cd l p < cd l a) (h2 : ∀ p, r ≤ p → p < b → cd l a ≤ cd l p) : Srt L a b := by
  have e : ∀ p, a ≤ p → p < b → cd L p = if p < r - 1 then cd l (p + 1) else if p = r - 1 then cd l a else cd l p := by
    intro p p1 p2
    unfold cd
    split
    · rw [h.lo p p1 (by assumption)]
    · split
      · rename_i c; rw [c, h.it]
      · rw [h.hi p (by omega)]
  intro p q p1 pq q2
  rw [e p p1 (by omega), e q (by omega) q2]
  by_cases c1 : q < r - 1
  · rw [if_pos c1, if_pos (by omega)]; exact hs _ _ (by omega) (by omega) (by omega)
  · rw [if_neg c1]
    by_cases c2 : q = r - 1
    · rw [if_pos c2, if_pos (by omega)]; exact Nat.le_of_lt (h1 _ (by omega) (by omega))
    · rw [if_neg c2]
      by_cases c3 : p < r - 1
      · rw [if_pos c3]; exact hs _ _ (by omega) (by omega) q2
      · rw [if_neg c3]
        by_cases c4 : p = r - 1
        · rw [if_pos c4]; exact h2 q (by omega) q2
        · rw [if_neg c4]; exact hs _ _ (by omega) pq q2
/-- One number on its way downwards from m, at k now. -/
structure Dnw (a m k : Nat) (l L : List Nat) : Prop where
  mv : Mv a (m + 1) l L
  hi : ∀ p, k < p → p ≤ m → at_ L p = at_ l (p - 1)
  it : at_ L k = at_ l m
  lo : ∀ p, p < k → at_ L p = at_ l p
theorem Dnw.step {a m k : Nat} {l L : List Nat} (h : Dnw a m (k + 1) l L) (ha : a ≤ k) (hk : k + 1 ≤ m) (hb : m < l.length) : Dnw a m k l (swp L (k + 1) k) := by
  have hl := h.mv.len
  have e := fun p => swp_at L (k + 1) k p (by omega) (by omega)
  refine ⟨h.mv.trans (Mv.swap L _ _ ⟨by omega, by omega⟩ ⟨ha, by omega⟩ (by omega)), fun p p1 p2 => ?_, ?_, fun p p1 => ?_⟩
  · rw [e, if_neg (by omega)]
    by_cases c : p = k + 1
    · rw [if_pos c, c]; exact h.lo _ (by omega)
    · rw [if_neg c]; exact h.hi p (by omega) p2
  · rw [e, if_pos rfl]; exact h.it
  · rw [e, if_neg (by omega), if_neg (by omega)]; exact h.lo p (by omega)
theorem Dnw.done {a m r : Nat} {l L : List Nat} (h : Dnw a m r l L) (har : a ≤ r) (hrm : r ≤ m) (hs : Srt l a m) (h1 : ∀ p, a ≤ p → p < r → cd l p ≤ cd l m) (h2 : ∀ p, r ≤ p → p < m → cd l m < cd l p) : Srt L a (m + 1) := by
  have e : ∀ p, a ≤ p → p ≤ m → cd L p = if p < r then cd l p else if p = r then cd l m else cd l (p - 1) := by
    intro p p1 p2
    unfold cd
    split
    · rw [h.lo p (by assumption)]
    · split
      · rename_i c; rw [c, h.it]
      · rw [h.hi p (by omega) p2]
  intro p q p1 pq q2
  rw [e p p1 (by omega), e q (by omega) (by omega)]
  by_cases c1 : q < r
  · rw [if_pos c1, if_pos (by omega)]; exact hs _ _ p1 pq (by omega)
  · rw [if_neg c1]
    by_cases c2 : q = r
    · rw [if_pos c2, if_pos (by omega)]; exact h1 _ p1 (by omega)
    · rw [if_neg c2]
      by_cases c3 : p < r
      · rw [if_pos c3]; exact hs _ _ p1 (by omega) (by omega)
      · rw [if_neg c3]
        by_cases c4 : p = r
        · rw [if_pos c4]; exact Nat.le_of_lt (h2 _ (by omega) (by omega))
        · rw [if_neg c4]; exact hs _ _ (by omega) (by omega) (by omega)

theorem Rot.mv {s m e a b : Nat} {l L : List Nat} (h : Rot s m e l L) (h1 : s ≤ m) (h2 : m ≤ e) (h3 : a ≤ s) (h4 : e ≤ b) : Mv a b l L := by
  refine ⟨h.len, h.perm, fun i hi => h.out i (by omega), fun i i1 i2 => ?_⟩
  by_cases c1 : i < s ∨ e ≤ i
  · exact ⟨i, i1, i2, h.out i c1⟩
  · by_cases c2 : i < s + (e - m)
    · have := h.fst (i - s) (by omega)
      rw [show s + (i - s) = i by omega] at this
      exact ⟨m + (i - s), by omega, by omega, this⟩
    · have := h.snd (i - (s + (e - m))) (by omega)
      rw [show s + (e - m) + (i - (s + (e - m))) = i by omega] at this
      exact ⟨s + (i - (s + (e - m))), by omega, by omega, this⟩
theorem Rot.none {s m e : Nat} (l : List Nat) (h : s = m ∨ e = m) : Rot s m e l l := by
  refine ⟨rfl, List.Perm.refl _, fun t ht => ?_, fun t ht => ?_, fun _ _ => rfl⟩
  · rcases h with h | h
    · rw [h]
    · omega
  · rcases h with h | h
    · omega
    · rw [show s + (e - m) + t = s + t by omega]
/-- Where the two stretches are cut. -/
structure CutAt (a m b mid s : Nat) (l : List Nat) : Prop where
  h0 : a ≤ s ∧ s ≤ m ∧ s ≤ mid ∧ m ≤ mid + m - s ∧ mid + m - s ≤ b ∧ mid ≤ mid + m - s
  lo : ∀ p q, a ≤ p → p < s → mid + m - s ≤ q → q < b → cd l p ≤ cd l q
  hi : ∀ p q, m ≤ p → p < mid + m - s → s ≤ q → q < m → cd l p ≤ cd l q
theorem CutAt.of {a m b mid s s0 r0 : Nat} {l : List Nat} (ham : a < m) (hmb : m < b) (hmid : mid = (a + b) / 2) (h : (mid < m ∧ s0 = mid + m - b ∧ r0 = mid) ∨ (m ≤ mid ∧ s0 = a ∧ r0 = m)) (hs : s0 ≤ s ∧ s ≤ r0)
    (S1 : Srt l a m) (S2 : Srt l m b) (F1 : ∀ c, s0 ≤ c → c < s → cd l c ≤ cd l (mid + m - 1 - c)) (F2 : ∀ c, s ≤ c → c < r0 → cd l (mid + m - 1 - c) < cd l c) : CutAt a m b mid s l := by
  have le1 : ∀ p q, a ≤ p → p ≤ q → q < m → cd l p ≤ cd l q := by
    intro p q h1 h2 h3
    rcases Nat.lt_or_eq_of_le h2 with h | h
    · exact S1 p q h1 h h3
    · rw [h]; exact Nat.le_refl _
  have le2 : ∀ p q, m ≤ p → p ≤ q → q < b → cd l p ≤ cd l q := by
    intro p q h1 h2 h3
    rcases Nat.lt_or_eq_of_le h2 with h | h
    · exact S2 p q h1 h h3
    · rw [h]; exact Nat.le_refl _
  refine ⟨by omega, fun p q p1 p2 q1 q2 => ?_, fun p q p1 p2 q1 q2 => ?_⟩
  · by_cases c : s = s0
    · exfalso; omega
    · have f := F1 (s - 1) (by omega) (by omega)
      have a1 := le1 p (s - 1) p1 (by omega) (by omega)
      have a2 := le2 (mid + m - 1 - (s - 1)) q (by omega) (by omega) q2
      omega
  · by_cases c : s = r0
    · exfalso; omega
    · have f := F2 s (Nat.le_refl _) (by omega)
      have a1 := le2 p (mid + m - 1 - s) p1 (by omega) (by omega)
      have a2 := le1 s q (by omega) q1 q2
      omega
/-- Behind the turning about: four stretches in order, the left half below the right one. -/
structure Half (a b mid s e : Nat) (L : List Nat) : Prop where
  s1 : Srt L a s
  s2 : Srt L s mid
  s3 : Srt L mid e
  s4 : Srt L e b
  lr : ∀ p q, a ≤ p → p < mid → mid ≤ q → q < b → cd L p ≤ cd L q
theorem Half.of {a m b mid s : Nat} {l L : List Nat} (c : CutAt a m b mid s l) (S1 : Srt l a m) (S2 : Srt l m b) (h : Rot s m (mid + m - s) l L) : Half a b mid s (mid + m - s) L := by
  obtain ⟨h0, h1, h2, h3, h4, h5⟩ := c.h0
  have e1 : ∀ p, p < s → cd L p = cd l p := fun p hp => by unfold cd; rw [h.out p (.inl hp)]
  have e2 : ∀ p, s ≤ p → p < mid → cd L p = cd l (m + (p - s)) := fun p p1 p2 => by
    have := h.fst (p - s) (by omega)
    unfold cd; rw [show s + (p - s) = p by omega] at this; rw [this]
  have e3 : ∀ p, mid ≤ p → p < mid + m - s → cd L p = cd l (s + (p - mid)) := fun p p1 p2 => by
    have := h.snd (p - mid) (by omega)
    unfold cd; rw [show s + (mid + m - s - m) + (p - mid) = p by omega] at this; rw [this]
  have e4 : ∀ p, mid + m - s ≤ p → cd L p = cd l p := fun p hp => by unfold cd; rw [h.out p (.inr hp)]
  refine ⟨fun p q p1 pq q2 => ?_, fun p q p1 pq q2 => ?_, fun p q p1 pq q2 => ?_, fun p q p1 pq q2 => ?_, fun p q p1 p2 q1 q2 => ?_⟩
  · rw [e1 p (by omega), e1 q q2]; exact S1 p q p1 pq (by omega)
  · rw [e2 p p1 (by omega), e2 q (by omega) q2]; exact S2 _ _ (by omega) (by omega) (by omega)
  · rw [e3 p p1 (by omega), e3 q (by omega) q2]; exact S1 _ _ (by omega) (by omega) (by omega)
  · rw [e4 p p1, e4 q (by omega)]; exact S2 _ _ (by omega) pq q2
  · by_cases c1 : p < s
    · rw [e1 p c1]
      by_cases c2 : q < mid + m - s
      · rw [e3 q q1 c2]; exact S1 _ _ p1 (by omega) (by omega)
      · rw [e4 q (by omega)]; exact c.lo p q p1 c1 (by omega) q2
    · rw [e2 p (by omega) p2]
      by_cases c2 : q < mid + m - s
      · rw [e3 q q1 c2]; exact c.hi _ _ (by omega) (by omega) (by omega) (by omega)
      · rw [e4 q (by omega)]; exact S2 _ _ (by omega) (by omega) q2
theorem Srt.one {L : List Nat} {a s b : Nat} (h1 : Srt L a s) (h2 : Srt L s b) (h : ¬ (a < s ∧ s < b)) (h3 : a ≤ s) (h4 : s ≤ b) : Srt L a b := by
  by_cases c : a < s
  · have : s = b := by omega
    rw [← this]; exact h1
  · have : s = a := by omega
    rw [← this]; exact h2
theorem Srt.kept {L L' : List Nat} {a b c d : Nat} (h : Srt L c d) (k : Mv a b L L') (hd : d ≤ a ∨ b ≤ c) : Srt L' c d := by
  intro p q p1 pq q2
  unfold cd
  rw [k.out p (by omega), k.out q (by omega)]
  exact h p q p1 pq q2
theorem Srt.both {L1 L2 L3 : List Nat} {a mid b : Nat} (k1 : Mv a mid L1 L2) (k2 : Mv mid b L2 L3) (h1 : Srt L2 a mid) (h2 : Srt L3 mid b) (lr : ∀ p q, a ≤ p → p < mid → mid ≤ q → q < b → cd L1 p ≤ cd L1 q) : Srt L3 a b := by
  intro p q p1 pq q2
  by_cases c1 : mid ≤ p
  · exact h2 p q c1 pq q2
  · have e1 : cd L3 p = cd L2 p := by unfold cd; rw [k2.out p (.inl (by omega))]
    by_cases c2 : q < mid
    · have e2 : cd L3 q = cd L2 q := by unfold cd; rw [k2.out q (.inl c2)]
      rw [e1, e2]; exact h1 p q p1 pq c2
    · obtain ⟨p', a1, a2, a3⟩ := k1.fr p p1 (by omega)
      obtain ⟨q', b1, b2, b3⟩ := k2.fr q (by omega) q2
      have e2 : cd L3 q = cd L1 q' := by unfold cd; rw [b3, k1.out q' (.inr b1)]
      have e3 : cd L2 p = cd L1 p' := by unfold cd; rw [a3]
      rw [e1, e2, e3]; exact lr p' q' a1 a2 b1 b2
end Go.Proofs.Ytggjcfmoebghjaa
