/- When nothing of a level is free, each of its blocks holds a piece. -/
import Derived.Test.YtdgobaknbjlahaaGreatDoorGCov
namespace Go.Proofs.YtdgobaknbjlahaaGreatDoor
open Go.RowKit

theorem pow_split {i m : Nat} (h : i ≤ m) : (2 : Nat) ^ m = 2 ^ i * 2 ^ (m - i) := by rw [← Nat.pow_add]; congr 1; omega
theorem in_block {i m v : Nat} (h : i ≤ m) : v / 2 ^ i * 2 ^ i / 2 ^ m = v / 2 ^ m := by
  rw [pow_split h, Nat.mul_comm (v / 2 ^ i), Nat.mul_div_mul_left _ _ (two_pos i), Nat.div_div_eq_div_mul]
theorem up_block {j i c : Nat} (h : j ≤ i) : c * 2 ^ j / 2 ^ i = c / 2 ^ (i - j) := by
  rw [pow_split h, Nat.mul_comm c, Nat.mul_div_mul_left _ _ (two_pos j)]
theorem bud_up {j i c : Nat} (h : j < i) : bud c * 2 ^ j / 2 ^ i = c * 2 ^ j / 2 ^ i := by
  rw [up_block (by omega), up_block (by omega)]
  obtain ⟨d, hd⟩ : ∃ d, i - j = d + 1 := ⟨i - j - 1, by omega⟩
  rw [hd, Nat.pow_succ, Nat.mul_comm, ← Nat.div_div_eq_div_mul, ← Nat.div_div_eq_div_mul, bud_half]

section
variable {nu : Nat} {F : Nat → Nat → Bool} {K : Nat → Nat}

/-- Who has a unit. -/
theorem Inv.who (h : Inv nu F K (fun _ => 0)) {v : Nat} (hv' : v < nu) : ∃ i, i < 7 ∧ (F i (v / 2 ^ i) = true ∨ pc K i (v / 2 ^ i) = true) := by
  have h1 : hv F K v + 0 = 1 := h.cov v hv'
  obtain ⟨i, hi, h2⟩ := sum7_pos (g := fun k => (F k (v / 2 ^ k)).toNat + (pc K k (v / 2 ^ k)).toNat) (by unfold hv at h1; omega)
  refine ⟨i, hi, ?_⟩
  cases e1 : F i (v / 2 ^ i)
  · cases e2 : pc K i (v / 2 ^ i)
    · simp only [e1, e2] at h2
      simp at h2
    · exact .inr rfl
  · exact .inl rfl
theorem Inv.not_two (h : Inv nu F K (fun _ => 0)) {v i j : Nat} (hv' : v < nu) (hi : i < 7) (hj : j < 7) (hne : i ≠ j) (h1 : F i (v / 2 ^ i) = true) (h2 : F j (v / 2 ^ j) = true) : False := by
  have h3 : hv F K v + 0 = 1 := h.cov v hv'
  have h4 := sum7_le2 (fun k => (F k (v / 2 ^ k)).toNat + (pc K k (v / 2 ^ k)).toNat) hi hj hne
  simp only [h1, h2] at h4
  unfold hv at h3
  simp at h4
  omega

theorem Inv.dense (h : Inv nu F K (fun _ => 0)) {m : Nat} (hm : m < 7) (hp : ∀ u, K u ≠ 0 → lv (K u) ≤ m) (hf : ∀ j, m ≤ j → j < 7 → ∀ c, F j c = false) {b : Nat} (hb : b < nu / 2 ^ m) : ∃ u, K u ≠ 0 ∧ u / 2 ^ m = b := by
  refine Classical.byContradiction fun hno => ?_
  have hno' : ∀ u, K u ≠ 0 → u / 2 ^ m ≠ b := fun u h1 h2 => hno ⟨u, h1, h2⟩
  have nopc : ∀ v i, v / 2 ^ m = b → pc K i (v / 2 ^ i) = true → False := fun v i hvb hpc => by
    unfold pc at hpc
    have hpc' := of_decide_eq_true hpc
    have him : i ≤ m := by rw [← hpc'.2]; exact hp _ hpc'.1
    exact hno' _ hpc'.1 (by rw [in_block him]; exact hvb)
  have key : ∀ j, j ≤ m → ∀ i, i < j → ∀ c, c * 2 ^ i / 2 ^ m = b → F i c = false := by
    intro j
    induction j with
    | zero => intro _ i hi; omega
    | succ j ih =>
      intro hj i hi c hc
      by_cases e : i < j
      · exact ih (by omega) i e c hc
      · have : i = j := by omega
        subst this
        cases hF : F i c with
        | false => rfl
        | true =>
          exfalso
          have hin := h.inside i (by omega) c hF
          have c1 := block_lt hin
          have hbu : bud c * 2 ^ i / 2 ^ m = b := by rw [bud_up (by omega)]; exact hc
          have bb := block_lt hb
          have hvN : bud c * 2 ^ i < nu := by
            have h1 : bud c * 2 ^ i < (b + 1) * 2 ^ m := by
              have := Nat.lt_mul_div_succ (bud c * 2 ^ i) (two_pos m)
              rw [hbu] at this
              rw [Nat.mul_comm (b + 1)]; exact this
            rw [Nat.add_mul, Nat.one_mul] at h1
            omega
          obtain ⟨k, hk, hw⟩ := h.who hvN
          rcases hw with hw | hw
          · by_cases k1 : k < i
            · have := ih (by omega) k k1 (bud c * 2 ^ i / 2 ^ k) (by rw [in_block (by omega)]; exact hbu)
              rw [this] at hw; cases hw
            · by_cases k2 : k = i
              · subst k2
                rw [block_self] at hw
                have := h.half k (by omega) c hF
                rw [this] at hw; cases hw
              · rw [bud_up (by omega)] at hw
                refine h.not_two (v := c * 2 ^ i) (by have := two_pos i; omega) hk (show i < 7 by omega) (by omega) hw ?_
                rw [block_self]; exact hF
          · exact nopc _ k hbu hw
  obtain ⟨k, hk, hw⟩ := h.who (block_in hb)
  have hself : b * 2 ^ m / 2 ^ m = b := block_self m b
  rcases hw with hw | hw
  · by_cases k1 : k < m
    · have := key m (Nat.le_refl _) k k1 (b * 2 ^ m / 2 ^ k) (by rw [in_block (by omega)]; exact hself)
      rw [this] at hw; cases hw
    · rw [hf k (by omega) hk] at hw; cases hw
  · exact nopc _ k hself hw

theorem sumTo_up (g : Nat → Nat) {a c : Nat} (h : a ≤ c) : sumTo g a ≤ sumTo g c := by
  obtain ⟨d, rfl⟩ : ∃ d, c = a + d := ⟨c - a, by omega⟩
  induction d with
  | zero => exact Nat.le_refl _
  | succ d ih => rw [← Nat.add_assoc]; simp only [sumTo]; have := ih (by omega); omega
theorem sumTo_has (g : Nat → Nat) {a c u : Nat} (h1 : a ≤ u) (h2 : u < c) (h3 : 1 ≤ g u) : sumTo g a + 1 ≤ sumTo g c := by
  have x1 := sumTo_up g h1
  have x2 := sumTo_up g (show u + 1 ≤ c by omega)
  simp only [sumTo] at x2
  omega

/-- As many pieces at least as there are blocks of the level. -/
theorem Inv.many (h : Inv nu F K (fun _ => 0)) {m : Nat} (hm : m < 7) (hp : ∀ u, K u ≠ 0 → lv (K u) ≤ m) (hf : ∀ j, m ≤ j → j < 7 → ∀ c, F j c = false) : nu / 2 ^ m ≤ cnt nu K := by
  have key : ∀ n, n ≤ nu / 2 ^ m → n ≤ sumTo (fun u => if K u = 0 then 0 else 1) (n * 2 ^ m) := by
    intro n
    induction n with
    | zero => intro _; exact Nat.zero_le _
    | succ n ih =>
      intro hn
      obtain ⟨u, h1, h2⟩ := h.dense hm hp hf (b := n) (by omega)
      rw [Nat.div_eq_iff (two_pos m)] at h2
      have := sumTo_has (fun u => if K u = 0 then 0 else 1) (a := n * 2 ^ m) (c := (n + 1) * 2 ^ m) (u := u) h2.1 (by rw [Nat.add_mul, Nat.one_mul]; have := two_pos m; omega) (by simp [h1])
      have := ih (by omega)
      omega
  exact Nat.le_trans (key _ (Nat.le_refl _)) (sumTo_up _ (Nat.div_mul_le_self nu (2 ^ m)))

/-- Where few pieces are, not all is full. -/
theorem Inv.roomy (h : Inv nu F K (fun _ => 0)) {m k : Nat} (hm : m < 7) (hk : k ≤ m) (hp : ∀ u, K u ≠ 0 → lv (K u) ≤ m) (hc : cnt nu K < nu / 2 ^ m) (hf : ∀ j, k ≤ j → j < 7 → ∀ c, F j c = false) : False := by
  have := h.many hm hp (fun j h1 h2 => hf j (by omega) h2)
  omega
theorem cnt_le (nu : Nat) (K : Nat → Nat) : cnt nu K ≤ nu := by
  have : cnt nu K ≤ sumTo (fun _ => 1) nu := sumTo_le fun u _ => by split <;> omega
  rwa [sumTo_one] at this
theorem cnt_none (nu : Nat) : cnt nu (fun _ => 0) = 0 := sumTo_zero fun u _ => by simp
end
end Go.Proofs.YtdgobaknbjlahaaGreatDoor
