/- Blocks that are halved and joined, as plain functions: what is free, what is asked for, and what covers each unit. -/
import Derived.Test.YtdgobaknbjlahaaGreatDoorBase
namespace Go.Proofs.YtdgobaknbjlahaaGreatDoor
open Go.RowKit

/-- How often a unit is doubled for so many words. -/
def lv (words : Nat) : Nat := if words ≤ 8 then 0 else if words ≤ 16 then 1 else if words ≤ 32 then 2 else if words ≤ 64 then 3 else if words ≤ 128 then 4 else if words ≤ 256 then 5 else 6

theorem lv_le (x : Nat) : lv x ≤ 6 := by
  unfold lv
  repeat (split; omega)
  omega
theorem lv_holds (x : Nat) (h : x ≤ 512) : x ≤ 8 * 2 ^ lv x := by
  unfold lv
  repeat (split; omega)
  omega

/-- The other half of a block's double. -/
def bud (b : Nat) : Nat := if b % 2 = 0 then b + 1 else b - 1
theorem bud_ne (b : Nat) : bud b ≠ b := by unfold bud; split <;> omega
theorem bud_bud (b : Nat) : bud (bud b) = b := by unfold bud; split <;> split <;> omega
theorem bud_half (b : Nat) : bud b / 2 = b / 2 := by unfold bud; split <;> omega
theorem half_cases {b c : Nat} (h : c / 2 = b / 2) : c = b ∨ c = bud b := by unfold bud; split <;> omega

/-- The sum over seven levels. -/
def sum7 (g : Nat → Nat) : Nat := g 0 + g 1 + g 2 + g 3 + g 4 + g 5 + g 6

theorem sum7_congr {g h : Nat → Nat} (e : ∀ k, k < 7 → g k = h k) : sum7 g = sum7 h := by
  unfold sum7
  rw [e 0 (by omega), e 1 (by omega), e 2 (by omega), e 3 (by omega), e 4 (by omega), e 5 (by omega), e 6 (by omega)]
theorem lt7 {k : Nat} (h : k < 7) : k = 0 ∨ k = 1 ∨ k = 2 ∨ k = 3 ∨ k = 4 ∨ k = 5 ∨ k = 6 := by omega
theorem sum7_one {g h : Nat → Nat} {k : Nat} (hk : k < 7) (e : ∀ j, j ≠ k → g j = h j) : sum7 g + h k = sum7 h + g k := by
  unfold sum7
  rcases lt7 hk with rfl | rfl | rfl | rfl | rfl | rfl | rfl
  all_goals
    (try rw [e 0 (by omega)]); (try rw [e 1 (by omega)]); (try rw [e 2 (by omega)]); (try rw [e 3 (by omega)]); (try rw [e 4 (by omega)]); (try rw [e 5 (by omega)]); (try rw [e 6 (by omega)])
    omega
theorem sum7_le (g : Nat → Nat) {k : Nat} (hk : k < 7) : g k ≤ sum7 g := by
  unfold sum7
  rcases lt7 hk with rfl | rfl | rfl | rfl | rfl | rfl | rfl <;> omega
theorem sum7_le2 (g : Nat → Nat) {j k : Nat} (hj : j < 7) (hk : k < 7) (h : j ≠ k) : g j + g k ≤ sum7 g := by
  unfold sum7
  rcases lt7 hj with rfl | rfl | rfl | rfl | rfl | rfl | rfl <;> rcases lt7 hk with rfl | rfl | rfl | rfl | rfl | rfl | rfl <;> first | omega | exact absurd rfl h
theorem sum7_pos {g : Nat → Nat} (h : 0 < sum7 g) : ∃ k, k < 7 ∧ 0 < g k := by
  unfold sum7 at h
  rcases Nat.eq_zero_or_pos (g 0) with h0 | h0
  · rcases Nat.eq_zero_or_pos (g 1) with h1 | h1
    · rcases Nat.eq_zero_or_pos (g 2) with h2 | h2
      · rcases Nat.eq_zero_or_pos (g 3) with h3 | h3
        · rcases Nat.eq_zero_or_pos (g 4) with h4 | h4
          · rcases Nat.eq_zero_or_pos (g 5) with h5 | h5
            · exact ⟨6, by omega, by omega⟩
            · exact ⟨5, by omega, h5⟩
          · exact ⟨4, by omega, h4⟩
        · exact ⟨3, by omega, h3⟩
      · exact ⟨2, by omega, h2⟩
    · exact ⟨1, by omega, h1⟩
  · exact ⟨0, by omega, h0⟩

/-- Does a piece of level k begin at block b? -/
def pc (K : Nat → Nat) (k b : Nat) : Bool := decide (K (b * 2 ^ k) ≠ 0 ∧ lv (K (b * 2 ^ k)) = k)
/-- How many have the unit u. -/
def hv (F : Nat → Nat → Bool) (K : Nat → Nat) (u : Nat) : Nat := sum7 fun k => (F k (u / 2 ^ k)).toNat + (pc K k (u / 2 ^ k)).toNat
/-- Is the unit u in block b of level k? -/
def ind (k b u : Nat) : Nat := if u / 2 ^ k = b then 1 else 0

/-- What is free and what is asked for cover each of the units once, but for a hole. -/
structure Inv (nu : Nat) (F : Nat → Nat → Bool) (K : Nat → Nat) (hole : Nat → Nat) : Prop where
  cov : ∀ u, u < nu → hv F K u + hole u = 1
  half : ∀ k, k < 6 → ∀ b, F k b = true → F k (bud b) = false
  inside : ∀ k, k < 7 → ∀ b, F k b = true → b < nu / 2 ^ k
  asks : ∀ u, K u ≠ 0 → u < nu ∧ K u ≤ 512 ∧ u % 2 ^ lv (K u) = 0 ∧ u + 2 ^ lv (K u) ≤ nu

/-- One block's mark is set. -/
def setF (F : Nat → Nat → Bool) (k b : Nat) (v : Bool) : Nat → Nat → Bool := fun j c => if j = k ∧ c = b then v else F j c
def setK (K : Nat → Nat) (u x : Nat) : Nat → Nat := fun v => if v = u then x else K v

section
variable {nu : Nat} {F : Nat → Nat → Bool} {K : Nat → Nat} {hole : Nat → Nat} {k b u : Nat}

theorem setF_same (v : Bool) : setF F k b v k b = v := by simp [setF]
theorem setF_other {j c : Nat} (v : Bool) (h : ¬ (j = k ∧ c = b)) : setF F k b v j c = F j c := by simp [setF, h]

theorem block_lt (hb : b < nu / 2 ^ k) : b * 2 ^ k + 2 ^ k ≤ nu := by
  have h1 : (b + 1) * 2 ^ k ≤ nu / 2 ^ k * 2 ^ k := Nat.mul_le_mul_right _ hb
  have h2 := Nat.div_mul_le_self nu (2 ^ k)
  rw [Nat.add_mul, Nat.one_mul] at h1
  omega
theorem two_pos (k : Nat) : 0 < 2 ^ k := Nat.pow_pos (by omega)
theorem block_self (k b : Nat) : b * 2 ^ k / 2 ^ k = b := Nat.mul_div_cancel _ (two_pos k)
theorem block_in (hb : b < nu / 2 ^ k) : b * 2 ^ k < nu := by have := block_lt hb; have := two_pos k; omega

theorem hv_setF (hk : k < 7) (v : Bool) (u : Nat) : hv (setF F k b v) K u + (if u / 2 ^ k = b then (F k b).toNat else 0) = hv F K u + (if u / 2 ^ k = b then v.toNat else 0) := by
  by_cases h : u / 2 ^ k = b
  · rw [if_pos h, if_pos h]
    have := sum7_one (g := fun k' => (setF F k b v k' (u / 2 ^ k')).toNat + (pc K k' (u / 2 ^ k')).toNat) (h := fun k' => (F k' (u / 2 ^ k')).toNat + (pc K k' (u / 2 ^ k')).toNat) hk (fun j hj => by
      rw [setF_other v (fun e => hj e.1)])
    simp only [h, setF_same] at this
    unfold hv
    omega
  · rw [if_neg h, if_neg h]
    congr 1
    refine sum7_congr fun j _ => ?_
    rw [setF_other v (by rintro ⟨rfl, e⟩; exact h e)]

theorem Inv.clear (h : Inv nu F K hole) (hk : k < 7) (hf : F k b = true) : Inv nu (setF F k b false) K (fun u => hole u + ind k b u) where
  cov := fun u hu => by
    have h1 := hv_setF (K := K) (F := F) (b := b) hk false u
    have h2 := h.cov u hu
    rw [hf] at h1
    show _ + (hole u + ind k b u) = 1
    unfold ind
    by_cases e : u / 2 ^ k = b
    · rw [if_pos e] at h1 ⊢; rw [if_pos e] at h1; simp at h1; omega
    · rw [if_neg e] at h1 ⊢; rw [if_neg e] at h1; omega
  half := fun j hj c hc => by
    by_cases e : j = k ∧ c = b
    · rw [e.1, e.2, setF_same] at hc; cases hc
    · rw [setF_other _ e] at hc
      by_cases e2 : j = k ∧ bud c = b
      · rw [e2.1, e2.2, setF_same]
      · rw [setF_other _ e2]; exact h.half j hj c hc
  inside := fun j hj c hc => by
    by_cases e : j = k ∧ c = b
    · rw [e.1, e.2, setF_same] at hc; cases hc
    · rw [setF_other _ e] at hc; exact h.inside j hj c hc
  asks := h.asks

theorem Inv.none (h : Inv nu F K hole) {u : Nat} (hu : u < nu) (hh : hole u = 1) (hk : k < 7) : F k (u / 2 ^ k) = false ∧ pc K k (u / 2 ^ k) = false := by
  have h1 := h.cov u hu
  have h2 : hv F K u = 0 := by omega
  have h3 := sum7_le (fun k => (F k (u / 2 ^ k)).toNat + (pc K k (u / 2 ^ k)).toNat) hk
  unfold hv at h2
  have h4 : (F k (u / 2 ^ k)).toNat + (pc K k (u / 2 ^ k)).toNat = 0 := by omega
  constructor
  · cases e : F k (u / 2 ^ k)
    · rfl
    · rw [e] at h4; simp at h4
  · cases e : pc K k (u / 2 ^ k)
    · rfl
    · rw [e] at h4; simp at h4

theorem Inv.set {hole' : Nat → Nat} (h : Inv nu F K hole) (hk : k < 7) (hb : b < nu / 2 ^ k) (hh : ∀ u, u < nu → hole u = hole' u + ind k b u) (hl : ∀ u, u < nu → u / 2 ^ k = b → hole' u = 0) (ho : k = 6 ∨ F k (bud b) = false) : Inv nu (setF F k b true) K hole' where
  cov := fun u hu => by
    have h1 := hv_setF (K := K) (F := F) (b := b) hk true u
    have h2 := h.cov u hu
    have h3 := hh u hu
    unfold ind at h3
    by_cases e : u / 2 ^ k = b
    · have h4 := (h.none (k := k) hu (by rw [h3, hl u hu e, if_pos e]) hk).1
      rw [e] at h4
      rw [if_pos e, if_pos e, h4] at h1
      rw [if_pos e] at h3
      simp at h1
      omega
    · rw [if_neg e, if_neg e] at h1
      rw [if_neg e] at h3
      omega
  half := fun j hj c hc => by
    by_cases e : j = k ∧ c = b
    · rw [e.1, e.2, setF_other _ (fun x => bud_ne b x.2)]
      rcases ho with rfl | ho
      · omega
      · exact ho
    · rw [setF_other _ e] at hc
      by_cases e2 : j = k ∧ bud c = b
      · obtain ⟨rfl, rfl⟩ := e2
        rcases ho with rfl | ho
        · omega
        · rw [bud_bud] at ho; rw [ho] at hc; cases hc
      · rw [setF_other _ e2]; exact h.half j hj c hc
  inside := fun j hj c hc => by
    by_cases e : j = k ∧ c = b
    · rw [e.1, e.2]; exact hb
    · rw [setF_other _ e] at hc; exact h.inside j hj c hc
  asks := h.asks

/-- Nothing begins where all is a hole. -/
theorem Inv.unasked (h : Inv nu F K hole) {u : Nat} (hu : u < nu) (hh : hole u = 1) : K u = 0 := by
  refine Classical.byContradiction fun hn => ?_
  obtain ⟨_, _, h3, _⟩ := h.asks u hn
  have h4 := (h.none (k := lv (K u)) hu hh (by have := lv_le (K u); omega)).2
  unfold pc at h4
  have h5 : u / 2 ^ lv (K u) * 2 ^ lv (K u) = u := Nat.div_mul_cancel (Nat.dvd_of_mod_eq_zero h3)
  rw [h5] at h4
  simp at h4
  exact hn h4

theorem pc_setK {x j c : Nat} (hx : lv x = k) (h0 : x ≠ 0) : pc (setK K (b * 2 ^ k) x) j c = if c * 2 ^ j = b * 2 ^ k then decide (j = k) else pc K j c := by
  unfold pc setK
  by_cases e : c * 2 ^ j = b * 2 ^ k
  · rw [if_pos e]
    simp only [if_pos e]
    rw [decide_eq_decide, hx]
    exact ⟨fun y => y.2.symm, fun y => ⟨h0, y.symm⟩⟩
  · rw [if_neg e]
    simp only [if_neg e]

/-- A piece is laid into a hole. -/
theorem Inv.lay {hole' : Nat → Nat} {x : Nat} (h : Inv nu F K hole) (hb : b < nu / 2 ^ k) (hx : lv x = k) (h0 : x ≠ 0) (h5 : x ≤ 512) (hh : ∀ u, u < nu → hole u = hole' u + ind k b u) (hl : ∀ u, u < nu → u / 2 ^ k = b → hole' u = 0) : Inv nu F (setK K (b * 2 ^ k) x) hole' where
  cov := fun u hu => by
    have hk : k < 7 := by have := lv_le x; omega
    have hin := block_in hb
    have K0 : K (b * 2 ^ k) = 0 := h.unasked hin (by rw [hh _ hin, hl _ hin (block_self k b)]; unfold ind; rw [if_pos (block_self k b)])
    have h2 := h.cov u hu
    have h3 := hh u hu
    have pc0 : ∀ j c, c * 2 ^ j = b * 2 ^ k → pc K j c = false := fun j c e => by unfold pc; rw [e, K0]; simp
    by_cases e : u / 2 ^ k = b
    · have h1 := sum7_one (g := fun k' => (F k' (u / 2 ^ k')).toNat + (pc (setK K (b * 2 ^ k) x) k' (u / 2 ^ k')).toNat) (h := fun k' => (F k' (u / 2 ^ k')).toNat + (pc K k' (u / 2 ^ k')).toNat) hk (fun j hj => by
        rw [pc_setK hx h0]
        split
        · rename_i e'; rw [pc0 _ _ e']; simp [hj]
        · rfl)
      simp only [e, pc_setK hx h0, if_true, pc0 k b rfl] at h1
      rw [hl u hu e] at h3 ⊢
      unfold ind at h3
      rw [if_pos e] at h3
      unfold hv at h2 ⊢
      simp at h1
      simp only [pc_setK hx h0]
      omega
    · have h1 : hv F (setK K (b * 2 ^ k) x) u = hv F K u := by
        refine sum7_congr fun j _ => ?_
        rw [pc_setK hx h0]
        split
        · rename_i e'
          rw [pc0 _ _ e']
          by_cases hj : j = k
          · subst hj
            exact absurd (Nat.eq_of_mul_eq_mul_right (two_pos j) e') e
          · simp [hj]
        · rfl
      unfold ind at h3
      rw [if_neg e] at h3
      omega
  half := h.half
  inside := h.inside
  asks := fun u hu => by
    by_cases e : u = b * 2 ^ k
    · have : setK K (b * 2 ^ k) x u = x := by simp [setK, e]
      rw [this, hx, e]
      refine ⟨block_in hb, h5, Nat.mul_mod_left _ _, block_lt hb⟩
    · have : setK K (b * 2 ^ k) x u = K u := by simp [setK, e]
      rw [this] at hu ⊢
      exact h.asks u hu

/-- A piece is taken away. -/
theorem Inv.lift (h : Inv nu F K (fun _ => 0)) (hu : K u ≠ 0) : Inv nu F (setK K u 0) (ind (lv (K u)) (u / 2 ^ lv (K u))) ∧ u / 2 ^ lv (K u) < nu / 2 ^ lv (K u) ∧ u / 2 ^ lv (K u) * 2 ^ lv (K u) = u := by
  obtain ⟨a1, a2, a3, a4⟩ := h.asks u hu
  have hk : lv (K u) < 7 := by have := lv_le (K u); omega
  obtain ⟨k, hkk⟩ : ∃ k, lv (K u) = k := ⟨_, rfl⟩
  obtain ⟨b, hb⟩ : ∃ b, u / 2 ^ k = b := ⟨_, rfl⟩
  have ub : b * 2 ^ k = u := by rw [← hb, ← hkk]; exact Nat.div_mul_cancel (Nat.dvd_of_mod_eq_zero a3)
  rw [hkk] at hk a3 a4 ⊢
  rw [hb]
  have p1 : ∀ j c, pc (setK K u 0) j c = if c * 2 ^ j = u then false else pc K j c := by
    intro j c
    unfold pc setK
    by_cases e : c * 2 ^ j = u
    · rw [if_pos e]; simp [e]
    · rw [if_neg e]; simp only [if_neg e]
  have p2 : ∀ j c, c * 2 ^ j = u → pc K j c = decide (j = k) := by
    intro j c e
    unfold pc
    rw [e, hkk, decide_eq_decide]
    exact ⟨fun y => y.2.symm, fun y => ⟨hu, y.symm⟩⟩
  refine ⟨⟨fun v hv' => ?_, h.half, h.inside, fun v hv' => ?_⟩, ?_, ub⟩
  · have h2 : hv F K v + 0 = 1 := h.cov v hv'
    unfold ind
    by_cases e : v / 2 ^ k = b
    · have h1 := sum7_one (g := fun k' => (F k' (v / 2 ^ k')).toNat + (pc (setK K u 0) k' (v / 2 ^ k')).toNat) (h := fun k' => (F k' (v / 2 ^ k')).toNat + (pc K k' (v / 2 ^ k')).toNat) hk (fun j hj => by
        rw [p1]
        split
        · rename_i e'; rw [p2 _ _ e']; simp [hj]
        · rfl)
      simp only [e, p1, ub, if_true, p2 k b ub] at h1
      rw [if_pos e]
      unfold hv at h2 ⊢
      simp only [decide_true, Bool.toNat_true, Bool.toNat_false] at h1
      simp only [p1]
      omega
    · have h1 : hv F (setK K u 0) v = hv F K v := by
        refine sum7_congr fun j _ => ?_
        rw [p1]
        split
        · rename_i e'
          rw [p2 _ _ e']
          by_cases hj : j = k
          · subst hj
            rw [← ub] at e'
            exact absurd (Nat.eq_of_mul_eq_mul_right (two_pos j) e') e
          · simp [hj]
        · rfl
      rw [if_neg e]
      omega
  · by_cases e : v = u
    · simp [setK, e] at hv'
    · have : setK K u 0 v = K v := by simp [setK, e]
      rw [this] at hv' ⊢
      exact h.asks v hv'
  · rw [Nat.lt_div_iff_mul_lt (two_pos k)]
    have := two_pos k
    omega
end
end Go.Proofs.YtdgobaknbjlahaaGreatDoor
