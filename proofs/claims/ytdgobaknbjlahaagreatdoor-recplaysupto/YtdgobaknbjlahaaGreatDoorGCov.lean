/- Sums over the units; lists of pieces. -/
import Derived.Test.YtdgobaknbjlahaaGreatDoorGBud
namespace Go.Proofs.YtdgobaknbjlahaaGreatDoor
open Go.RowKit

/-- The sum of the first n. -/
def sumTo (g : Nat → Nat) : Nat → Nat
  | 0 => 0
  | n + 1 => sumTo g n + g n

theorem sumTo_congr {g h : Nat → Nat} {n : Nat} (e : ∀ u, u < n → g u = h u) : sumTo g n = sumTo h n := by
  induction n with
  | zero => rfl
  | succ n ih => unfold sumTo; rw [ih (fun u hu => e u (by omega)), e n (by omega)]
theorem sumTo_add (g h : Nat → Nat) (n : Nat) : sumTo (fun u => g u + h u) n = sumTo g n + sumTo h n := by
  induction n with
  | zero => rfl
  | succ n ih => simp only [sumTo, ih]; omega
theorem sumTo_le {g h : Nat → Nat} {n : Nat} (e : ∀ u, u < n → g u ≤ h u) : sumTo g n ≤ sumTo h n := by
  induction n with
  | zero => exact Nat.le_refl _
  | succ n ih => simp only [sumTo]; have := ih (fun u hu => e u (by omega)); have := e n (by omega); omega
theorem sumTo_one (n : Nat) : sumTo (fun _ => 1) n = n := by
  induction n with
  | zero => rfl
  | succ n ih => simp only [sumTo, ih]
theorem sumTo_zero {g : Nat → Nat} {n : Nat} (e : ∀ u, u < n → g u = 0) : sumTo g n = 0 := by
  induction n with
  | zero => rfl
  | succ n ih => simp only [sumTo]; rw [ih (fun u hu => e u (by omega)), e n (by omega)]
theorem sumTo_point {g : Nat → Nat} {n u : Nat} (hu : u < n) (e : ∀ v, v < n → v ≠ u → g v = 0) : sumTo g n = g u := by
  induction n with
  | zero => omega
  | succ n ih =>
    simp only [sumTo]
    by_cases h : u = n
    · subst h
      rw [sumTo_zero (fun v hv => e v (by omega) (by omega))]; omega
    · rw [ih (by omega) (fun v hv hne => e v (by omega) hne), e n (by omega) (fun x => h x.symm)]; omega

theorem ind_iff (k b u : Nat) : ind k b u = if b * 2 ^ k ≤ u ∧ u < b * 2 ^ k + 2 ^ k then 1 else 0 := by
  unfold ind
  have hp := two_pos k
  by_cases h : u / 2 ^ k = b
  · rw [if_pos h, if_pos]
    rw [Nat.div_eq_iff hp] at h
    have h1 : b * 2 ^ k ≤ u := h.1
    have h2 := h.2
    omega
  · rw [if_neg h, if_neg]
    rintro ⟨h1, h2⟩
    refine h ?_
    rw [Nat.div_eq_iff hp]
    exact ⟨h1, by omega⟩
theorem sumTo_ind (k b n : Nat) : sumTo (ind k b) n = min (n - b * 2 ^ k) (2 ^ k) := by
  induction n with
  | zero => simp [sumTo]
  | succ n ih =>
    simp only [sumTo, ih]
    rw [ind_iff]
    generalize b * 2 ^ k = x
    have := two_pos k
    generalize 2 ^ k = y at *
    split <;> omega
theorem sum_block {nu k b : Nat} (hb : b < nu / 2 ^ k) : sumTo (ind k b) nu = 2 ^ k := by
  rw [sumTo_ind]
  have := block_lt hb
  omega

/-- How many pieces have the unit u. -/
def cv (K : Nat → Nat) (u : Nat) : Nat := sum7 fun k => (pc K k (u / 2 ^ k)).toNat
/-- The units in pieces. -/
def inP (nu : Nat) (K : Nat → Nat) : Nat := sumTo (cv K) nu
/-- How many pieces. -/
def cnt (nu : Nat) (K : Nat → Nat) : Nat := sumTo (fun u => if K u = 0 then 0 else 1) nu

theorem sum7_add (g h : Nat → Nat) : sum7 (fun k => g k + h k) = sum7 g + sum7 h := by simp only [sum7]; omega
theorem hv_cv (F : Nat → Nat → Bool) (K : Nat → Nat) (u : Nat) : hv F K u = sum7 (fun k => (F k (u / 2 ^ k)).toNat) + cv K u := by
  unfold hv cv
  exact sum7_add (fun k => (F k (u / 2 ^ k)).toNat) (fun k => (pc K k (u / 2 ^ k)).toNat)

section
variable {nu : Nat} {F : Nat → Nat → Bool} {K : Nat → Nat} {hole : Nat → Nat} {k b u x : Nat}

theorem Inv.room (h : Inv nu F K hole) : inP nu K ≤ nu := by
  have : inP nu K ≤ sumTo (fun _ => 1) nu := sumTo_le fun u hu => by have := h.cov u hu; rw [hv_cv] at this; omega
  rwa [sumTo_one] at this

theorem cv_lay (hb : b < nu / 2 ^ k) (hx : lv x = k) (h0 : x ≠ 0) (hK : K (b * 2 ^ k) = 0) (u : Nat) : cv (setK K (b * 2 ^ k) x) u = cv K u + ind k b u := by
  have hk : k < 7 := by have := lv_le x; omega
  have pc0 : ∀ j c, c * 2 ^ j = b * 2 ^ k → pc K j c = false := fun j c e => by unfold pc; rw [e, hK]; simp
  unfold ind
  by_cases e : u / 2 ^ k = b
  · have h1 := sum7_one (g := fun k' => (pc (setK K (b * 2 ^ k) x) k' (u / 2 ^ k')).toNat) (h := fun k' => (pc K k' (u / 2 ^ k')).toNat) hk (fun j hj => by
      rw [pc_setK hx h0]
      split
      · rename_i e'; rw [pc0 _ _ e']; simp [hj]
      · rfl)
    simp only [e, pc_setK hx h0, if_true, pc0 k b rfl, decide_true, Bool.toNat_true, Bool.toNat_false] at h1
    rw [if_pos e]
    unfold cv
    simp only [pc_setK hx h0]
    omega
  · rw [if_neg e, Nat.add_zero]
    refine sum7_congr fun j _ => ?_
    rw [pc_setK hx h0]
    split
    · rename_i e'
      rw [pc0 _ _ e']
      by_cases hj : j = k
      · subst hj
        exact absurd (Nat.eq_of_mul_eq_mul_right (two_pos j) e') e
      · simp [hj]
    · rfl
theorem inP_lay (hb : b < nu / 2 ^ k) (hx : lv x = k) (h0 : x ≠ 0) (hK : K (b * 2 ^ k) = 0) : inP nu (setK K (b * 2 ^ k) x) = inP nu K + 2 ^ k := by
  unfold inP
  rw [sumTo_congr (fun u _ => cv_lay hb hx h0 hK u), sumTo_add, sum_block hb]
theorem setK_back (K : Nat → Nat) (u : Nat) : setK (setK K u 0) u (K u) = K := by
  funext v
  unfold setK
  split
  · rename_i e; rw [e]
  · rfl
theorem inP_lift (h : Inv nu F K (fun _ => 0)) (hu : K u ≠ 0) : inP nu (setK K u 0) + 2 ^ lv (K u) = inP nu K := by
  obtain ⟨_, h2, h3⟩ := h.lift hu
  have := inP_lay (K := setK K u 0) (x := K u) h2 rfl hu (by rw [h3]; simp [setK])
  rw [h3, setK_back] at this
  exact this.symm
theorem cnt_set (hu : u < nu) (x : Nat) : cnt nu (setK K u x) + (if K u = 0 then 0 else 1) = cnt nu K + (if x = 0 then 0 else 1) := by
  unfold cnt
  have h1 := sumTo_add (fun v => if setK K u x v = 0 then 0 else 1) (fun v => if v = u then (if K u = 0 then 0 else 1) else 0) nu
  have h2 := sumTo_add (fun v => if K v = 0 then 0 else 1) (fun v => if v = u then (if x = 0 then 0 else 1) else 0) nu
  rw [sumTo_point (g := fun v => if v = u then (if K u = 0 then 0 else 1) else 0) hu (fun v _ hv => by simp [hv])] at h1
  rw [sumTo_point (g := fun v => if v = u then (if x = 0 then 0 else 1) else 0) hu (fun v _ hv => by simp [hv])] at h2
  simp only [if_true] at h1 h2
  rw [← h1, ← h2]
  refine sumTo_congr fun v _ => ?_
  by_cases e : v = u
  · subst e; simp [setK]; omega
  · simp [setK, e]

/-- A list tells the pieces: where each begins, and how many words were asked for. -/
structure Lists (nu : Nat) (K : Nat → Nat) (l : List (Nat × Nat)) : Prop where
  nodup : (l.map Prod.fst).Nodup
  all : ∀ u, K u ≠ 0 → (u, K u) ∈ l
  only : ∀ y ∈ l, K y.1 = y.2 ∧ y.2 ≠ 0
  sum : (l.map fun y => 2 ^ lv y.2).sum = inP nu K
  len : l.length = cnt nu K

theorem lists_nil : Lists nu (fun _ => 0) [] := by
  refine ⟨by simp, fun u h => absurd rfl h, fun y h => by simp at h, ?_, ?_⟩
  · have : inP nu (fun _ => 0) = 0 := sumTo_zero fun u _ => by unfold cv sum7 pc; simp
    rw [this]; rfl
  · have : cnt nu (fun _ => 0) = 0 := sumTo_zero fun u _ => by simp
    rw [this]; rfl

theorem Lists.push {l : List (Nat × Nat)} (h : Lists nu K l) (hb : b < nu / 2 ^ k) (hx : lv x = k) (h0 : x ≠ 0) (hK : K (b * 2 ^ k) = 0) : Lists nu (setK K (b * 2 ^ k) x) (l ++ [(b * 2 ^ k, x)]) := by
  have hn : ∀ y ∈ l, y.1 ≠ b * 2 ^ k := fun y hy e => (h.only y hy).2 (by rw [← (h.only y hy).1, e, hK])
  refine ⟨?_, ?_, ?_, ?_, ?_⟩
  · rw [List.map_append, List.nodup_append]
    refine ⟨h.nodup, by simp, ?_⟩
    intro a ha c hc
    simp at hc
    rw [hc]
    obtain ⟨y, hy, rfl⟩ := List.mem_map.1 ha
    exact hn y hy
  · intro u hu
    by_cases e : u = b * 2 ^ k
    · subst e; simp [setK]
    · rw [show setK K (b * 2 ^ k) x u = K u by simp [setK, e]] at hu ⊢
      exact List.mem_append_left _ (h.all u hu)
  · intro y hy
    rcases List.mem_append.1 hy with hy | hy
    · rw [show setK K (b * 2 ^ k) x y.1 = K y.1 by simp [setK, hn y hy]]; exact h.only y hy
    · simp at hy; subst hy; exact ⟨by simp [setK], h0⟩
  · rw [List.map_append, List.sum_append, h.sum, inP_lay hb hx h0 hK]
    simp [hx]
  · have := cnt_set (K := K) (block_in hb) x
    rw [hK] at this
    simp [h0] at this
    rw [this, List.length_append, h.len]; rfl

theorem Lists.drop {l : List (Nat × Nat)} (hi : Inv nu F K (fun _ => 0)) (h : Lists nu K l) {i : Nat} {y : Nat × Nat} (hy : l[i]? = some y) : Lists nu (setK K y.1 0) (l.eraseIdx i) := by
  have hlt : i < l.length := by
    rcases Nat.lt_or_ge i l.length with h1 | h1
    · exact h1
    · rw [List.getElem?_eq_none h1] at hy; cases hy
  have hm := List.mem_of_getElem? hy
  obtain ⟨o1, o2⟩ := h.only y hm
  have hne : K y.1 ≠ 0 := by rw [o1]; exact o2
  have e1 : l = l.take i ++ y :: l.drop (i + 1) := by
    rw [List.getElem?_eq_getElem hlt] at hy
    injection hy with hy
    rw [← hy, List.getElem_cons_drop, List.take_append_drop]
  have e2 : l.eraseIdx i = l.take i ++ l.drop (i + 1) := List.eraseIdx_eq_take_drop_succ l i
  have nd := h.nodup
  rw [e1, List.map_append, List.map_cons, List.nodup_append, List.nodup_cons] at nd
  obtain ⟨n1, ⟨n2, n3⟩, n4⟩ := nd
  have hn : ∀ z ∈ l.eraseIdx i, z.1 ≠ y.1 := by
    intro z hz e
    rw [e2] at hz
    rcases List.mem_append.1 hz with hz | hz
    · exact n4 z.1 (List.mem_map_of_mem hz) y.1 (List.mem_cons_self ..) e
    · exact n2 (e ▸ List.mem_map_of_mem hz)
  refine ⟨?_, ?_, ?_, ?_, ?_⟩
  · rw [e2, List.map_append, List.nodup_append]
    exact ⟨n1, n3, fun a ha c hc => n4 a ha c (List.mem_cons_of_mem _ hc)⟩
  · intro u hu
    by_cases e : u = y.1
    · simp [setK, e] at hu
    · rw [show setK K y.1 0 u = K u by simp [setK, e]] at hu ⊢
      have := h.all u hu
      rw [e1] at this
      rw [e2]
      rcases List.mem_append.1 this with h1 | h1
      · exact List.mem_append_left _ h1
      · rcases List.mem_cons.1 h1 with h1 | h1
        · exact absurd (congrArg Prod.fst h1) e
        · exact List.mem_append_right _ h1
  · intro z hz
    rw [show setK K y.1 0 z.1 = K z.1 by simp [setK, hn z hz]]
    exact h.only z (List.mem_of_mem_eraseIdx hz)
  · have s1 := h.sum
    have s2 := inP_lift hi hne
    rw [e1] at s1
    rw [e2]
    simp only [List.map_append, List.map_cons, List.sum_append, List.sum_cons] at s1 ⊢
    rw [o1] at s2
    omega
  · have c1 := cnt_set (K := K) (hi.asks y.1 hne).1 0
    rw [if_neg hne] at c1
    have c2 := h.len
    rw [List.length_eraseIdx_of_lt hlt]
    simp at c1
    omega

theorem Lists.same {l l' : List (Nat × Nat)} (h : Lists nu K l) (e : l.Perm l') : Lists nu K l' :=
  ⟨(e.map Prod.fst).nodup_iff.1 h.nodup, fun u hu => e.mem_iff.1 (h.all u hu), fun y hy => h.only y (e.mem_iff.2 hy), by rw [← (e.map _).sum_nat]; exact h.sum, by rw [← e.length_eq]; exact h.len⟩
end
end Go.Proofs.YtdgobaknbjlahaaGreatDoor
