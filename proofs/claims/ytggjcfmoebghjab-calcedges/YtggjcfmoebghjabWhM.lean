/- The least and the most of whole numbers; numbers turned about. -/
import Derived.Test.YtggjcfmoebghjabQuot
namespace Go.Proofs.Ytggjcfmoebghjab
open Go.RowKit

theorem val_scale (n : Int) (h : n.natAbs < 1000000000000000) (K : Nat) (hK : K = 1074) : val (fl n) = n * 2 ^ K := by
  rw [val_fl n h, sz_wr _ (by omega) K hK]
  by_cases h : n < 0
  · rw [if_pos h]
    have e : n = -(n.natAbs : Int) := by omega
    generalize n.natAbs = q at *
    subst e
    rw [Int.natCast_mul, Int.neg_mul]; simp
  · rw [if_neg h]
    have e : n = (n.natAbs : Int) := by omega
    generalize n.natAbs = q at *
    subst e
    rw [Int.natCast_mul]; simp
theorem code_fl (a b : Int) (ha : a.natAbs < 1000000000000000) (hb : b.natAbs < 1000000000000000) : codeN (fl a) < codeN (fl b) ↔ a < b := by
  obtain ⟨K, hK⟩ : ∃ K : Nat, K = 1074 := ⟨_, rfl⟩
  have hP : (0 : Int) < 2 ^ K := Int.pow_pos (by decide)
  obtain ⟨a1, a2⟩ := fl_lt a ha
  obtain ⟨b1, b2⟩ := fl_lt b hb
  have key : ∀ x y : Int, x.natAbs < 1000000000000000 → y.natAbs < 1000000000000000 → x < y → codeN (fl x) < codeN (fl y) := by
    intro x y hx hy h
    obtain ⟨x1, x2⟩ := fl_lt x hx
    obtain ⟨y1, y2⟩ := fl_lt y hy
    apply code_lt _ _ x1 y1 x2 y2
    rw [val_scale x hx K hK, val_scale y hy K hK]
    exact Int.mul_lt_mul_of_pos_right h hP
  constructor
  · intro h
    rcases Int.lt_or_le a b with g | g
    · exact g
    · rcases Int.lt_or_eq_of_le g with g | g
      · have := key b a hb ha g; omega
      · subst g; omega
  · exact key a b ha hb

theorem any_mapl (f : Nat → Int) (k : Nat) (h : ∀ i, i < k → (f i).natAbs < 1000000000000000) : (mapl f k).any nanB = false := by
  rw [List.any_eq_false]
  intro x hx
  simp only [mapl, List.mem_map, List.mem_range] at hx
  obtain ⟨i, hi, rfl⟩ := hx
  rw [(fl_lt _ (h i hi)).2]; decide
theorem fin_inf (x : Nat) (hx : x < 18446744073709551616) (nx : x % 9223372036854775808 < 9218868437227405312) : codeN x < codeN 9218868437227405312 ∧ codeN 18442240474082181120 < codeN x := by
  have e1 : codeN 9218868437227405312 = 18442240474082181120 := by decide
  have e2 : codeN 18442240474082181120 = 4503599627370495 := by decide
  rw [e1, e2]
  have hn : nanB x = false := by simp only [nanB, decide_eq_false_iff_not]; omega
  unfold codeN
  rw [if_neg (by simp [hn])]
  split <;> omega
theorem fl_fin (n : Int) (h : n.natAbs < 1000000000000000) : fl n % 9223372036854775808 < 9218868437227405312 := by
  rw [fl_small n h, (wb_facts (decide (n < 0)) n.natAbs (by omega)).2.2.1]
  have := wr_lt n.natAbs (by omega)
  omega
theorem lo_mapl (f : Nat → Int) (k : Nat) (h : ∀ i, i < k + 1 → (f i).natAbs < 1000000000000000) : ∃ j, j < k + 1 ∧ lo (mapl f (k + 1)) = fl (f j) ∧ ∀ i, i < k + 1 → f j ≤ f i := by
  induction k with
  | zero =>
    refine ⟨0, by omega, ?_, fun i hi => by rw [show i = 0 by omega]; exact Int.le_refl _⟩
    show (if codeN (fl (f 0)) < codeN 9218868437227405312 then fl (f 0) else 9218868437227405312) = _
    rw [if_pos (fin_inf _ (fl_lt _ (h 0 (by omega))).1 (fl_fin _ (h 0 (by omega)))).1]
  | succ k ih =>
    obtain ⟨j, hj, e, hm⟩ := ih fun i hi => h i (by omega)
    rw [mapl_succ]
    unfold lo at e ⊢
    rw [List.foldl_append, e]
    rw [List.foldl_cons, List.foldl_nil]
    by_cases hc : f (k + 1) < f j
    · refine ⟨k + 1, by omega, by rw [if_pos ((code_fl _ _ (h _ (by omega)) (h _ (by omega))).2 hc)], fun i hi => ?_⟩
      by_cases hi' : i = k + 1
      · rw [hi']; exact Int.le_refl _
      · have := hm i (by omega); omega
    · refine ⟨j, by omega, by rw [if_neg (fun g => hc ((code_fl _ _ (h _ (by omega)) (h _ (by omega))).1 g))], fun i hi => ?_⟩
      by_cases hi' : i = k + 1
      · rw [hi']; omega
      · exact hm i (by omega)
theorem hi_mapl (f : Nat → Int) (k : Nat) (h : ∀ i, i < k + 1 → (f i).natAbs < 1000000000000000) : ∃ j, j < k + 1 ∧ hi (mapl f (k + 1)) = fl (f j) ∧ ∀ i, i < k + 1 → f i ≤ f j := by
  induction k with
  | zero =>
    refine ⟨0, by omega, ?_, fun i hi => by rw [show i = 0 by omega]; exact Int.le_refl _⟩
    show (if codeN 18442240474082181120 < codeN (fl (f 0)) then fl (f 0) else 18442240474082181120) = _
    rw [if_pos (fin_inf _ (fl_lt _ (h 0 (by omega))).1 (fl_fin _ (h 0 (by omega)))).2]
  | succ k ih =>
    obtain ⟨j, hj, e, hm⟩ := ih fun i hi => h i (by omega)
    rw [mapl_succ]
    unfold hi at e ⊢
    rw [List.foldl_append, e]
    rw [List.foldl_cons, List.foldl_nil]
    by_cases hc : f j < f (k + 1)
    · refine ⟨k + 1, by omega, by rw [if_pos ((code_fl _ _ (h _ (by omega)) (h _ (by omega))).2 hc)], fun i hi => ?_⟩
      by_cases hi' : i = k + 1
      · rw [hi']; exact Int.le_refl _
      · have := hm i (by omega); omega
    · refine ⟨j, by omega, by rw [if_neg (fun g => hc ((code_fl _ _ (h _ (by omega)) (h _ (by omega))).1 g))], fun i hi => ?_⟩
      by_cases hi' : i = k + 1
      · rw [hi']; omega
      · exact hm i (by omega)
theorem sumI_ge (f : Nat → Int) (c : Int) (k : Nat) (h : ∀ i, i < k → c ≤ f i) : c * k ≤ sumI f k := by
  induction k with
  | zero => simp [sumI]
  | succ k ih =>
    have a := ih fun i hi => h i (by omega)
    have b := h k (by omega)
    rw [sumI, Int.natCast_add, Int.mul_add]
    simp only [Int.natCast_one, Int.mul_one]
    omega
theorem sumI_le (f : Nat → Int) (c : Int) (k : Nat) (h : ∀ i, i < k → f i ≤ c) : sumI f k ≤ c * k := by
  induction k with
  | zero => simp [sumI]
  | succ k ih =>
    have a := ih fun i hi => h i (by omega)
    have b := h k (by omega)
    rw [sumI, Int.natCast_add, Int.mul_add]
    simp only [Int.natCast_one, Int.mul_one]
    omega
theorem sumI_split (f : Nat → Int) (a b : Nat) : sumI f (a + b) = sumI f a + sumI (fun i => f (a + i)) b := by
  induction b with
  | zero => simp [sumI]
  | succ b ih => rw [show a + (b + 1) = (a + b) + 1 by omega, sumI, sumI, ih]; omega
theorem sumI_turn (f : Nat → Int) (t N : Nat) : sumI (fun i => f ((i + t) % N)) N = sumI f N := by
  by_cases hN : N = 0
  · subst hN; rfl
  · obtain ⟨s, hs, hs2⟩ : ∃ s, t % N = s ∧ s < N := ⟨_, rfl, Nat.mod_lt _ (by omega)⟩
    obtain ⟨r, hr⟩ : ∃ r, N = r + s := ⟨N - s, by omega⟩
    have e : ∀ i, (i + t) % N = (i + s) % N := fun i => by rw [← hs, Nat.add_mod_mod]
    simp only [e]
    have h1 : sumI (fun i => f ((i + s) % N)) N = sumI (fun i => f ((i + s) % N)) r + sumI (fun i => f ((r + i + s) % N)) s := by
      have := sumI_split (fun i => f ((i + s) % N)) r s
      rw [← hr] at this; exact this
    have h2 : sumI f N = sumI f s + sumI (fun i => f (s + i)) r := by
      have := sumI_split f s r
      rw [Nat.add_comm s r, ← hr] at this; exact this
    rw [h1, h2, sumI_congr (fun i => f ((i + s) % N)) (fun i => f (s + i)) r (fun i hi => by rw [Nat.mod_eq_of_lt (by omega), Nat.add_comm]), sumI_congr (fun i => f ((r + i + s) % N)) f s (fun i hi => by
      rw [show r + i + s = i + N by omega, Nat.add_mod_right, Nat.mod_eq_of_lt (by omega)])]
    omega
theorem ord_geq (x y : Nat) (hx : x < 18446744073709551616) (hy : y < 18446744073709551616) (nx : nanB x = false) (ny : nanB y = false) (h : val y ≤ val x) : (FloatKind.f64.format.order x y == some .gt || FloatKind.f64.format.order x y == some .eq) = true := by
  have e : FloatKind.f64.format.order x y = some (cmpI (val x) (val y)) := ord_eq x y hx hy nx ny
  rw [e]
  unfold cmpI
  split
  · omega
  · split <;> rfl
theorem ord_leq (x y : Nat) (hx : x < 18446744073709551616) (hy : y < 18446744073709551616) (nx : nanB x = false) (ny : nanB y = false) (h : val x ≤ val y) : (FloatKind.f64.format.order x y == some .lt || FloatKind.f64.format.order x y == some .eq) = true := by
  have e : FloatKind.f64.format.order x y = some (cmpI (val x) (val y)) := ord_eq x y hx hy nx ny
  rw [e]
  unfold cmpI
  split
  · rfl
  · split
    · rfl
    · omega
end Go.Proofs.Ytggjcfmoebghjab
