/- CalcOnes walked. -/
import Derived.Test.YtggjcfmoebghjaaSpread
import Derived.Test.YtggjcfmoebghjaaSc
namespace Go.Proofs.Ytggjcfmoebghjaa
open Go.RowKit

theorem Fls.on {w w' : World} {a : Option Addr} {l : List Nat} (h : Fls w a l) (b : Below w.heap.size w w') : Fls w' a l := by
  intro k hk
  obtain ⟨xb, xo, e, c, d⟩ := h k hk
  exact ⟨xb, xo, e, (b.cell (World.block_lt_of_cell? w _ c)).trans c, d⟩

theorem code_le (x : Nat) (hx : x < 18446744073709551616) (h : nanB x = false) : codeN x ≤ codeN 9218868437227405312 ∧ codeN 18442240474082181120 ≤ codeN x := by
  have e1 : codeN 9218868437227405312 = 18442240474082181120 := by decide
  have e2 : codeN 18442240474082181120 = 4503599627370495 := by decide
  rw [e1, e2]
  unfold codeN
  rw [if_neg (by simp [h])]
  simp only [nanB, decide_eq_false_iff_not, Nat.not_lt] at h
  split <;> omega
theorem code_inj (x y : Nat) (hx : x < 18446744073709551616) (hy : y < 18446744073709551616) (nx : nanB x = false) (ny : nanB y = false) (h : codeN x = codeN y) : x = y := by
  have e : ∀ z, nanB z = false → codeN z = if z < 9223372036854775808 then z + 9223372036854775808 else 18446744073709551615 - z := by
    intro z hz; unfold codeN; rw [if_neg (by simp [hz])]
  rw [e x nx, e y ny] at h
  split at h <;> split at h <;> omega
theorem lo_one (x : Nat) (hx : x < 18446744073709551616) (nx : nanB x = false) : (if codeN x < codeN 9218868437227405312 then x else 9218868437227405312) = x := by
  split
  · rfl
  · exact code_inj _ _ (by decide) hx (by decide) nx (by have := (code_le x hx nx).1; omega)
theorem hi_one (x : Nat) (hx : x < 18446744073709551616) (nx : nanB x = false) : (if codeN 18442240474082181120 < codeN x then x else 18442240474082181120) = x := by
  split
  · rfl
  · exact code_inj _ _ (by decide) hx (by decide) nx (by have := (code_le x hx nx).2; omega)
theorem least_one (x : Nat) (hx : x < 18446744073709551616) (nx : nanB x = false) : least [x] = x := by
  unfold least lo; simp [nx]; exact fun h => (lo_one x hx nx).symm.trans (if_neg (by omega)) |>.symm
theorem most_one (x : Nat) (hx : x < 18446744073709551616) (nx : nanB x = false) : most [x] = x := by
  unfold most hi; simp [nx]; exact fun h => (hi_one x hx nx).symm.trans (if_neg (by omega)) |>.symm
theorem least_two (x y : Nat) (hx : x < 18446744073709551616) (nx : nanB x = false) (ny : nanB y = false) : least [x, y] = if codeN y < codeN x then y else x := by
  unfold least lo
  rw [show [x, y].any nanB = false by simp [nx, ny], List.foldl_cons, List.foldl_cons, List.foldl_nil, lo_one x hx nx]
  rfl
theorem most_two (x y : Nat) (hx : x < 18446744073709551616) (hy : y < 18446744073709551616) (nx : nanB x = false) (ny : nanB y = false) : most [x, y] = if codeN y < codeN x then x else y := by
  unfold most hi
  rw [show [x, y].any nanB = false by simp [nx, ny], List.foldl_cons, List.foldl_cons, List.foldl_nil, hi_one x hx nx]
  show (if codeN x < codeN y then y else x) = _
  rcases Nat.lt_trichotomy (codeN x) (codeN y) with h | h | h
  · rw [if_pos h, if_neg (by omega)]
  · rw [if_neg (by omega), if_neg (by omega)]; exact code_inj _ _ hx hy nx ny h
  · rw [if_neg (by omega), if_pos h]
theorem sum_one (x : Nat) (hx : x < 18446744073709551616) (nx : nanB x = false) : sumO [x] = some (if x = 9223372036854775808 then 0 else x) := by
  show sumB 0 x = _
  rw [sumB_comm, add_zero x hx nx]
theorem mean_one (x : Nat) (hx : x < 18446744073709551616) (nx : nanB x = false) : meanO [x] = some (if x = 9223372036854775808 then 0 else x) := by
  unfold meanO
  rw [sum_one x hx nx]
  show divB _ (fl 1) = _
  rw [show fl 1 = 4607182418800017408 by decide +kernel]
  apply div_one
  · split
    · decide
    · exact hx
  · split
    · decide
    · exact nx
theorem ord_one (x : Nat) (hx : x < 18446744073709551616) (nx : nanB x = false) : (FloatKind.f64.format.order (if x = 9223372036854775808 then 0 else x) x != some Ordering.eq) = false := by
  by_cases h : x = 9223372036854775808
  · rw [if_pos h, h]; decide
  · rw [if_neg h, ord_self x hx, nx]

/-- What Spread tells of one number. -/
theorem spread_one (x s : Nat) (hx : x < 18446744073709551616) (nx : nanB x = false) (hs : s = if x = 9223372036854775808 then 0 else x) (t : TypeId) (w : World) : Calls Try.prog 17 #[.slice (some ⟨w.heap.size, 0, none⟩) 1 1] (w.alloc (.cells #[.float .f64 x] t)) fun e w' => e = .returned (.tuple #[.float .f64 x, .float .f64 x, .float .f64 s, .float .f64 s]) ∧ Below w.heap.size w w' := by
  have h := spread_ok (some ⟨w.heap.size, 0, none⟩) 1 [x] (w.alloc (.cells #[.float .f64 x] t)) (fls_alloc w [x] t (fun z hz => by simp only [List.mem_cons, List.not_mem_nil, or_false] at hz; rw [hz]; exact hx)) (by simp)
  refine h.mono ?_
  rintro e w' ⟨rfl, n, rfl⟩
  refine ⟨?_, below_step ((Below.refl _ w).alloc (Nat.le_refl _) _) (below_drewN' _ _)⟩
  rw [least_one x hx nx, most_one x hx nx, sum_one x hx nx, mean_one x hx nx, hs]
  rfl

set_option maxRecDepth 100000 in
set_option maxHeartbeats 2000000 in
theorem ones_nan (a b : Nat) (ha : a < 18446744073709551616) (hb : b < 18446744073709551616) (hn : nanB a = true ∨ (nanB a = false ∧ nanB b = true)) (w : World) : Calls Try.prog 5 #[.int .u64 a, .int .u64 b] w fun e w' => e = .returned (.bool true) ∧ Below w.heap.size w w' := by
  have hf := from_run
  have n1 : (FloatKind.f64.format.order a a != some Ordering.eq) = nanB a := ord_self a ha
  have n2 : (FloatKind.f64.format.order b b != some Ordering.eq) = nanB b := ord_self b hb
  have e1 : least [a, b] = 9221120237041090561 := by
    unfold least; rw [if_pos]; rcases hn with h | ⟨_, h⟩ <;> simp [h]
  have n3 : (FloatKind.f64.format.order 9221120237041090561 9221120237041090561 != some Ordering.eq) = true := by decide
  have C1 := hide (min_two a b ha hb 24 w)
  have A := hide awake_ok
  rw [e1] at C1
  rcases hn with hn | ⟨hn, hn2⟩
  · rw [hn] at n1
    clear n2 e1
    go_enter Try.func5, Try.ntmps5
    go_wp2_with fail
    refine (unhide C1).mono ?_
    rintro e w' ⟨rfl, h⟩; rw [h]; clear h
    go_wp2_with fail
    refine (unhide A _).mono ?_
    rintro e w2 ⟨rfl, h2⟩
    have B := hide (below_step ((Below.refl _ w).alloc (Nat.le_refl _) _) h2)
    clear h2 C1 A
    go_wp2
    go_ret
    exact ⟨rfl, unhide B⟩
  · rw [hn] at n1
    rw [hn2] at n2
    clear e1
    go_enter Try.func5, Try.ntmps5
    go_wp2_with fail
    refine (unhide C1).mono ?_
    rintro e w' ⟨rfl, h⟩; rw [h]; clear h
    go_wp2_with fail
    refine (unhide A _).mono ?_
    rintro e w2 ⟨rfl, h2⟩
    have B := hide (below_step ((Below.refl _ w).alloc (Nat.le_refl _) _) h2)
    clear h2 C1 A
    go_wp2
    go_ret
    exact ⟨rfl, unhide B⟩

set_option maxRecDepth 100000 in
set_option maxHeartbeats 2000000 in
theorem ones_num (a b : Nat) (ha : a < 18446744073709551616) (hb : b < 18446744073709551616) (na : nanB a = false) (nb : nanB b = false) (w : World) : Calls Try.prog 5 #[.int .u64 a, .int .u64 b] w fun e w' => e = .returned (.bool true) ∧ Below w.heap.size w w' := by
  have hf := from_run
  have hbits := bits_run
  have n1 : (FloatKind.f64.format.order a a != some Ordering.eq) = false := (ord_self a ha).trans na
  have n2 : (FloatKind.f64.format.order b b != some Ordering.eq) = false := (ord_self b hb).trans nb
  obtain ⟨s, hs⟩ : ∃ s, s = if a = 9223372036854775808 then 0 else a := ⟨_, rfl⟩
  have n3 := ord_one a ha na
  rw [← hs] at n3
  have hsz : (w.alloc (.cells #[.float .f64 a, .float .f64 b] 24)).heap.size = w.heap.size + 1 := by simp
  have S := spread_one a s ha na hs 24 (w.alloc (.cells #[.float .f64 a, .float .f64 b] 24))
  rw [hsz] at S
  replace S := hide S
  have A := hide awake_ok
  have sb : sameB a a = true := by simp [sameB]
  have hl := least_two a b ha na nb
  have hm := most_two a b ha hb na nb
  have M1 := hide (fun w' (h : Below (w.heap.size + 1) (w.alloc (.cells #[.float .f64 a, .float .f64 b] 24)) w') => min_ok (some ⟨w.heap.size, 0, none⟩) 2 [a, b] w' ((fls_alloc w [a, b] 24 (two_lt ha hb)).on (hsz.symm ▸ h)) (by simp))
  have M2 := hide (fun w' (h : Below (w.heap.size + 1) (w.alloc (.cells #[.float .f64 a, .float .f64 b] 24)) w') => max_ok (some ⟨w.heap.size, 0, none⟩) 2 [a, b] w' ((fls_alloc w [a, b] 24 (two_lt ha hb)).on (hsz.symm ▸ h)) (by simp))
  have hcl := cmp3_lt (codeN b) (codeN a)
  clear hs na nb
  by_cases hc : codeN b < codeN a
  all_goals
    first
      | rw [if_pos hc] at hl hm
      | rw [if_neg hc] at hl hm
    rw [hl] at M1
    rw [hm] at M2
    have h3 : (cmp3 (codeN b) (codeN a) < 0) = (codeN b < codeN a) := hcl
    simp only [hc] at h3
    clear hcl hl hm
    have Hsz := hide hsz
    clear hsz
    go_enter Try.func5, Try.ntmps5
    go_wp2_with (go_at_call 16; refine (cmp_ok _ _ hb ha _).mono ?_; rintro e w' ⟨rfl, h⟩; rw [h]; clear h)
    refine (unhide S).mono ?_
    rintro e w2 ⟨rfl, h2⟩
    have B2 := hide h2
    clear h2 S
    go_wp2_with (go_at_call 18; refine (same16_ok _ _ ha ha _).mono ?_; rintro e w' ⟨rfl, h⟩; rw [h]; clear h; simp only [sb])
    refine (unhide M1 w2 (unhide B2)).mono ?_
    rintro e w' ⟨rfl, h⟩; rw [h]; clear h
    go_wp2_with fail
    refine (unhide M2 w2 (unhide B2)).mono ?_
    rintro e w' ⟨rfl, h⟩; rw [h]; clear h
    go_wp2_with fail
    refine (unhide A _).mono ?_
    rintro e w3 ⟨rfl, h3⟩
    have B := hide (below_step (below_step ((Below.refl _ w).alloc (Nat.le_refl _) _) ((unhide Hsz).symm ▸ unhide B2)) h3)
    clear h3 M1 M2 A
    go_wp2
    go_ret
    exact ⟨rfl, unhide B⟩
theorem ones_ok (a b : Nat) (ha : a < 18446744073709551616) (hb : b < 18446744073709551616) (w : World) : Calls Try.prog 5 #[.int .u64 a, .int .u64 b] w fun e w' => e = .returned (.bool true) ∧ Below w.heap.size w w' := by
  by_cases h1 : nanB a = true
  · exact ones_nan a b ha hb (.inl h1) w
  · have h1' : nanB a = false := by simpa using h1
    by_cases h2 : nanB b = true
    · exact ones_nan a b ha hb (.inr ⟨h1', h2⟩) w
    · exact ones_num a b ha hb h1' (by simpa using h2) w
end Go.Proofs.Ytggjcfmoebghjaa
