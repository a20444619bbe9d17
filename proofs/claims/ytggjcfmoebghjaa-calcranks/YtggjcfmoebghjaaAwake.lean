/- What the document fixes of many numbers. -/
import Derived.Test.YtggjcfmoebghjaaMean
namespace Go.Proofs.Ytggjcfmoebghjaa
open Go.RowKit

/-- Infinity by its sign. -/
def infB (s : Int) : Nat := if 0 ≤ s then 9218868437227405312 else 18442240474082181120
theorem inf_any (s : Int) (h : s = 1 ∨ s = -1) (w : World) : Calls Try.prog 30 #[.int .i64 s] w fun e w' => e = .returned (.float .f64 (infB s)) ∧ w' = w := by
  rcases h with rfl | rfl
  · exact inf_up w
  · exact inf_down w
theorem infB1 : infB 1 = 9218868437227405312 := rfl
theorem infB2 : infB (-1) = 18442240474082181120 := rfl

/-- A row that was just laid. -/
theorem fls_alloc (w : World) (l : List Nat) (t : TypeId) (hl : ∀ x ∈ l, x < 18446744073709551616) : Fls (w.alloc (.cells (l.map (Value.float .f64)).toArray t)) (some ⟨w.heap.size, 0, none⟩) l := by
  intro k hk
  refine ⟨_, 0, rfl, ?_, ?_⟩
  · rw [World.cell?_alloc_at _ _ _ _ rfl]; simp [hk]
  · have e : l.getD k 0 = l[k] := by simp [hk]
    rw [e]; exact hl _ (List.getElem_mem hk)
theorem two_lt {x y : Nat} (hx : x < 18446744073709551616) (hy : y < 18446744073709551616) : ∀ z ∈ [x, y], z < 18446744073709551616 := by
  intro z hz; simp only [List.mem_cons, List.not_mem_nil, or_false] at hz; rcases hz with rfl | rfl <;> assumption
theorem sum_two (x y : Nat) (hx : x < 18446744073709551616) (hy : y < 18446744073709551616) (t : TypeId) (w : World) : Calls Try.prog 9 #[.slice (some ⟨w.heap.size, 0, none⟩) 2 2] (w.alloc (.cells #[.float .f64 x, .float .f64 y] t)) fun e w' => e = .returned (.float .f64 (one (sumO [x, y]))) ∧ ∃ n, w' = (w.alloc (.cells #[.float .f64 x, .float .f64 y] t)).drewN n :=
  sum_ok (some ⟨w.heap.size, 0, none⟩) 2 [x, y] _ (fls_alloc w [x, y] t (two_lt hx hy)) (by simp)
theorem min_two (x y : Nat) (hx : x < 18446744073709551616) (hy : y < 18446744073709551616) (t : TypeId) (w : World) : Calls Try.prog 12 #[.slice (some ⟨w.heap.size, 0, none⟩) 2 2] (w.alloc (.cells #[.float .f64 x, .float .f64 y] t)) fun e w' => e = .returned (.float .f64 (least [x, y])) ∧ w' = w.alloc (.cells #[.float .f64 x, .float .f64 y] t) :=
  min_ok (some ⟨w.heap.size, 0, none⟩) 2 [x, y] _ (fls_alloc w [x, y] t (two_lt hx hy)) (by simp)
theorem mean_none (w : World) : Calls Try.prog 11 #[.slice none 0 0] w fun e w' => e = .returned (.float .f64 (one (meanO []))) ∧ ∃ n, w' = w.drewN n :=
  mean_ok none 0 [] w (fun k hk => by simp at hk) (by simp)
theorem below_drewN' (w : World) (n : Nat) : Below w.heap.size w (w.drewN n) := ⟨rfl, rfl, rfl, Nat.le_refl _, fun _ _ => rfl⟩
theorem below_step {a b c : World} (h : Below a.heap.size a b) (k : Below b.heap.size b c) : Below a.heap.size a c := h.trans (k.mono h.size)

theorem Fls.on {w w' : World} {a : Option Addr} {l : List Nat} (h : Fls w a l) (b : Below w.heap.size w w') : Fls w' a l := by
  intro k hk
  obtain ⟨xb, xo, e, c, d⟩ := h k hk
  exact ⟨xb, xo, e, (b.cell (World.block_lt_of_cell? w _ c)).trans c, d⟩

set_option maxRecDepth 100000 in
set_option maxHeartbeats 2000000 in
theorem awake_ok (w : World) : Calls Try.prog 10 #[] w fun e w' => e = .returned (.bool true) ∧ Below w.heap.size w w' := by
  have hf := from_run
  have s1 : one (sumO [9218868437227405312, 18442240474082181120]) = 9221120237041090561 := by decide +kernel
  have s2 : one (sumO [4607182418800017408, 4611686018427387904]) = 4613937818241073152 := by decide +kernel
  have s3 : least [0, 9223372036854775808] = 9223372036854775808 := by decide +kernel
  have s4 : one (meanO []) = 9221120237041090561 := by decide +kernel
  go_enter Try.func10, Try.ntmps10
  go_wp2_with (first | (go_at_call 30; refine (inf_any _ (by decide) _).mono ?_; rintro e w' ⟨rfl, h⟩; rw [h]; clear h; simp only [infB1, infB2]))
  refine (sum_two _ _ (by decide) (by decide) _ _).mono ?_
  rintro e w1 ⟨rfl, n1, h1⟩
  simp only [s1]
  have B1 := hide (show Below w.heap.size w w1 by rw [h1]; exact below_step ((Below.refl _ w).alloc (Nat.le_refl _) _) (below_drewN' _ _))
  clear h1
  go_wp2_with (first | (go_at_call 31; refine (copysign_ok _).mono ?_; rintro e w' ⟨rfl, h⟩; rw [h]; clear h))
  refine (min_two _ _ (by decide) (by decide) _ _).mono ?_
  rintro e w2 ⟨rfl, h2⟩
  simp only [s3]
  have B2 := hide (show Below w.heap.size w w2 by rw [h2]; exact below_step (unhide B1) ((Below.refl _ _).alloc (Nat.le_refl _) _))
  clear h2 B1
  go_wp2_with fail
  refine (mean_none _).mono ?_
  rintro e w3 ⟨rfl, n3, h3⟩
  simp only [s4]
  have B3 := hide (show Below w.heap.size w w3 by rw [h3]; exact below_step (unhide B2) (below_drewN' _ _))
  clear h3 B2
  go_wp2_with (first | (go_at_call 32; refine (signbit_ok _ (by decide) _).mono ?_; rintro e w' ⟨rfl, h⟩; rw [h]; clear h))
  refine (sum_two _ _ (by decide) (by decide) _ _).mono ?_
  rintro e w4 ⟨rfl, n4, h4⟩
  simp only [s2]
  have B4 := hide (show Below w.heap.size w w4 by rw [h4]; exact below_step (below_step (unhide B3) ((Below.refl _ _).alloc (Nat.le_refl _) _)) (below_drewN' _ _))
  clear h4 B3
  go_wp2
  go_ret
  exact ⟨rfl, unhide B4⟩
end Go.Proofs.Ytggjcfmoebghjaa
