/- awake: what the document fixes. -/
import Derived.Test.YtkdehhmmcchgfaaBi
namespace Go.Proofs.Ytkdehhmmcchgfaa
open Go.RowKit

theorem rise_eq {l m : List Int} (hm : m.Pairwise (· < ·)) (h : ∀ x, x ∈ m ↔ x ∈ l ∧ x ≠ 0) : rise l = m := rise_unique (rise_lt l) hm fun x => by rw [rise_mem, h]
def awOf : OfF := fun x => ([3 - x], 0)
theorem aw_run : run awOf 9 5 (rise [1]) [] = ([1, 2], [1, 2], 0) := by
  have e1 : rise [1] = [1] := rise_eq (by simp) (fun x => by simp; omega)
  have e2 : rise [1, 2] = [1, 2] := rise_eq (by simp) (fun x => by simp; omega)
  have e3 : rise [1, 2, 1] = [1, 2] := rise_eq (by simp) (fun x => by simp; omega)
  rw [e1]
  simp [run, nxt, awOf, e2, e3]

theorem awc_ok (x : Int) (hx : x = 1 ∨ x = 2) (W : World) : Calls Try.prog 26 #[iv x] W fun e W' => e = .returned (.tuple #[.slice (some ⟨W.heap.size, 0, none⟩) 1 1, iv 0]) ∧ W' = W.alloc (.cells #[iv (3 - x)] 3) := by
  have hw : wrap64 (3 - x) = 3 - x := by unfold wrap64; omega
  go_enter Try.func26, Try.ntmps26
  go_wp2
  go_ret2
  exact ⟨rfl, rfl⟩
theorem aw_hangs : Hangs awOf [1, 2] 26 #[] (fun _ S _ => ∀ k, ¬ S k) where
  enter := enters_of Try.func26 (by kernel_rfl) rfl
  lt := fun d S W h k hk => absurd hk (h k)
  kept := fun d S W W' F h _ _ => h
  call := fun d S W x h hx _ _ => by
    refine (awc_ok x (by simpa using hx) W).mono ?_
    rintro e W' ⟨rfl, rfl⟩
    exact ⟨_, S, rfl, h, Own.one W (3 - x), ((Fr.refl (fun _ => False) W).alloc _).mono (fun _ h => h.elim), fun k hk => .inl hk⟩
  inU := fun x hx y hy => by simp [awOf] at hx hy; simp; omega
  few := by simp
  short := fun x hx => by simp [awOf]
  wf := fun x hx => by simp at hx; rcases hx with rfl | rfl <;> decide

set_option maxRecDepth 100000 in
set_option maxHeartbeats 2000000 in
theorem awake_ok (w : World) : Calls Try.prog 9 #[] w fun e w' => e = .returned (.bool true) ∧ Still w w' := by
  have f1 : Still w (w.alloc (.cells #[iv 1] 3)) := (Fr.refl _ w).alloc _
  have FO := from_ok aw_hangs (w.alloc (.cells #[iv 1] 3)) (fun _ => False) (some ⟨w.heap.size, 0, none⟩) 1 1 [1] 9 5 _ aw_run (by decide) (by
    obtain ⟨a, c, e, _, h, _⟩ := (Own.one w 1).rd
    cases e
    exact h) rfl (by simp) (by omega) (fun b o e => by cases e; simp) (fun k h => h)
  have HFO := hide FO; have F1 := hide f1
  clear FO f1
  go_enter Try.func9, Try.ntmps9
  go_wp2_with fail
  refine (unhide HFO).mono ?_
  rintro e w1 ⟨v, S', rfl, o1, -, -, f2, -⟩
  have o1 := o1 trivial
  obtain ⟨g1, c1, hv1⟩ : ∃ g c, v = .slice (some ⟨g, 0, none⟩) 2 c := by
    rcases o1.form with ⟨_, h⟩ | ⟨g, c, h, _⟩
    · cases h
    · exact ⟨g, c, h⟩
  subst hv1
  have D1 : Dat w1 _ g1 c1 [1, 2] w1 := ⟨o1, Fr.refl _ _⟩
  have gl : g1 < w1.heap.size := by
    rcases o1.form with ⟨h, _⟩ | ⟨g, c, h, _, _, hlt, _⟩
    · cases h
    · cases h; exact hlt
  have x1 := D1.cell 1 (by simp)
  obtain ⟨W2, hW2⟩ : ∃ W2, (w1.alloc (.cells #[iv 1, iv 2] 3)).alloc (.cells #[iv 2, iv 3] 3) = W2 := ⟨_, rfl⟩
  have f12 : Still w1 W2 := hW2 ▸ ((Fr.refl _ w1).alloc _).alloc _
  have r1 : Rd W2 (some ⟨w1.heap.size, 0, none⟩) [1, 2] := by
    obtain ⟨a, c, e, _, h, _⟩ := (Own.two w1 1 2).rd
    cases e
    exact h.still (hW2 ▸ (Fr.refl _ _).alloc _)
  have r2 : Rd W2 (some ⟨w1.heap.size + 1, 0, none⟩) [2, 3] := by
    obtain ⟨a, c, e, _, h, _⟩ := (Own.two (w1.alloc (.cells #[iv 1, iv 2] 3)) 2 3).rd
    cases e
    rw [hW2] at h
    simpa using h
  have SP := split_ok (some ⟨w1.heap.size, 0, none⟩) (some ⟨w1.heap.size + 1, 0, none⟩) 2 2 2 2 [1, 2] [2, 3] W2 r1 r2 rfl rfl (by omega) (by omega) (by omega) (by omega) (by simp) (by simp)
  have F2 := hide ((unhide F1).trans (f2.trans f12))
  have HX := hide (And.intro x1 (And.intro f12 gl)); have HSP := hide SP; have HW2 := hide hW2
  clear o1 f2 HFO F1 D1 gl x1 hW2 f12 r1 r2 SP
  go_wp2_with fail
  rw [unhide HW2]
  refine (unhide HSP).mono ?_
  rintro e w3 ⟨p, q, rfl, op, oq, f3⟩
  obtain ⟨g2, c2, rfl⟩ : ∃ g c, p = .slice (some ⟨g, 0, none⟩) 1 c := by
    rcases op.form with ⟨_, h⟩ | ⟨g, c, h, _⟩
    · exact absurd h (by decide)
    · exact ⟨g, c, h⟩
  obtain ⟨g3, c3, rfl⟩ : ∃ g c, q = .slice (some ⟨g, 0, none⟩) 1 c := by
    rcases oq.form with ⟨_, h⟩ | ⟨g, c, h, _⟩
    · exact absurd h (by decide)
    · exact ⟨g, c, h⟩
  have y1 : w3.cell? ⟨g1, 1, none⟩ = some (.int .i64 2) := f3.cell' ((unhide HX).2.1.cell' (unhide HX).1 (fun x => x)) (fun x => x)
  have e2 : wo [1, 2] [2, 3] = [1] := by decide
  have e3 : wo [2, 3] [1, 2] = [3] := by decide
  rw [e2] at op
  rw [e3] at oq
  have D2 : Dat w3 W2.heap.size g2 c2 [1] w3 := ⟨op, Fr.refl _ _⟩
  have D3 : Dat w3 W2.heap.size g3 c3 [3] w3 := ⟨oq, Fr.refl _ _⟩
  have y2 : w3.cell? ⟨g2, 0, none⟩ = some (.int .i64 1) := D2.cell 0 (by simp)
  have y3 : w3.cell? ⟨g3, 0, none⟩ = some (.int .i64 3) := D3.cell 0 (by simp)
  have F3 := hide ((unhide F2).trans f3)
  clear op oq f3 D2 D3 e2 e3 HX HSP HW2 F2
  go_wp2
  go_ret
  exact ⟨rfl, unhide F3⟩
end Go.Proofs.Ytkdehhmmcchgfaa
