/- awake: what the document fixes. -/
import Derived.Test.YtockkjkaopihjaaLawA
namespace Go.Proofs.Ytockkjkaopihjaa
open Go.RowKit

theorem two_writes (W : World) (g : Nat) (a b c e : Int) (t : TypeId) (h : W.heap[g]? = some (.cells #[.int .i64 a, .int .u64 b, .int .i64 c, .int .u64 e] t (0, 0))) : WrAt W g 0 [(a, b), (c, e)] := by
  intro k x hx
  have hk : k < 2 := (List.getElem?_eq_some_iff.1 hx).1
  rcases (show k = 0 ∨ k = 1 by omega) with rfl | rfl
  · cases hx
    exact ⟨cell_of_row _ _ _ _ _ _ h, cell_of_row _ _ _ _ _ _ h⟩
  · cases hx
    exact ⟨cell_of_row _ _ _ _ _ _ h, cell_of_row _ _ _ _ _ _ h⟩
theorem one_write (W : World) (g : Nat) (a b : Int) (t : TypeId) (h : W.heap[g]? = some (.cells #[.int .i64 a, .int .u64 b] t (0, 0))) : WrAt W g 0 [(a, b)] := by
  intro k x hx
  have hk : k < 1 := (List.getElem?_eq_some_iff.1 hx).1
  obtain rfl : k = 0 := by omega
  cases hx
  exact ⟨cell_of_row _ _ _ _ _ _ h, cell_of_row _ _ _ _ _ _ h⟩

set_option maxHeartbeats 1000000 in
theorem awake_ok (w : World) : Calls Try.prog 16 #[] w fun e w' => e = .returned (.bool true) ∧ Fr (fun _ => False) w w' := by
  have HO := hide (law_open w)
  have n4 := need_4
  have n3 := need_m3
  go_enter Try.func16, Try.ntmps16
  go_wp2_with fail
  refine (unhide HO).mono ?_
  clear HO
  rintro e w1 ⟨b, lg, L, rfl, o1⟩
  have M := most_ok o1.log (by omega) (by omega)
  have HO1 := hide o1; have HM := hide M; have HN4 := hide (n4 w1); have HN3 := hide (n3 w1)
  clear o1 M n4 n3
  go_wp2_with fail
  refine (unhide HN4).mono ?_
  rintro e w' ⟨rfl, rfl⟩
  go_wp2_with fail
  refine (unhide HN3).mono ?_
  rintro e w' ⟨rfl, rfl⟩
  go_wp2_with fail
  refine (unhide HM).mono ?_
  rintro e w' ⟨rfl, rfl⟩
  clear HN4 HN3 HM
  go_wp2_with fail
  have o1 := unhide HO1
  obtain ⟨W2, hW2⟩ : ∃ W2, w'.alloc (.cells #[.int .i64 100, .int .u64 7, .int .i64 100, .int .u64 8] 32) = W2 := ⟨_, rfl⟩
  have f2 : Fr (fun _ => False) w' W2 := hW2 ▸ (Fr.refl _ w').alloc _
  have x2 : WrAt W2 w'.heap.size 0 [(100, 7), (100, 8)] := two_writes _ _ _ _ _ _ 32 (by rw [← hW2]; exact heap_alloc_new w' _)
  have nx : ¬ foot b L w'.heap.size := fun hf => by have := o1.d.lt _ hf; omega
  have tk : Takes 32 0 64 [(100, 7), (100, 8)] := ⟨by simp, by intro x hx; simp at hx; rcases hx with rfl | rfl <;> exact ⟨by omega, by omega, by omega⟩, by simp, by omega⟩
  have C := commit_ok (o1.d.keptF f2) (o1.log.kept f2 (fun h => h)) o1.nlg (fresh_calm 32 True) (clean0 0 64) w'.heap.size 0 2 _ x2 nx tk (by omega) (by omega) (by simp)
  rw [hW2]
  have HC := hide C; have HF2 := hide f2
  clear C x2 nx tk hW2 f2 o1
  refine (unhide HC).mono ?_
  clear HC
  rintro e w3 (⟨rfl, D⟩ | ⟨rfl, D⟩)
  rotate_left
  · obtain ⟨_, _, _, ⟨h, _⟩, _⟩ := D
    exact absurd trivial h
  obtain ⟨L3, A3, o3, f', c3, cl3⟩ := D.on
  have P := p_power_nil o3.d c3.n c3.st (by simp) false
  have HP := hide P; have HO3 := hide o3; have HC3 := hide (And.intro c3 cl3)
  clear P o3 c3 cl3 D
  go_wp2_with fail
  refine (unhide HP).mono ?_
  clear HP
  rintro e w4 ⟨rfl, D⟩
  obtain ⟨L4, A4, o4, h4, p4, c4⟩ := D.on
  obtain ⟨c3, cl3⟩ := unhide HC3
  have cl4 := cl3.of_poss c3 p4
  have e8 : h4 100 = 8 := (cl4.out 100 (.inr (by omega))).trans rfl
  have LD := d_load o4.d (c4 True) 100 (by omega)
  rw [e8] at LD
  have HLD := hide LD; have HO4 := hide o4
  clear LD o4 D p4 c4 c3 cl3 cl4 e8 HC3
  go_wp2_with fail
  refine (unhide HLD).mono ?_
  rintro e w5 ⟨rfl, rfl⟩
  clear HLD
  go_wp2
  go_ret
  refine ⟨rfl, ?_⟩
  have o1 := unhide HO1
  have o5 := (unhide HO3).trans (unhide HO4)
  exact (o1.fr.trans (unhide HF2)).trans' o5.fr (fun k hk => .inr (o1.new k hk))
end Go.Proofs.Ytockkjkaopihjaa
