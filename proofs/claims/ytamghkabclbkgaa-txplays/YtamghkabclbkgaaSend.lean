/- send: a line is on its way. -/
import Derived.Test.YtamghkabclbkgaaForget
import Derived.BigRegion
import Derived.Deep.RegionLawGrows
namespace Go.Proofs.Ytamghkabclbkgaa
open Go.RowKit

set_option maxHeartbeats 1000000 in
theorem send_again {kn kp : Nat} (b bn bp bs n m cap a p : Nat) (l o : Nat → Int) (w : World) (_hn : n ≤ 8192) (hm : m ≤ 4294967296) (ha : a < n) (hp : p < m)
    (h0 : w.cell? ⟨b, 0, none⟩ = some (rowc bn n kn)) (h2 : w.cell? ⟨b, 2, none⟩ = some (.slice (some ⟨bs, 0, none⟩) m cap)) (h3 : w.cell? ⟨b, 3, none⟩ = some (rowc bp n kp))
    (hpl : w.cell? ⟨bp, a, none⟩ = some (.int .i64 (p + 1)))
    (hl : ∀ k, k < 8 → w.cell? ⟨bn, a * 8 + k, none⟩ = some (u64 (l k)))
    (ho : ∀ k, k < 8 → w.cell? ⟨bs, p * 9 + 1 + k, none⟩ = some (u64 (o k))) (hz : ∀ q, w.frozen? ⟨bs, q, none⟩ = false) :
    Calls Try.prog 78 #[ptr b, .int .i64 a] w fun e w' => e = .returned (.tuple #[]) ∧ w' = (set8 w bs (p * 9 + 1) l).drew := by
  have l0 := hl 0 (by omega); have l1 := hl 1 (by omega); have l2 := hl 2 (by omega); have l3 := hl 3 (by omega)
  have l4 := hl 4 (by omega); have l5 := hl 5 (by omega); have l6 := hl 6 (by omega); have l7 := hl 7 (by omega)
  have o0 := ho 0 (by omega); have o1 := ho 1 (by omega); have o2 := ho 2 (by omega); have o3 := ho 3 (by omega)
  have o4 := ho 4 (by omega); have o5 := ho 5 (by omega); have o6 := ho 6 (by omega); have o7 := ho 7 (by omega)
  have z0 := hz (p * 9 + 1); have z1 := hz (p * 9 + 2); have z2 := hz (p * 9 + 3); have z3 := hz (p * 9 + 4)
  have z4 := hz (p * 9 + 5); have z5 := hz (p * 9 + 6); have z6 := hz (p * 9 + 7); have z7 := hz (p * 9 + 8)
  simp only [Nat.add_assoc, Nat.reduceAdd, Nat.add_zero] at l0 l1 l2 l3 l4 l5 l6 l7 o0 o1 o2 o3 o4 o5 o6 o7
  clear hl ho hz
  go_enter Try.func78, Try.ntmps78
  go_wp2
  go_region
  go_wp2
  refine bodyPost_ret (results_none rfl _ _ _) rfl ?_
  exact ⟨rfl, rfl⟩

theorem owns_form {w : World} {base size n : Nat} {e : TypeId} {v : Value} {xs : List Value} (h : w.ownsRow base e size v n xs) (hn : 0 < n) : ∃ g cap, v = .slice (some ⟨g, 0, none⟩) n cap := by
  rcases h.2 with ⟨_, h0⟩ | ⟨g, cap, _, hv, _⟩
  · omega
  · exact ⟨g, cap, hv⟩

abbrev litObj (a : Nat) (l : Nat → Int) : Obj := .cells #[.int .i64 a, u64 (l 0), u64 (l 1), u64 (l 2), u64 (l 3), u64 (l 4), u64 (l 5), u64 (l 6), u64 (l 7)] 91

theorem lit_news (w : World) (a : Nat) (l : Nat → Int) (j : Nat) (u : Value) (h : (.int .i64 a :: lineCells l : List Value)[j]? = some u) : ((w.alloc (litObj a l)).drew).cell? ((⟨w.heap.size, 0, none⟩ : Addr).add j) = some u := by
  have hadd : (⟨w.heap.size, 0, none⟩ : Addr).add j = ⟨w.heap.size, j, none⟩ := by unfold Addr.add; split <;> simp_all
  rw [hadd, World.cell?_drew, World.cell?_alloc_new]
  have hj : j < 9 := by have := (List.getElem?_eq_some_iff.1 h).1; simpa [lineCells] using this
  have : j = 0 ∨ j = 1 ∨ j = 2 ∨ j = 3 ∨ j = 4 ∨ j = 5 ∨ j = 6 ∨ j = 7 ∨ j = 8 := by omega
  rcases this with rfl | rfl | rfl | rfl | rfl | rfl | rfl | rfl | rfl <;> exact h

theorem lit_one (a : Nat) (l : Nat → Int) : ∀ u ∈ (.int .i64 a :: lineCells l : List Value), u.oneCell' = true := by
  intro u hu
  simp [lineCells] at hu
  rcases hu with rfl | rfl | rfl | rfl | rfl | rfl | rfl | rfl | rfl <;> rfl

theorem info59 : (Try.prog.info? 91).map (fun i => (i.zero, i.size, i.bytes)) = some (some (.agg #[.int .i64 0, .int .u64 0, .int .u64 0, .int .u64 0, .int .u64 0, .int .u64 0, .int .u64 0, .int .u64 0, .int .u64 0]), 9, 72) := by kernel_rfl

set_option maxHeartbeats 1000000 in
theorem send_grow {kn kp : Nat} (b bn bp n m cap a : Nat) (ao : Option Addr) (l : Nat → Int) (olds : List Value) (w : World) (_hn : n ≤ 8192) (hm : m ≤ 4294967296) (ha : a < n)
    (h0 : w.cell? ⟨b, 0, none⟩ = some (rowc bn n kn)) (h2 : w.cell? ⟨b, 2, none⟩ = some (.slice ao m cap)) (h3 : w.cell? ⟨b, 3, none⟩ = some (rowc bp n kp))
    (hb2 : w.frozen? ⟨b, 2, none⟩ = false) (hbp : b ≠ bp) (hzp : w.frozen? ⟨bp, a, none⟩ = false)
    (hpl : w.cell? ⟨bp, a, none⟩ = some (.int .i64 0))
    (hl : ∀ k, k < 8 → w.cell? ⟨bn, a * 8 + k, none⟩ = some (u64 (l k)))
    (hfull : cap = m) (hnone : ao = none → m = 0 ∧ cap = 0) (hlo : olds.length = m * 9) (holds : ∀ x, ao = some x → ∀ j u, olds[j]? = some u → w.cell? (x.add j) = some u) :
    Calls Try.prog 78 #[ptr b, .int .i64 a] w fun e w' => e = .returned (.tuple #[]) ∧
      ∃ w1 g cap', w1.ownsRow (w.heap.size + 1) 91 9 (.slice (some ⟨g, 0, none⟩) (m + 1) cap') (m + 1) (olds ++ (.int .i64 a :: lineCells l)) ∧ Fr (fun _ => False) w w1 ∧
        w' = ((w1.setCell ⟨b, 2, none⟩ (.slice (some ⟨g, 0, none⟩) (m + 1) cap')).setCell ⟨bp, a, none⟩ (.int .i64 (m + 1))).drew := by
  have l0 := hl 0 (by omega); have l1 := hl 1 (by omega); have l2 := hl 2 (by omega); have l3 := hl 3 (by omega)
  have l4 := hl 4 (by omega); have l5 := hl 5 (by omega); have l6 := hl 6 (by omega); have l7 := hl 7 (by omega)
  simp only [Nat.add_zero] at l0 l1 l2 l3 l4 l5 l6 l7
  clear hl
  have hi := info59
  obtain ⟨i0, hi0⟩ : ∃ i, Try.prog.info? 91 = some i := by
    cases h : Try.prog.info? 91 with
    | none => rw [h] at hi; simp at hi
    | some i => exact ⟨i, rfl⟩
  rw [hi0] at hi
  simp only [Option.map_some, Option.some.injEq, Prod.mk.injEq] at hi
  obtain ⟨hz0, hz1, hz2⟩ := hi
  have holdsW : ∀ x, ao = some x → ∀ j u, olds[j]? = some u → ((w.alloc (litObj a l)).drew).cell? (x.add j) = some u := fun x hx j u hu => by
    have hc := holds x hx j u hu
    rw [World.cell?_drew, World.cell?_alloc_lt _ _ _ (World.block_lt_of_cell? _ _ hc)]; exact hc
  have HoldsW := hide holdsW
  have HnewsW := hide (lit_news w a l)
  have Hone := hide (lit_one a l)
  have hbb := World.block_lt_of_cell? _ _ h2
  have hbq := World.block_lt_of_cell? _ _ hpl
  clear holdsW
  have Hnone := hide hnone; have Hlo := hide hlo; have Holds := hide holds; have Hfull := hide hfull
  have Hi0 := hide hi0; have Hz0 := hide hz0; have Hz1 := hide hz1; have Hz2 := hide hz2
  clear hnone hlo holds hfull hi0 hz0 hz1 hz2
  go_enter Try.func78, Try.ntmps78
  go_wp2
  go_region_law ((refine step_append_grows rfl (.tmp 33) (.tmp 43) 73 rfl 91 i0 _ 9 72 Try.underlying73 (unhide Hi0) (unhide Hz0) (unhide Hz1) (unhide Hz2) rfl (by decide) ao m cap olds (by simp [Act.eval]) (unhide Hnone) (unhide Hlo) (unhide HoldsW) ⟨w.heap.size, 0, none⟩ 1 1 (.int .i64 a :: lineCells l) (by simp [Act.eval]) (by simp [lineCells]) (unhide HnewsW) (unhide Hone) (by rw [unhide Hfull]; omega) (by unfold maxLen; omega) (by omega) ?_); (intro v' w' hown hgrow); (obtain ⟨g, cap', rfl⟩ := owns_form hown (by omega)); (have q2 : w'.cell? ⟨b, 2, none⟩ = some (.slice ao m cap) := hgrow.cell (by rw [World.cell?_drew, World.cell?_alloc_lt _ _ _ hbb]; exact h2) (by simp)); (have q3 : w'.cell? ⟨b, 3, none⟩ = some (rowc bp n kp) := hgrow.cell (by rw [World.cell?_drew, World.cell?_alloc_lt _ _ _ hbb]; exact h3) (by simp)); (have qp : w'.cell? ⟨bp, a, none⟩ = some (.int .i64 0) := hgrow.cell (by rw [World.cell?_drew, World.cell?_alloc_lt _ _ _ hbq]; exact hpl) (by simp)); (have z2 : w'.frozen? ⟨b, 2, none⟩ = false := (World.frozen?_of_block (hgrow.block b (by simp; omega) (by simp))).trans (by rw [World.frozen?_drew, World.frozen?_alloc_old _ _ _ (by simp; omega)]; exact hb2)); (have zp : w'.frozen? ⟨bp, a, none⟩ = false := (World.frozen?_of_block (hgrow.block bp (by simp; omega) (by simp))).trans (by rw [World.frozen?_drew, World.frozen?_alloc_old _ _ _ (by simp; omega)]; exact hzp)); (have Hown := hide hown); (have Hgrow := hide hgrow); (clear hown hgrow))
  all_goals
    go_wp2
    go_region
    go_wp2
    go_end0
    refine ⟨rfl, w', g, cap', ?_, ?_, rfl⟩
    · have := unhide Hown
      simp only [World.size_drew, World.size_alloc] at this
      exact this
    · exact (((Fr.refl _ w).alloc _).drew).grown (unhide Hgrow) (fun k hk => by cases hk)
end Go.Proofs.Ytamghkabclbkgaa
