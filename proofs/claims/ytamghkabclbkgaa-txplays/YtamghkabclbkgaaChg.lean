/- The law's own change: a row of ops up to the one that ends it. -/
import Derived.Test.YtamghkabclbkgaaOps
namespace Go.Proofs.Ytamghkabclbkgaa
open Go.RowKit

def ocells (xs : List Op7) : List Value := xs.flatMap fun x => [.int .i64 x.kd, .int .i64 x.i, .int .u64 x.v]
theorem ocells_len (xs : List Op7) : (ocells xs).length = xs.length * 3 := by
  induction xs with
  | nil => rfl
  | cons x l ih => simp only [ocells, List.flatMap_cons, List.length_append, List.length_cons] at ih ⊢; simp at ih ⊢; omega
theorem ocells_app (xs ys : List Op7) : ocells (xs ++ ys) = ocells xs ++ ocells ys := by simp [ocells]
theorem ocells_at (xs : List Op7) : ∀ (k : Nat) (x : Op7), xs[k]? = some x → (ocells xs)[k * 3]? = some (.int .i64 x.kd) ∧ (ocells xs)[k * 3 + 1]? = some (.int .i64 x.i) ∧ (ocells xs)[k * 3 + 2]? = some (.int .u64 x.v) := by
  induction xs with
  | nil => intro k x h; simp at h
  | cons y l ih =>
    intro k x h
    cases k with
    | zero => simp at h; subst h; simp [ocells]
    | succ q =>
      simp at h
      obtain ⟨h1, h2, h3⟩ := ih q x h
      rw [show (q + 1) * 3 = q * 3 + 1 + 1 + 1 by omega]
      simp only [ocells, List.flatMap_cons, List.cons_append, List.nil_append, List.getElem?_cons_succ] at h1 h2 h3 ⊢
      exact ⟨h1, h2, h3⟩

theorem trip_news (w : World) (x y v : Int) (t : TypeId) (j : Nat) (u : Value) (h : ([.int .i64 x, .int .i64 y, .int .u64 v] : List Value)[j]? = some u) : (w.alloc (.cells #[.int .i64 x, .int .i64 y, .int .u64 v] t)).cell? ((⟨w.heap.size, 0, none⟩ : Addr).add j) = some u := by
  rw [add_none, Nat.zero_add, cell_of_obj (heap_alloc_new w _) j]
  simpa using h

theorem info_op : (Try.prog.info? 31).map (fun i => (i.zero, i.size, i.bytes)) = some (some (.agg #[.int .i64 0, .int .i64 0, .int .u64 0]), 3, 24) := by kernel_rfl

theorem owns_mono {w : World} {base base' : Nat} {e : TypeId} {size : Nat} {v : Value} {n : Nat} {xs : List Value} (h : w.ownsRow base e size v n xs) (hb : base' ≤ base) : w.ownsRow base' e size v n xs := by
  refine ⟨h.1, ?_⟩
  rcases h.2 with hn | ⟨g, cap, cur, e1, e2, rest⟩
  · exact .inl hn
  · exact .inr ⟨g, cap, cur, e1, Nat.le_trans hb e2, rest⟩

/-- What change gives. -/
structure Chd (w : World) (k len : Nat) (ls : List Op7) (en : Op7) (nx : Nat) (v : Value) (w' : World) : Prop where
  more : k < nx
  most : nx ≤ len
  row : w'.ownsRow w.heap.size 31 3 v ls.length (ocells ls)
  few : ls.length ≤ len
  ends : 1 ≤ en.kd ∧ en.kd ≤ 3
  fr : Still w w'

set_option maxRecDepth 100000 in
set_option maxHeartbeats 4000000 in
theorem change_ok (a : Option Addr) (len cap k : Nat) (w : World) (z : Nat → Op7) (hz : OpsAt w a len z) (hb : len * 24 ≤ 140737488351232) (hk : k < len) :
    Calls Try.prog 31 #[.slice a len cap, .int .i64 k] w fun e w' => ∃ ls en nx v, e = .returned (.tuple #[v, .agg #[.int .i64 en.kd, .int .i64 en.i, .int .u64 en.v], .int .i64 (nx : Nat)]) ∧ Chd w k len ls en nx v w' := by
  have HZ := hide hz
  clear hz
  go_enter Try.func31, Try.ntmps31
  go_wp2_with fail
  go_loopw [1, 7] (fun i l wr => ∃ (j : Nat) (ls : List Op7), k ≤ j ∧ j ≤ len ∧ i = .int .i64 j ∧ ls.length = j - k ∧ wr.ownsRow (w.heap.size + 1) 31 3 l ls.length (ocells ls) ∧ wr.heap[w.heap.size]? = some (.cells #[.int .i64 0, .int .i64 0, .int .u64 0] 31) ∧ Still w wr) (fun i l wr => len - (intOf i).toNat)
  case atStart =>
    exact ⟨k, [], by omega, by omega, rfl, by simp, World.ownsRow_nil _ _ _ _, heap_alloc_new w _, (Fr.refl _ w).alloc _⟩
  case round =>
    obtain ⟨j, ls, hj1, hj2, rfl, hll, row, ob, hf⟩ := hrel
    by_cases hlt : j < len
    · obtain ⟨xb, xo, rfl, q0, q1, q2⟩ := unhide HZ j hlt
      have c0 := hf.cell' q0 (fun x => x)
      have c1 := hf.cell' q1 (fun x => x)
      have c2 := hf.cell' q2 (fun x => x)
      generalize z j = zz at c0 c1 c2
      obtain ⟨kd, i0, v0⟩ := zz
      simp only [] at c0 c1 c2
      by_cases he : 1 ≤ kd ∧ kd ≤ 3
      · have s0 := cell_of_obj ob 0; have s1 := cell_of_obj ob 1; have s2 := cell_of_obj ob 2
        have y0 := frozen_of_obj ob 0; have y1 := frozen_of_obj ob 1; have y2 := frozen_of_obj ob 2
        obtain ⟨he1, he2⟩ := he
        have HR := hide row; have HO := hide ob; have HF := hide hf
        clear row ob hf q0 q1 q2
        go_wp2_with fail
        go_region
        obtain ⟨W2, hW2⟩ : ∃ W2, (((wr.setCell ⟨w.heap.size, 0, none⟩ (.int .i64 kd)).setCell ⟨w.heap.size, 1, none⟩ (.int .i64 i0)).setCell ⟨w.heap.size, 2, none⟩ (.int .u64 v0)).drew = W2 := ⟨_, rfl⟩
        have o3 : W2.heap[w.heap.size]? = some (.cells #[.int .i64 kd, .int .i64 i0, .int .u64 v0] 31) := by
          rw [← hW2]
          exact heap_setCell_same _ _ 2 _ _ _ (heap_setCell_same _ _ 1 _ _ _ (heap_setCell_same _ _ 0 _ _ _ (unhide HO)))
        have f3 : Fr (fun r => r = w.heap.size) wr W2 := hW2 ▸ ((((Fr.refl (fun r => r = w.heap.size) wr).setCell (.inl rfl) _).setCell (.inl rfl) _).setCell (.inl rfl) _).drew
        have t0 := cell_of_obj o3 0; have t1 := cell_of_obj o3 1; have t2 := cell_of_obj o3 2
        have HO3 := hide o3; have HF3 := hide f3
        rw [hW2]
        clear o3 f3 hW2 s0 s1 s2 y0 y1 y2 c0 c1 c2 HO
        go_wp2
        refine bodyPost_ret (v := .tuple #[u7, .agg #[.int .i64 kd, .int .i64 i0, .int .u64 v0], .int .i64 ((j : Int) + 1)]) (by simp [results, Try.results31, go_sem, loadVar, t0, t1, t2]) rfl ?_
        have row := unhide HR
        have f3 := unhide HF3
        refine ⟨ls, ⟨kd, i0, v0⟩, j + 1, u7, by simp, by omega, by omega, ?_, by omega, ⟨he1, he2⟩, (unhide HF).trans' f3 (fun r hr => .inr (by omega))⟩
        exact owns_mono (owns_same row (fun r hr => f3.block r (row.lt r hr).2 (by have := (row.lt r hr).1; omega))) (by omega)
      · have hi2 := info_op
        obtain ⟨t0, ht0⟩ : ∃ i, Try.prog.info? 31 = some i := by
          cases h : Try.prog.info? 31 with
          | none => rw [h] at hi2; simp at hi2
          | some i => exact ⟨i, rfl⟩
        rw [ht0] at hi2
        simp only [Option.map_some, Option.some.injEq, Prod.mk.injEq] at hi2
        have HI := hide (And.intro ht0 hi2)
        have HR := hide row; have HO := hide ob; have HF := hide hf; have HLL := hide hll
        have sz := hf.size
        have ltob := heap_lt ob
        clear row ob hf q0 q1 q2 ht0 hi2 hll
        rcases (show kd < 1 ∨ (1 ≤ kd ∧ 3 < kd) by omega) with hx | ⟨hx1, hx2⟩
        all_goals
          clear he
          go_wp2_with (first | (at_builtin; refine wpList_append_own_at _ rfl _ _ 22 rfl (w.heap.size + 1) 31 t0 (.agg #[.int .i64 0, .int .i64 0, .int .u64 0]) 3 24 Try.underlying22 (unhide HI).1 (unhide HI).2.1 (unhide HI).2.2.1 (unhide HI).2.2.2 rfl (by decide) _ ls.length (ocells ls) rfl ((unhide HR).alloc _) _ 1 1 [.int .i64 kd, .int .i64 i0, .int .u64 v0] rfl rfl (trip_news _ _ _ _ _) (by intro u hu; simp at hu; rcases hu with rfl | rfl | rfl <;> rfl) (by unfold maxLen; have := unhide HLL; omega) (by have := unhide HLL; omega) (by simp; omega) ?_) | fail)
          intro v' w6 hown hgrow hnil hloc
          have row := unhide HR
          have hll := unhide HLL
          have fr6 : Fr (fun r => some r = u7.ownBlock) wr w6 := ((Fr.refl (fun r => some r = u7.ownBlock) wr).alloc _).grown hgrow (fun r e => .inl e.symm)
          have ob6 := fr6.obj (unhide HO) (fun e => by have := (row.lt _ e.symm).1; omega)
          have f6 : Still w w6 := (unhide HF).trans' fr6 (fun r hr => .inr (by have := (row.lt r hr.symm).1; omega))
          have row6 : w6.ownsRow (w.heap.size + 1) 31 3 v' (ls ++ [(⟨kd, i0, v0⟩ : Op7)]).length (ocells (ls ++ [(⟨kd, i0, v0⟩ : Op7)])) := by
            rw [List.length_append, ocells_app]; exact hown
          have HX := hide (And.intro row6 (And.intro ob6 f6))
          have hl6 : (ls ++ [(⟨kd, i0, v0⟩ : Op7)]).length = j + 1 - k := by rw [List.length_append, hll]; simp; omega
          have HL6 := hide hl6
          clear row hll fr6 ob6 f6 row6 hown hgrow hnil hloc hl6 HR HO HF HLL c0 c1 c2 HI
          go_wp2
          obtain ⟨r1, r2, r3⟩ := unhide HX
          exact ⟨⟨j + 1, _, by omega, by omega, by go_num, unhide HL6, r1, r2, r3⟩, by simp [intOf]; omega⟩
    · have s0 := cell_of_obj ob 0; have s1 := cell_of_obj ob 1; have s2 := cell_of_obj ob 2
      have y0 := frozen_of_obj ob 0; have y1 := frozen_of_obj ob 1; have y2 := frozen_of_obj ob 2
      have hjl : j = len := by omega
      have HR := hide row; have HO := hide ob; have HF := hide hf; have HLL := hide hll; have HJL := hide hjl
      clear row ob hf hll hjl
      go_wp2_with fail
      obtain ⟨W2, hW2⟩ : ∃ W2, ((wr.setCell ⟨w.heap.size, 0, none⟩ (.int .i64 1)).setCell ⟨w.heap.size, 1, none⟩ (.int .i64 0)).setCell ⟨w.heap.size, 2, none⟩ (.int .u64 0) = W2 := ⟨_, rfl⟩
      have o3 : W2.heap[w.heap.size]? = some (.cells #[.int .i64 1, .int .i64 0, .int .u64 0] 31) := by
        rw [← hW2]
        exact heap_setCell_same _ _ 2 _ _ _ (heap_setCell_same _ _ 1 _ _ _ (heap_setCell_same _ _ 0 _ _ _ (unhide HO)))
      have f3 : Fr (fun r => r = w.heap.size) wr W2 := hW2 ▸ (((Fr.refl (fun r => r = w.heap.size) wr).setCell (.inl rfl) _).setCell (.inl rfl) _).setCell (.inl rfl) _
      have t0 := cell_of_obj o3 0; have t1 := cell_of_obj o3 1; have t2 := cell_of_obj o3 2
      rw [hW2]
      refine bodyPost_ret (v := .tuple #[u7, .agg #[.int .i64 1, .int .i64 0, .int .u64 0], .int .i64 (j : Int)]) (by simp [results, Try.results31, go_sem, loadVar, t0, t1, t2]) rfl ?_
      have row := unhide HR
      have hll := unhide HLL
      have hjl := unhide HJL
      refine ⟨ls, ⟨1, 0, 0⟩, j, u7, rfl, by omega, by omega, ?_, by omega, ⟨by show (1 : Int) ≤ 1; omega, by show (1 : Int) ≤ 3; omega⟩, (unhide HF).trans' f3 (fun r hr => .inr (by omega))⟩
      exact owns_mono (owns_same row (fun r hr => f3.block r (row.lt r hr).2 (by have := (row.lt r hr).1; omega))) (by omega)
end Go.Proofs.Ytamghkabclbkgaa
