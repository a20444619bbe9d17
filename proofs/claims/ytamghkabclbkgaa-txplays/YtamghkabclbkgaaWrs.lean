/- Rows of writes. -/
import Derived.Test.YtamghkabclbkgaaHome
import Derived.Test.YtamghkabclbkgaaIn
namespace Go.Proofs.Ytamghkabclbkgaa
open Go.RowKit

/-- A row of writes of one's own. -/
def wcells (xs : List (Int × Int)) : List Value := xs.flatMap fun x => [.int .i64 x.1, u64 x.2]
theorem wcells_len (xs : List (Int × Int)) : (wcells xs).length = xs.length * 2 := by
  induction xs with
  | nil => rfl
  | cons x xs ih => simp only [wcells, List.flatMap_cons, List.length_append, List.length_cons, List.length_nil] at ih ⊢; omega
theorem wcells_app (xs ys : List (Int × Int)) : wcells (xs ++ ys) = wcells xs ++ wcells ys := by simp [wcells]
theorem wcells_at (xs : List (Int × Int)) : ∀ k x, xs[k]? = some x → (wcells xs)[k * 2]? = some (.int .i64 x.1) ∧ (wcells xs)[k * 2 + 1]? = some (u64 x.2) := by
  induction xs with
  | nil => intro k x h; simp at h
  | cons y xs ih =>
    intro k x h
    have e : wcells (y :: xs) = .int .i64 y.1 :: u64 y.2 :: wcells xs := by simp [wcells]
    cases k with
    | zero =>
      obtain rfl : y = x := by simpa using h
      rw [e]; exact ⟨rfl, rfl⟩
    | succ k =>
      have := ih k x (by simpa using h)
      rw [e, show (k + 1) * 2 = k * 2 + 1 + 1 by omega, show k * 2 + 1 + 1 + 1 = (k * 2 + 1) + 1 + 1 by omega]
      simpa using this

/-- A row of writes that is owned is a row of writes in memory. -/
theorem owns_wr {w : World} {base g n cap : Nat} {xs : List (Int × Int)} (h : w.ownsRow base 67 2 (.slice (some ⟨g, 0, none⟩) n cap) xs.length (wcells xs)) : WrAt w g 0 xs := by
  rcases h.2 with ⟨hn, _⟩ | ⟨g', cap', cur, hv, _, hb, _, _, _, h4⟩
  · cases hn
  cases hv
  intro k x hx
  obtain ⟨c1, c2⟩ := wcells_at xs k x hx
  have hk : k < xs.length := (List.getElem?_eq_some_iff.1 hx).1
  have get : ∀ j v, j < xs.length * 2 → (wcells xs)[j]? = some v → cur[j]? = some v := fun j v hj hv => by
    rw [← h4, List.getElem?_take_of_lt hj] at hv
    rwa [Array.getElem?_toList] at hv
  rw [Nat.zero_add]
  exact ⟨(cell_of_row _ _ _ _ _ _ hb).trans (get _ _ (by omega) c1), (cell_of_row _ _ _ _ _ _ hb).trans (get _ _ (by omega) c2)⟩

theorem pair_news (w : World) (x y : Int) (t : TypeId) (j : Nat) (u : Value) (h : ([.int .i64 x, u64 y] : List Value)[j]? = some u) : (w.alloc (.cells #[.int .i64 x, u64 y] t)).cell? ((⟨w.heap.size, 0, none⟩ : Addr).add j) = some u := by
  have hadd : (⟨w.heap.size, 0, none⟩ : Addr).add j = ⟨w.heap.size, j, none⟩ := by unfold Addr.add; split <;> simp_all
  rw [hadd, cell_of_row _ _ _ _ _ _ (heap_alloc_new w _)]
  simpa using h

/-- Blocks turn that are none of the device's, all of them new since w0. -/
theorem On.turn {w0 w w' : World} {b : Nat} {L0 L : Lay} {A : Ab} (h : On w0 b L0 w L A) {F : Nat → Prop} (hf : Fr F w w') (h1 : ∀ k, F k → ¬ foot b L k) (h2 : ∀ k, F k → w0.heap.size ≤ k) : On w0 b L0 w' L A :=
  ⟨h.d.kept hf (fun k hk e => h1 k e hk), h.fr.trans' hf (fun k e => .inr (h2 k e)), h.sub⟩
/-- A row of another's stays none of the device's. -/
theorem On.apart {w0 w : World} {b : Nat} {L0 L : Lay} {A : Ab} (h : On w0 b L0 w L A) {r : Nat} (hr : r < w0.heap.size) (hn : ¬ foot b L0 r) : ¬ foot b L r := h.other hr hn

theorem info_wr : (Try.prog.info? 67).map (fun i => (i.zero, i.size, i.bytes)) = some (some (.agg #[.int .i64 0, .int .u64 0]), 2, 16) := by kernel_rfl
end Go.Proofs.Ytamghkabclbkgaa
