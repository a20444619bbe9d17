/- Rows made and filled. -/
import Derived.Test.YtpidfndcihljmabYj
namespace Go.Proofs.Ytpidfndcihljmab
open Go.RowKit

/-- A row of n that is filled up to k. -/
def rowF (f : Nat → UInt8) (n k : Nat) : List UInt8 := (List.range n).map fun i => if i < k then f i else 0
theorem rowF_len (f : Nat → UInt8) (n k : Nat) : (rowF f n k).length = n := by simp [rowF]
theorem rowF_set (f : Nat → UInt8) (n k : Nat) : (rowF f n k).set k (f k) = rowF f n (k + 1) := by
  apply List.ext_getElem
  · simp [rowF]
  · intro i h1 h2
    have hi : i < n := by simpa [rowF] using h2
    rw [List.getElem_set]
    by_cases h : k = i
    · subst h; simp [rowF]
    · rw [if_neg h]
      simp only [rowF, List.getElem_map, List.getElem_range]
      by_cases h3 : i < k
      · rw [if_pos h3, if_pos (by omega)]
      · rw [if_neg h3, if_neg (by omega)]
theorem rowF_zero (f : Nat → UInt8) (n : Nat) : rowF f n 0 = List.replicate n 0 := by
  apply List.ext_getElem
  · simp [rowF]
  · intro i h1 h2; simp [rowF]
theorem rowF_full (f : Nat → UInt8) (n k : Nat) (h : n ≤ k) : rowF f n k = (List.range n).map f := by
  unfold rowF
  refine List.map_congr_left fun i hi => ?_
  have : i < n := by simpa using hi
  rw [if_pos (by omega)]
/-- A row of noughts. -/
theorem make_ok (n : Nat) (hn : n ≤ 1000000) (w : World) : ∃ w', (Instr.makeSlice 25 (.int .i64 (n : Int)) (.int .i64 (n : Int))).run Try.prog w = .ok (.slice (some ⟨w.heap.size, 0, none⟩) n n) w' ∧ Own w' w.heap.size (.slice (some ⟨w.heap.size, 0, none⟩) n n) (List.replicate n 0) ∧ Still w w' ∧ w.heap.size < w'.heap.size := by
  refine ⟨_, run_make_row' 25 5 (.int .u8 0) 1 Try.underlying25 infoB rfl .i64 .i64 n (by omega) (by omega) w, ⟨by simp, .inr ⟨w.heap.size, n, (madeCells #[.int .u8 0] n), by simp, Nat.le_refl _, heap_alloc_new w _, by simp, by unfold maxLen; omega, by simp [madeCells], by
    apply List.ext_getElem
    · simp [madeCells]
    · intro i h1 h2; simp [madeCells, Nat.mod_one]⟩⟩, (Fr.refl _ w).alloc _, by simp⟩
/-- A row of one's own in a known block. -/
theorem Own.at {w : World} {base b n cap : Nat} {l : List UInt8} (h : Own w base (.slice (some ⟨b, 0, none⟩) n cap) l) : n = l.length ∧ n ≤ cap ∧ base ≤ b ∧ b < w.heap.size ∧ (∀ i, i < n → w.cell? ⟨b, i, none⟩ = some (bv (l.getD i 0))) ∧ ∀ i, w.frozen? ⟨b, i, none⟩ = false := by
  rcases h.form with ⟨hv, _⟩ | ⟨g', cap', hv, h1, h2, h3, h4, h5⟩
  · cases hv
  · injection hv with hv1 hv2 hv3
    injection hv1 with hv1
    injection hv1 with hv1
    subst hv1 hv2 hv3
    exact ⟨rfl, h1, h2, h3, h4, h5⟩
theorem Own.slAt {w : World} {base b n cap : Nat} {l : List UInt8} (h : Own w base (.slice (some ⟨b, 0, none⟩) n cap) l) : Sl w (some ⟨b, 0, none⟩) n cap l := by
  obtain ⟨h1, h2, _, _, h5, _⟩ := h.at
  exact ⟨h1, h2, fun i hi => ⟨b, 0, rfl, by rw [Nat.zero_add]; exact h5 i (by omega)⟩, (fun e => by cases e), fun x e _ => by cases e; exact ⟨_, _, rfl⟩⟩
/-- One more is filled. -/
theorem Own.fill {w0 wr : World} {base b n k : Nat} {f : Nat → UInt8} (h : Own wr base (.slice (some ⟨b, 0, none⟩) n n) (rowF f n k)) (r : Fr (fun j => j = b) w0 wr) (y : Value) (hy : y = bv (f k)) :
    Own (wr.setCell ⟨b, k, none⟩ y) base (.slice (some ⟨b, 0, none⟩) n n) (rowF f n (k + 1)) ∧ Fr (fun j => j = b) w0 (wr.setCell ⟨b, k, none⟩ y) := by
  subst hy
  refine ⟨?_, r.setCell (.inl rfl) _⟩
  have := h.set k (f k)
  rwa [rowF_set] at this
/-- A row of one's own, as a slice that is read. -/
theorem Own.sl2 {w : World} {base : Nat} {v : Value} {l : List UInt8} (h : Own w base v l) : ∃ a cap, v = .slice a l.length cap ∧ Sl w a l.length cap l ∧ (∀ x, a = some x → base ≤ x.block ∧ x.block < w.heap.size) ∧ ∀ x, a = some x → ∃ b o, x = ⟨b, o, none⟩ := by
  obtain ⟨a, cap, h1, h2, h3, h4, h5, h6⟩ := h.rd
  refine ⟨a, cap, h1, ⟨rfl, h2, h3, fun e => (h5 e).1, fun x e _ => h6 x e⟩, fun x e => ?_, h6⟩
  obtain ⟨b, o, rfl⟩ := h6 x e
  exact ⟨(h4 b o e).1, (h4 b o e).2.1⟩
end Go.Proofs.Ytpidfndcihljmab
