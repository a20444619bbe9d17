/- The queue: add, leastOf, takeLeast. -/
import Derived.Test.YtkdehhmmcchgfaaHp
import Derived.Test.YtkdehhmmcchgfaaRng
namespace Go.Proofs.Ytkdehhmmcchgfaa
open Go.RowKit

theorem setCell0 {w : World} {k : Nat} {v : Value} {t : TypeId} (h : w.heap[k]? = some (.cells #[v] t (0, 0))) (u : Value) : (w.setCell ⟨k, 0, none⟩ u).heap[k]? = some (.cells #[u] t (0, 0)) := by
  simp [World.setCell, Array.getElem?_modify, h]
/-- A row in its block: what it holds, from W on. -/
structure Dat (W : World) (base g cap : Nat) (l : List Int) (wr : World) : Prop where
  own : Own wr base (.slice (some ⟨g, 0, none⟩) l.length cap) l
  fr : Fr (fun j => j = g) W wr
theorem Dat.cell {W wr : World} {base g cap : Nat} {l : List Int} (h : Dat W base g cap l wr) (i : Nat) (hi : i < l.length) : wr.cell? ⟨g, i, none⟩ = some (iv (l.getD i 0)) := by
  rcases h.own.form with ⟨hv, _⟩ | ⟨g', cap', hv, _, _, _, hc, _⟩
  · cases hv
  · injection hv with hv1 hv2 hv3
    injection hv1 with hv1
    injection hv1 with hv1
    subst hv1
    exact hc i hi
theorem Dat.fz {W wr : World} {base g cap : Nat} {l : List Int} (h : Dat W base g cap l wr) (i : Nat) : wr.frozen? ⟨g, i, none⟩ = false := by
  rcases h.own.form with ⟨hv, _⟩ | ⟨g', cap', hv, _, _, _, _, hz⟩
  · cases hv
  · injection hv with hv1 hv2 hv3
    injection hv1 with hv1
    injection hv1 with hv1
    subst hv1
    exact hz i
theorem Dat.cap {W wr : World} {base g cap : Nat} {l : List Int} (h : Dat W base g cap l wr) : l.length ≤ cap := by
  rcases h.own.form with ⟨hv, _⟩ | ⟨g', cap', hv, hc, _⟩
  · cases hv
  · injection hv with hv1 hv2 hv3
    omega
theorem Dat.drewN {W wr : World} {base g cap : Nat} {l : List Int} (h : Dat W base g cap l wr) (n : Nat) : Dat W base g cap l (wr.drewN n) := ⟨h.own.still (F := fun _ => False) ((Fr.refl _ wr).drewN n) (fun _ _ x => x), h.fr.drewN n⟩
theorem Dat.swap {W wr : World} {base g cap : Nat} {l : List Int} (h : Dat W base g cap l wr) (i j : Nat) : Dat W base g cap (sw l i j) ((wr.setCell ⟨g, i, none⟩ (iv (l.getD j 0))).setCell ⟨g, j, none⟩ (iv (l.getD i 0))) := by
  have h1 := (h.own.set i (l.getD j 0)).set j (l.getD i 0)
  refine ⟨?_, (h.fr.setCell (.inl rfl) _).setCell (.inl rfl) _⟩
  rw [sw_len]
  exact h1
theorem Dat.to {W W' wr : World} {base g cap : Nat} {l : List Int} (h : Dat W' base g cap l wr) (f : Fr (fun j => j = g) W W') : Dat W base g cap l wr := ⟨h.own, f.trans h.fr⟩

/-- The least of those ahead of j. -/
def Lsu (l : List Int) (i j m : Nat) : Prop := (m = i ∨ (m = 2 * i + 1 ∧ 2 * i + 1 < j) ∨ (m = 2 * i + 2 ∧ 2 * i + 2 < j)) ∧ (m = i ∨ m < l.length) ∧ l.getD m 0 ≤ l.getD i 0 ∧ (2 * i + 1 < l.length → 2 * i + 1 < j → l.getD m 0 ≤ l.getD (2 * i + 1) 0) ∧ (2 * i + 2 < l.length → 2 * i + 2 < j → l.getD m 0 ≤ l.getD (2 * i + 2) 0)
theorem Lsu.start (l : List Int) (i : Nat) : Lsu l i (2 * i + 1) i := ⟨.inl rfl, .inl rfl, Int.le_refl _, fun _ h => by omega, fun _ h => by omega⟩
theorem Lsu.done {l : List Int} {i j m : Nat} (h : Lsu l i j m) (hj : 2 * i + 2 < j ∨ l.length ≤ j) (h1 : 2 * i + 1 ≤ j) : Lst l i m := by
  obtain ⟨a, b, c, d, e⟩ := h
  exact ⟨by omega, b, c, fun x => d x (by omega), fun x => e x (by omega)⟩
theorem Lsu.less {l : List Int} {i j m : Nat} (h : Lsu l i j m) (h1 : 2 * i + 1 ≤ j) (h2 : j ≤ 2 * i + 2) (hj : j < l.length) (hlt : l.getD j 0 < l.getD m 0) : Lsu l i (j + 1) j := by
  obtain ⟨a, b, c, d, e⟩ := h
  refine ⟨by omega, .inr hj, by omega, fun x y => ?_, fun x y => ?_⟩
  · rcases (show j = 2 * i + 1 ∨ j = 2 * i + 2 by omega) with rfl | rfl
    · exact Int.le_refl _
    · have := d x (by omega); omega
  · rcases (show j = 2 * i + 1 ∨ j = 2 * i + 2 by omega) with rfl | rfl
    · omega
    · exact Int.le_refl _
theorem Lsu.more {l : List Int} {i j m : Nat} (h : Lsu l i j m) (h1 : 2 * i + 1 ≤ j) (h2 : j ≤ 2 * i + 2) (hlt : ¬ l.getD j 0 < l.getD m 0) : Lsu l i (j + 1) m := by
  obtain ⟨a, b, c, d, e⟩ := h
  refine ⟨by omega, b, c, fun x y => ?_, fun x y => ?_⟩
  · rcases (show j = 2 * i + 1 ∨ j = 2 * i + 2 by omega) with rfl | rfl
    · omega
    · exact d x (by omega)
  · rcases (show j = 2 * i + 1 ∨ j = 2 * i + 2 by omega) with rfl | rfl
    · omega
    · omega

set_option maxRecDepth 100000 in
set_option maxHeartbeats 2000000 in
/-- Where the least of the one at i and its two stands. -/
theorem least_ok (W w : World) (base g cap : Nat) (l : List Int) (i n : Nat) (h : Dat W base g cap l w) (hn : n = l.length) (hi : i ≤ n) (hl : n ≤ 1000) :
    Calls Try.prog 30 #[.slice (some ⟨g, 0, none⟩) n cap, iv i] w fun e w' => ∃ m : Nat, e = .returned (iv m) ∧ Lst l i m ∧ ∃ q, w' = w.drewN q := by
  have H := hide h
  have HN := hide hn
  clear hn h
  go_enter Try.func30, Try.ntmps30
  have w1 : wrap64 (2 * (i : Int)) = 2 * i := by unfold wrap64; omega
  have w2 : wrap64 (2 * (i : Int) + 1) = 2 * i + 1 := by unfold wrap64; omega
  have w3 : wrap64 (2 * (i : Int) + 2) = 2 * i + 2 := by unfold wrap64; omega
  go_wp2
  go_loopw [5, 6] (fun vm vj wr => ∃ m j q : Nat, vm = iv m ∧ vj = iv j ∧ wr = w.drewN q ∧ Hid (2 * i + 1 ≤ j ∧ j ≤ 2 * i + 3 ∧ Lsu l i j m)) (fun vm vj wr => 2 * i + 3 - (RowKit.intOf vj).toNat)
  case atStart => exact ⟨i, 2 * i + 1, 0, rfl, by go_num, rfl, hide ⟨Nat.le_refl _, by omega, Lsu.start l i⟩⟩
  case round =>
    obtain ⟨m, j, q, rfl, rfl, rfl, HI⟩ := hrel
    have hI := unhide HI
    have j1 := hI.1
    have j2 := hI.2.1
    by_cases hc : j ≤ 2 * i + 2
    · have hc' : ((j : Int) ≤ 2 * i + 2) := by omega
      by_cases hlt : j < n
      · have hlt' : (j : Int) < n := by omega
        have hjl : j < l.length := by have := unhide HN; omega
        have hml : m < l.length := by have := hI.2.2.1; have := hI.2.2.2.1; omega
        have cj0 := (unhide H).cell j hjl
        have cm0 := (unhide H).cell m hml
        have cj : ∀ n, (w.drewN n).cell? ⟨g, j, none⟩ = some (.int .i64 (l.getD j 0)) := fun _ => cj0
        have cm : ∀ n, (w.drewN n).cell? ⟨g, m, none⟩ = some (.int .i64 (l.getD m 0)) := fun _ => cm0
        have hjn : m < n := by have := unhide HN; omega
        have hjn' : (m : Int) < n := by omega
        have HJL := hide hjl
        clear cj0 cm0 hml hI hjl
        by_cases hx : l.getD j 0 < l.getD m 0
        · have HS := hide ((unhide HI).2.2.less j1 hc (unhide HJL) hx)
          have hx' : decide (l.getD j 0 < l.getD m 0) = true := by simp only [hx, decide_true]
          clear hx
          generalize l.getD j 0 = x at *
          generalize l.getD m 0 = y at *
          go_wp2_with fail
          go_quiet (fail)
          rw [drew_add]
          go_wp2
          exact ⟨⟨j, j + 1, _, rfl, by go_num, rfl, hide ⟨by omega, by omega, unhide HS⟩⟩, by simp [RowKit.intOf]; omega⟩
        · have HS := hide ((unhide HI).2.2.more j1 hc hx)
          have hx' : decide (l.getD j 0 < l.getD m 0) = false := by simp only [hx, decide_false]
          clear hx
          generalize l.getD j 0 = x at *
          generalize l.getD m 0 = y at *
          go_wp2_with fail
          go_quiet (fail)
          rw [drew_add]
          go_wp2
          exact ⟨⟨m, j + 1, _, rfl, by go_num, rfl, hide ⟨by omega, by omega, unhide HS⟩⟩, by simp [RowKit.intOf]; omega⟩
      · have hlt' : ¬ (j : Int) < n := by omega
        have HD := hide (hI.2.2.done (.inr (by have := unhide HN; omega)) j1)
        clear hI
        go_wp2
        go_ret
        exact ⟨m, rfl, unhide HD, q, rfl⟩
    · have hc' : ¬ ((j : Int) ≤ 2 * i + 2) := by omega
      have HD := hide (hI.2.2.done (.inl (by omega)) j1)
      clear hI
      go_wp2
      go_ret
      exact ⟨m, rfl, unhide HD, q, rfl⟩
end Go.Proofs.Ytkdehhmmcchgfaa
