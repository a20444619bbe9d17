/- slices.Sort and slices.Compact on a row of one's own: the same numbers stay. -/
import Derived.Test.YtdgobaknbjlahaaGreatDoorRdB
import Derived.Test.YtdgobaknbjlahaaGreatDoorShelf
import Derived.Sort.OwnSortedInts
namespace Go.Proofs.YtdgobaknbjlahaaGreatDoor
open Go.RowKit Go.Sort

theorem Fr.grow1 {w w' : World} {g : Nat} (h : w.grownBy w' (some g)) : Fr (fun j => j = g) w w' :=
  ⟨h.os, h.tape, h.output, h.size, fun k hk hn => h.block k hk (fun e => hn (by cases e; rfl))⟩

theorem sort_own (W : World) (base g cap : Nat) (zs : List Int) (hl : zs.length ≤ 65536) (h : W.ownsRow base 3 1 (.slice (some ⟨g, 0, none⟩) zs.length cap) zs.length (zs.map (Value.int .i64))) :
    Calls Tryz.prog 115 #[.slice (some ⟨g, 0, none⟩) zs.length cap] W fun e W' => e = .returned (.tuple #[]) ∧ ∃ ts : List Int, (∀ x, x ∈ ts ↔ x ∈ zs) ∧ ts.length = zs.length ∧ Fr (fun j => j = g) W W' ∧
      W'.ownsRow base 3 1 (.slice (some ⟨g, 0, none⟩) ts.length cap) ts.length (ts.map (Value.int .i64)) := by
  rcases h.2 with ⟨hn, _⟩ | ⟨g', cap', cur, hv, hbase, hb, h1, h2, h3, h4⟩
  · cases hn
  cases hv
  have hH := holds_of_blockI hb (by simpa using h4)
  refine (Tryz.slices_Sort_int g 0 cap zs W hH (Array.getElem?_eq_some_iff.1 hb).1 (by omega)).mono ?_
  rintro e W' ⟨rfl, n, os, rfl⟩
  have hlen : (zs.mergeSort fun x y => decide (x ≤ y)).length = zs.length := List.length_mergeSort _
  refine ⟨rfl, zs.mergeSort fun x y => decide (x ≤ y), fun x => List.mem_mergeSort, hlen, Fr.grow1 (grownBy_sortedI _), ?_⟩
  have := ownsRow_sortedI (n := n) (os := os) hlen hbase hb h1 h2 h3
  rw [hlen]
  exact this

theorem compact_own (W : World) (base g cap : Nat) (ts : List Int) (hl : ts.length ≤ 65536) (h : W.ownsRow base 3 1 (.slice (some ⟨g, 0, none⟩) ts.length cap) ts.length (ts.map (Value.int .i64))) :
    Calls Tryz.prog 116 #[.slice (some ⟨g, 0, none⟩) ts.length cap] W fun e W' => ∃ us : List Int, e = .returned (.slice (some ⟨g, 0, none⟩) us.length cap) ∧ (∀ x, x ∈ us ↔ x ∈ ts) ∧ us.length ≤ ts.length ∧ Fr (fun j => j = g) W W' ∧
      ∀ j x, us[j]? = some x → W'.cell? ⟨g, j, none⟩ = some (.int .i64 x) := by
  rcases h.2 with ⟨hn, _⟩ | ⟨g', cap', cur, hv, hbase, hb, h1, h2, h3, h4⟩
  · cases hn
  cases hv
  have hH := holds_of_blockI hb (by simpa using h4)
  refine (Tryz.slices_Compact_int g 0 cap ts W hH (by omega) h1).mono ?_
  rintro e W' ⟨rfl, q, rfl⟩
  have hlen : (Lib.compact ts).length ≤ ts.length := by
    unfold Lib.compact Lib.compactUpTo
    rw [List.length_map]
    exact Nat.le_trans (List.length_filter_le _ _) (by simp)
  refine ⟨Lib.compact ts, rfl, fun x => mem_compact ts, hlen, ?_, fun j x hx => ?_⟩
  · have := grownBy_sortedI (w := W) (g := g) (n := q) (os := #[]) (Lib.compact ts ++ List.replicate (ts.length - (Lib.compact ts).length) 0).toArray
    simp only [grow, Array.append_empty] at this
    exact Fr.grow1 this
  · have hj : j < (Lib.compact ts).length := (List.getElem?_eq_some_iff.1 hx).1
    have := cell?_putRow (Value.int .i64) (Sort.ahead W q) g 0 ts.toArray (Lib.compact ts ++ List.replicate (ts.length - (Lib.compact ts).length) 0).toArray hH (by simp; omega) j (by simp; omega)
    rw [Nat.zero_add] at this
    rw [this]
    have e1 : (Lib.compact ts ++ List.replicate (ts.length - (Lib.compact ts).length) 0).toArray[j]! = x := by
      rw [getElem!_pos _ j (by simp; omega)]
      simp only [List.getElem_toArray]
      rw [List.getElem_append_left hj]
      exact (List.getElem?_eq_some_iff.1 hx).2
    rw [e1]
end Go.Proofs.YtdgobaknbjlahaaGreatDoor
