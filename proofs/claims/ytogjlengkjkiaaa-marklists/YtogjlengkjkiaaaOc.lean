/- Once and Count. -/
import Derived.Test.YtogjlengkjkiaaaPs
namespace Go.Proofs.Ytogjlengkjkiaaa
open Go.RowKit

theorem compact_own (W : World) (base : Nat) (v : Value) (ts : List Int) (hl : ts.length ≤ 65536) (h : Own W base v ts) :
    Calls Try.prog 28 #[v] W fun e W' => ∃ v', e = .returned v' ∧ Own W' base v' (Lib.compact ts) ∧ Fr (fun j => v.ownBlock = some j) W W' := by
  rcases h.2 with ⟨hn, h0⟩ | ⟨g, cap, cur, hv, hbase, hb, h1, h2, h3, h4⟩
  · subst hn
    obtain rfl : ts = [] := List.eq_nil_of_length_eq_zero h0
    have HO := hide h
    clear h
    go_enter Try.func28, Try.ntmps28
    go_wp2
    go_ret
    exact ⟨_, rfl, by simpa [Lib.compact, Lib.compactUpTo] using unhide HO, Fr.refl _ _⟩
  · subst hv
    have hH := holds_of_blockI hb (by simpa using h4)
    refine (Try.slices_Compact_int g 0 cap ts W hH (by omega) h1).mono ?_
    rintro e W' ⟨rfl, q, rfl⟩
    have hlen : (Lib.compact ts).length ≤ ts.length := by
      unfold Lib.compact Lib.compactUpTo
      rw [List.length_map]
      exact Nat.le_trans (List.length_filter_le _ _) (by simp)
    have hz : (Lib.compact ts ++ List.replicate (ts.length - (Lib.compact ts).length) 0).length = ts.length := by simp; omega
    have r := ownsRow_sortedI (n := q) (os := #[]) hz hbase hb h1 h2 h3
    have fg := grownBy_sortedI (w := W) (g := g) (n := q) (os := #[]) (Lib.compact ts ++ List.replicate (ts.length - (Lib.compact ts).length) 0).toArray
    simp only [Sort.grow, Array.append_empty] at r fg
    refine ⟨_, rfl, ?_, (Fr.grow1 fg).mono (fun k e => .inl (by rw [e]; rfl))⟩
    have o : Own (Sort.putRow (Value.int .i64) (Sort.ahead W q) g 0 (Lib.compact ts ++ List.replicate (ts.length - (Lib.compact ts).length) 0).toArray) base (.slice (some ⟨g, 0, none⟩) ts.length cap) (Lib.compact ts ++ List.replicate (ts.length - (Lib.compact ts).length) 0) := by
      unfold Own
      rw [hz]; exact r
    have := o.take (Lib.compact ts).length (by simp)
    simpa using this
theorem once_ok (a : Option Addr) (n c : Nat) (zs : List Int) (w : World) (hn : n = zs.length) (hl : n ≤ 1000) (hr : Rd w a zs) :
    Calls Try.prog 18 #[.slice a n c] w fun e w' => ∃ v, e = .returned (.tuple #[v, .bool (decide ((asc zs).length = n))]) ∧ Own w' w.heap.size v (asc zs) ∧ Still w w' := by
  have MS := msorted_ok n c a zs w hn hl hr
  have HZ := hide (show (srt zs).length ≤ 65536 by rw [srt_len]; omega)
  clear hr hn
  go_enter Try.func18, Try.ntmps18
  go_wp2_with fail
  refine MS.mono ?_
  rintro e w1 ⟨v1, rfl, o1, f1⟩
  have CO := compact_own w1 _ _ (srt zs) (unhide HZ) o1
  have H1 := hide (And.intro o1 f1)
  clear MS o1 f1
  go_wp2_with fail
  refine CO.mono ?_
  rintro e w2 ⟨v2, rfl, o2, f2⟩
  obtain ⟨sa, sc, rfl⟩ := rows_form o2
  have H2 := hide (And.intro o2 f2)
  clear CO o2 f2
  have e : Lib.compact (srt zs) = asc zs := rfl
  rw [e] at H2 ⊢
  generalize hA : (asc zs).length = al at *
  have HA := hide hA
  clear hA e
  by_cases hq : al = n
  · have hq' : ((al : Int) == n) = true := by simp [hq]
    have hd : decide (al = n) = true := by simp [hq]
    have HD := hide hd
    clear hq hd
    go_wp2
    go_ret2
    exact ⟨_, by rw [unhide HA, unhide HD]; rfl, (unhide H2).1, (unhide H1).2.trans' (unhide H2).2 (fun j hj => .inr ((unhide H1).1.lt j hj).1)⟩
  · have hq' : ((al : Int) == n) = false := by simp; omega
    have hd : decide (al = n) = false := by simp [hq]
    have HD := hide hd
    clear hq hd
    go_wp2
    go_ret2
    exact ⟨_, by rw [unhide HA, unhide HD]; rfl, (unhide H2).1, (unhide H1).2.trans' (unhide H2).2 (fun j hj => .inr ((unhide H1).1.lt j hj).1)⟩

theorem bump_last (L : List Int) (c : Int) : (L ++ [c]).set L.length ((L ++ [c]).getD L.length 0 + 1) = L ++ [c + 1] := by
  rw [List.getD_eq_getElem?_getD, List.getElem?_append_right (by simp), List.set_append_right _ _ (by simp)]
  simp
/-- How often each number is there, of the first k of a rising list. -/
def cz (s : List Int) : Nat → List Int
  | 0 => []
  | k + 1 =>
    let c := if k = 0 ∨ s.getD k 0 ≠ s.getD (k - 1) 0 then cz s k ++ [0] else cz s k
    c.set (c.length - 1) (c.getD (c.length - 1) 0 + 1)
theorem cz_pos (s : List Int) : ∀ k, 0 < k → 0 < (cz s k).length
  | 0, h => by omega
  | k + 1, _ => by
    show 0 < ((if k = 0 ∨ s.getD k 0 ≠ s.getD (k - 1) 0 then cz s k ++ [0] else cz s k).set _ _).length
    rw [List.length_set]
    split
    · simp
    · rename_i h
      exact cz_pos s k (by omega)
theorem cz_len (s : List Int) : ∀ k, (cz s k).length ≤ k
  | 0 => by simp [cz]
  | k + 1 => by
    show ((if k = 0 ∨ s.getD k 0 ≠ s.getD (k - 1) 0 then cz s k ++ [0] else cz s k).set _ _).length ≤ _
    rw [List.length_set]
    have := cz_len s k
    split
    · simp; omega
    · omega
/-- The same, told by each unlike number. -/
theorem cz_is (s : List Int) (h : s.Pairwise (· ≤ ·)) : ∀ k, k ≤ s.length → cz s k = (Lib.compactUpTo s.toArray k).map (fun x => ((s.take k).count x : Int)) ∧ (0 < k → ∃ p, Lib.compactUpTo s.toArray k = p ++ [s.getD (k - 1) 0] ∧ ∀ x ∈ p, x < s.getD (k - 1) 0)
  | 0, _ => by simp [cz, Lib.compactUpTo]
  | k + 1, hk => by
    obtain ⟨h1, h2⟩ := cz_is s h k (by omega)
    have hs : s.toArray.toList.Pairwise (· ≤ ·) := by simpa using h
    have g : ∀ j, j < s.length → s.toArray[j]! = s.getD j 0 := fun j hj => by
      rw [getElem!_pos _ j (by simpa using hj)]; simp [hj]
    have tk := take_one s (show k < s.length by omega)
    have hcnt : ∀ x, ((s.take (k + 1)).count x : Int) = (s.take k).count x + if s.getD k 0 = x then 1 else 0 := fun x => by
      rw [tk, List.count_append]
      by_cases e : s.getD k 0 = x
      · rw [if_pos e]; simp only [List.count_singleton, e]; simp
      · rw [if_neg e]; simp only [List.count_singleton, beq_iff_eq]; rw [if_neg e]; simp
    rw [Lib.compactUpTo_succ]
    by_cases hkp : k = 0 ∨ s.getD k 0 ≠ s.getD (k - 1) 0
    · have hkeep : Lib.keeps s.toArray k = true := by
        rcases hkp with rfl | e
        · exact Lib.keeps_lt_one _ 0 (by omega)
        · rcases Nat.eq_zero_or_pos k with rfl | h0
          · exact Lib.keeps_lt_one _ 0 (by omega)
          · exact Lib.keeps_pos (by rw [g k (by omega), g (k - 1) (by omega)]; exact e)
      have hlt : ∀ x ∈ Lib.compactUpTo s.toArray k, x < s.getD k 0 := fun x hx => by
        obtain ⟨h0, h3, _⟩ := (upto_rise hs k (by simp; omega)).2 x hx
        have := keeps_lt hs (by simp; omega) h0 hkeep
        rw [g k (by omega), g (k - 1) (by omega)] at this
        rw [g (k - 1) (by omega)] at h3
        omega
      have hno : (s.take k).count (s.getD k 0) = 0 := by
        rw [List.count_eq_zero]
        intro hm
        obtain ⟨j, hj, e⟩ := List.mem_iff_getElem.1 hm
        simp at hj
        have h3 := upto_mem hs k (by simp; omega) j (by omega)
        rw [g j (by omega)] at h3
        have h4 := hlt _ h3
        have e2 : s.getD j 0 = s.getD k 0 := by rw [← e]; simp [show j < s.length by omega]
        omega
      simp only [hkeep, if_true]
      refine ⟨?_, fun _ => ⟨_, by rw [g k (by omega)]; rfl, fun x hx => hlt x hx⟩⟩
      show ((if k = 0 ∨ s.getD k 0 ≠ s.getD (k - 1) 0 then cz s k ++ [0] else cz s k).set _ _) = _
      rw [if_pos hkp, h1, g k (by omega)]
      simp only [List.length_append, List.length_map, List.length_singleton, Nat.add_sub_cancel]
      rw [List.map_append, List.getD_eq_getElem?_getD, List.getElem?_append_right (by simp), List.set_append_right _ _ (by simp)]
      simp only [List.length_map, Nat.sub_self, List.getElem?_cons_zero, Option.getD_some, List.set_cons_zero, List.map_cons, List.map_nil]
      congr 1
      · refine List.map_congr_left fun x hx => ?_
        rw [hcnt, if_neg (by have := hlt x hx; omega)]; omega
      · rw [hcnt, if_pos rfl, hno]; rfl
    · have h0 : 0 < k := by omega
      have e0 : s.getD k 0 = s.getD (k - 1) 0 := by
        by_cases e : s.getD k 0 = s.getD (k - 1) 0
        · exact e
        · exact absurd (.inr e) hkp
      have hkeep : Lib.keeps s.toArray k = false := Lib.keeps_neg h0 (by rw [g k (by omega), g (k - 1) (by omega)]; exact e0)
      obtain ⟨p, hp, hpl⟩ := h2 h0
      simp only [hkeep]
      refine ⟨?_, fun _ => ⟨p, by simp only [Bool.false_eq_true, if_false, List.append_nil, Nat.add_sub_cancel]; rw [e0]; exact hp, fun x hx => by simp only [Nat.add_sub_cancel]; rw [e0]; exact hpl x hx⟩⟩
      show ((if k = 0 ∨ s.getD k 0 ≠ s.getD (k - 1) 0 then cz s k ++ [0] else cz s k).set _ _) = _
      rw [if_neg hkp, h1, hp]
      generalize s.getD (k - 1) 0 = z at *
      have hb := bump_last (p.map fun x => ((s.take k).count x : Int)) ((s.take k).count z : Int)
      rw [List.length_map] at hb
      simp only [Bool.false_eq_true, if_false, List.append_nil, List.map_append, List.map_cons, List.map_nil, List.length_append, List.length_map, List.length_singleton, Nat.add_sub_cancel]
      rw [hb]
      congr 1
      · refine List.map_congr_left fun x hx => ?_
        rw [hcnt, if_neg (by have := hpl x hx; omega)]; omega
      · rw [hcnt, if_pos e0]
theorem cz_all (l : List Int) : cz (srt l) (srt l).length = (asc l).map (fun x => (l.count x : Int)) := by
  rw [(cz_is (srt l) (srt_le l) _ (Nat.le_refl _)).1, List.take_of_length_le (Nat.le_refl _)]
  have : Lib.compactUpTo (srt l).toArray (srt l).length = asc l := rfl
  rw [this]
  exact List.map_congr_left fun x _ => by rw [(srt_perm l).count_eq]
end Go.Proofs.Ytogjlengkjkiaaa
