/- slices.Values and slices.Sorted of it; slices.Sorted of a map's keys. -/
import Derived.Test.YtkdehhmmcchgfaaRng
import Derived.Test.YtkdehhmmcchgfaaBc
import Derived.Test.YtkdehhmmcchgfaaShelf
import Derived.Test.YtkdehhmmcchgfaaIter
import Derived.Shelf.Slices.In.SortNone
import Derived.Sort.OwnSortedInts
namespace Go.Proofs.Ytkdehhmmcchgfaa
open Go.RowKit
attribute [local go_sem] Oper.semAt_some

theorem values_ok (a : Option Addr) (n c : Nat) (w : World) : Calls Try.prog 34 #[.slice a n c] w fun e w' => e = .returned (.func (.func 38) #[] #[.pointer (some ⟨w.heap.size, 0, none⟩)]) ∧ w' = w.alloc (.cells #[.slice a n c] 22) := by
  go_enter Try.func34, Try.ntmps34
  go_wp2
  go_ret
  exact ⟨rfl, rfl⟩

set_option maxRecDepth 100000 in
set_option maxHeartbeats 1000000 in
/-- What Values gives. -/
theorem vals_ok (bl l n c : Nat) (a : Option Addr) (zs : List Int) (J : Nat → World → Prop) (hn : n = zs.length) (hl : n ≤ 1000) (hJ : ∀ k W, J k W → W.cell? ⟨bl, 0, none⟩ = some (.slice a n c) ∧ Rd W a zs) :
    IterA 0 Try.prog 38 #[.pointer (some ⟨bl, 0, none⟩)] (fun k => #[iv (zs.getD k 0)]) n l J := by
  intro J' Jx Jp hJJ hdr hY W h0
  have hwd : Fence.wide.depth = none := rfl
  have hwf : ∀ f, Fence.wide.fn f := fun _ => trivial
  have hr0 := hJ 0 W (hJJ 0 W h0)
  have cl := hr0.1
  have HJ := @hide _ hJ; have HJJ := @hide _ hJJ; have HD := @hide _ hdr; have HY := @hide _ hY; have H0 := hide h0; have HN := hide hn
  clear hJ hJJ hdr hY h0 hr0 hn
  refine callsIn_of_wp Try.func38 rfl trivial ?_ rfl
  simp only [Try.ntmps38, List.size_toArray, List.length_cons, List.length_nil, Nat.reduceAdd, Nat.reduceSub, Array.replicate_succ, Array.replicate_zero, List.push_toArray, List.append_toArray, List.nil_append, List.cons_append]
  gi_wp2
  gi_loopw [7] (fun i wr => ∃ k : Nat, k ≤ n ∧ i = .int .i64 k ∧ J' k wr) (fun i wr => n - (RowKit.intOf i).toNat)
  case atStart => exact ⟨0, Nat.zero_le _, rfl, unhide H0⟩
  case round =>
    obtain ⟨k, hk, rfl, hj⟩ := hrel
    obtain ⟨cq, rd⟩ := unhide HJ k wr (unhide HJJ k wr hj)
    by_cases hlt : k < n
    · obtain ⟨b, o, rfl, cx⟩ := rd k (unhide HN ▸ hlt)
      obtain ⟨fn, tmps, assign, body, hy, hR⟩ := unhide HY k wr hlt hj
      have HRR := hide hR
      have hlt' : (k : Int) < n := by omega
      generalize zs.getD k 0 = x at *
      clear hR rd H0 cl hj
      gi_wp2
      refine (unhide HRR).mono ?_
      clear hy HRR cx cq
      rintro e W3 (⟨rfl, hj3⟩ | ⟨rfl, hx3⟩ | ⟨ch, rfl, hp3⟩)
      · have HJ3 := hide hj3
        clear hj3
        gi_wp2
        exact ⟨⟨k + 1, by omega, by go_num, unhide HJ3⟩, by simp [RowKit.intOf] <;> omega⟩
      · have HX3 := hide hx3
        clear hx3
        gi_wp2
        refine bodyPost_ret (results_none rfl _ _ _) rfl ?_
        exact .inr (.inl ⟨_, rfl, unhide HX3⟩)
      · exact ⟨rfl, .inr (.inr ⟨ch, rfl, hp3⟩)⟩
    · obtain rfl : k = n := by omega
      have HJ1 := hide hj
      clear hj rd cq cl H0
      gi_wp2
      go_end0
      exact .inl ⟨_, rfl, unhide HJ1⟩

theorem heap_setCell0 {w : World} {k : Nat} {v : Value} {t : TypeId} (h : w.heap[k]? = some (.cells #[v] t (0, 0))) (u : Value) : (w.setCell ⟨k, 0, none⟩ u).heap[k]? = some (.cells #[u] t (0, 0)) := by
  simp [World.setCell, Array.getElem?_modify, h]
/-- What AppendSeq has so far. -/
structure Aq (w : World) (zs : List Int) (k : Nat) (W : World) (v : Value) : Prop where
  box : W.heap[w.heap.size]? = some (.cells #[v] 22 (0, 0))
  own : Own W (w.heap.size + 3) v (zs.take k)
  still : Still w W
  size : w.heap.size + 3 ≤ W.heap.size
theorem Aq.kept {w W W' : World} {zs : List Int} {k : Nat} {v : Value} (h : Aq w zs k W v) (f : Fr (pair (w.heap.size + 1)) W W') : Aq w zs k W' v :=
  ⟨f.obj h.box (fun x => by unfold pair at x; omega), h.own.still f (fun j hj x => by have := (h.own.lt j hj).1; unfold pair at x; omega), h.still.trans' f (fun j x => .inr (by unfold pair at x; omega)), Nat.le_trans h.size f.size⟩
set_option maxRecDepth 100000 in
set_option maxHeartbeats 2000000 in
/-- AppendSeq of what Values gives. -/
theorem append_seq (bl n c : Nat) (a : Option Addr) (zs : List Int) (w : World) (hn : n = zs.length) (hl : n ≤ 1000) (hb : w.cell? ⟨bl, 0, none⟩ = some (.slice a n c)) (hr : Rd w a zs) :
    Calls Try.prog 35 #[.slice none 0 0, .func (.func 38) #[] #[.pointer (some ⟨bl, 0, none⟩)]] w fun e w' => ∃ v, e = .returned v ∧ Own w' w.heap.size v zs ∧ Still w w' := by
  have hwd : Fence.wide.depth = none := rfl
  have hwf : ∀ f, Fence.wide.fn f := fun _ => trivial
  have HN := hide hn; have HB := hide hb; have HR := hide hr
  clear hn hb hr
  refine calls_of_wpOf Try.func35 rfl ?_
  simp only [Try.ntmps35, List.size_toArray, List.length_cons, List.length_nil, Nat.reduceAdd, Nat.reduceSub, Array.replicate_succ, Array.replicate_zero, List.push_toArray, List.append_toArray, List.nil_append, List.cons_append]
  refine wpOf_seq (wpOf_of_wp ?_)
  go_wp2
  show wpOf _ _ _ _ _ _
  refine wpOf_seq (wpOf_seq (wpOf_of_wp ?_))
  go_wp2
  show wpOf _ _ _ _ _ _
  obtain ⟨W1, hW1⟩ : ∃ W1, w.alloc (.cells #[.slice none 0 0] 22) = W1 := ⟨_, rfl⟩
  have b1 : W1.heap[w.heap.size]? = some (.cells #[.slice none 0 0] 22 (0, 0)) := hW1 ▸ heap_alloc_new w _
  have f1 : Still w W1 := hW1 ▸ (Fr.refl _ w).alloc _
  have z1 : W1.heap.size = w.heap.size + 1 := by rw [← hW1]; simp
  rw [hW1]
  have HX := hide (And.intro b1 (And.intro f1 z1))
  clear hW1 b1 f1
  refine wpOf_block (range_okA (gf := 38) (lb := #[ptr bl]) (N := n) (enc := fun k => #[iv (zs.getD k 0)]) rfl (fun _ _ => by kernel_rfl) ⟨_, Try.func35⟩ (fun k => rfl)
    (fun k W => ∃ v, Aq w zs k W v)
    (fun k a' W => (∃ v, Aq w zs k W v) ∧ a' = { tmps := #[.slice none 0 0, .func (.func 38) #[] #[ptr bl], ptr w.heap.size, undef, .slice none 0 0, iv (zs.getD k 0), .func (.func 38) #[] #[ptr bl], iv (zs.getD k 0), undef, undef, undef, undef, undef], defers := [] })
    (fun _ => False) (fun _ _ => False) ?hJ ?hJA (fun _ _ h _ => h) ?hseq ?h0 ?hassign ?hbody ?hdone (fun _ h _ => h.elim) (fun _ _ h _ => h.elim))
  case hJ =>
    rintro k W W' ⟨v, h⟩ hf
    rw [z1] at hf
    exact ⟨v, h.kept hf⟩
  case hJA =>
    rintro k a' W W' ⟨⟨v, h⟩, rfl⟩ hf
    rw [z1] at hf
    exact ⟨⟨v, h.kept hf⟩, rfl⟩
  case hseq =>
    refine vals_ok bl _ n c a zs _ (unhide HN) hl ?_
    rintro k W ⟨v, h⟩
    exact ⟨h.still.cell' (unhide HB) (fun x => x), (unhide HR).still h.still⟩
  case h0 =>
    intro o1 o2
    obtain ⟨b1, f1, z1⟩ := unhide HX
    have f2 : Still W1 ((W1.alloc o1).alloc o2) := ((Fr.refl _ W1).alloc o1).alloc o2
    exact ⟨.slice none 0 0, f2.obj b1 (fun x => x), by simpa using Own.nil _ _, f1.trans' f2 (fun _ x => x.elim), by simp; omega⟩
  case hassign =>
    rintro l k W K h hk hK
    have HH := hide h; have HHK := @hide _ hK
    clear h hK
    gi_wp2
    exact unhide HHK _ _ ⟨unhide HH, rfl⟩ rfl rfl
  case hbody =>
    rintro l k a' W ⟨⟨v, h⟩, rfl⟩ hk
    obtain ⟨sa, sc, rfl⟩ := rows_form h.own
    have hb := h.box
    have c0 : W.cell? ⟨w.heap.size, 0, none⟩ = some (.slice sa (zs.take k).length sc) := cell_of_obj hb 0
    have lo := h.own.lt
    obtain ⟨va, vc, v2, hap, o2, f2, hb2, hnn⟩ := Own.more Try.underlying22 W (w.heap.size + 3) _ _ (zs.take k).length h.own rfl (zs.getD k 0) (by simp; omega) h.size
    have kn : k < zs.length := unhide HN ▸ hk
    rw [← take_one zs kn] at o2
    have hb2' := f2.obj hb (fun e => by have := (lo _ e).1; omega)
    have c2 : v2.cell? ⟨w.heap.size, 0, none⟩ = some (.slice sa (zs.take k).length sc) := cell_of_obj hb2' 0
    have z2 := frozen_of_obj hb2' 0
    have HAP := hide hap; have HH := hide h; have HO := hide (And.intro o2 (And.intro f2 (And.intro lo hb2')))
    clear hap h o2 f2 hb2 hnn hb lo hb2' kn
    generalize (zs.take k).length = tk at *
    generalize zs.getD k 0 = x at *
    gi_wp2_with (first | (gi_at_builtin; refine wpListIn_append_run rfl (.tmp 8) (.tmp 10) 22 rfl _ _ rfl rfl _ v2 (unhide HAP) ?_) | fail)
    obtain ⟨o2, f2, lo, hb2'⟩ := unhide HO
    have h := unhide HH
    have nb : ∀ j, Value.ownBlock (.slice va (tk + 1) vc) = some j → j ≠ w.heap.size := fun j hj => by have := (o2.lt j hj).1; omega
    have sz := h.size
    have f3 : Fr (fun j => j = w.heap.size ∨ Value.ownBlock (.slice sa tk sc) = some j) W (v2.setCell ⟨w.heap.size, 0, none⟩ (.slice va (tk + 1) vc)) := (f2.mono (fun j hj => .inl (.inr hj))).setCell (.inl (.inl rfl)) _
    refine ⟨⟨f3.block _ (by omega) ?_, f3.block _ (by omega) ?_⟩, _, ⟨heap_setCell0 hb2' _, o2.still (F := fun j => j = w.heap.size) (Fr.setCell (F := fun j => j = w.heap.size) (Fr.refl _ v2) (p := ⟨w.heap.size, 0, none⟩) (.inl rfl) _) nb, h.still.trans' f3 ?_, Nat.le_trans h.size f3.size⟩⟩
    · rintro (x | x)
      · omega
      · have := (lo _ x).1; omega
    · rintro (x | x)
      · omega
      · have := (lo _ x).1; omega
    · rintro j (x | x)
      · exact .inr (by omega)
      · exact .inr (by have := (lo _ x).1; omega)
  case hdone =>
    rintro W ⟨v, h⟩ hd
    obtain ⟨sa, sc, rfl⟩ := rows_form h.own
    have c0 : W.cell? ⟨w.heap.size, 0, none⟩ = some (.slice sa (zs.take n).length sc) := cell_of_obj h.box 0
    have HH := hide h; have HDD := hide hd
    clear h hd
    generalize htk : (zs.take n).length = tk at *
    have HTK := hide htk
    clear htk
    show wpOf _ _ _ _ _ _
    refine wpOf_of_wp ?_
    go_wp2
    have h := unhide HH
    have hDD := unhide HDD
    rw [z1] at hDD
    refine ⟨by simp, .inl ⟨_, _, rfl, run_takeDeferred hDD, ?_⟩⟩
    have fp : Fr (fun j => j = w.heap.size + 1) W (W.putObj (w.heap.size + 1) (.deferred none)) := (Fr.refl (fun j => j = w.heap.size + 1) W).putObj (.inl rfl) _
    have o := h.own.still fp (fun j hj e => by have := (h.own.lt j hj).1; omega)
    rw [List.take_of_length_le (by have := unhide HN; omega)] at o
    exact ⟨_, results_tmp rfl _ _ _, _, rfl, o.from (by omega), h.still.trans' fp (fun j e => .inr (by omega))⟩

/-- The same numbers, rising. -/
def srt (l : List Int) : List Int := l.mergeSort fun x y => decide (x ≤ y)
theorem srt_len (l : List Int) : (srt l).length = l.length := List.length_mergeSort _
theorem srt_mem (l : List Int) (x : Int) : x ∈ srt l ↔ x ∈ l := List.mem_mergeSort
theorem srt_perm (l : List Int) : (srt l).Perm l := List.mergeSort_perm l _
theorem srt_le (l : List Int) : (srt l).Pairwise (· ≤ ·) := by
  have := List.pairwise_mergeSort (le := fun x y : Int => decide (x ≤ y)) (fun a b c h1 h2 => by simp only [decide_eq_true_eq] at *; omega) (fun a b => by simp only [Bool.or_eq_true, decide_eq_true_eq]; omega) l
  exact this.imp fun h => by simpa using h
theorem Fr.grow1 {w w' : World} {g : Nat} (h : w.grownBy w' (some g)) : Fr (fun j => j = g) w w' :=
  ⟨h.os, h.tape, h.output, h.size, fun k hk hn => h.block k hk (fun e => hn (by cases e; rfl))⟩

theorem sort_own (W : World) (base : Nat) (v : Value) (zs : List Int) (hl : zs.length ≤ 65536) (h : Own W base v zs) :
    Calls Try.prog 32 #[v] W fun e W' => e = .returned (.tuple #[]) ∧ Own W' base v (srt zs) ∧ Fr (fun j => v.ownBlock = some j) W W' := by
  rcases h.2 with ⟨hn, h0⟩ | ⟨g, cap, cur, hv, hbase, hb, h1, h2, h3, h4⟩
  · subst hn
    obtain rfl : zs = [] := List.eq_nil_of_length_eq_zero h0
    refine (Any.slices_Sort_int_none Try.lays189 none 0 W).mono ?_
    rintro e W' ⟨rfl, rfl⟩
    exact ⟨rfl, by simpa [srt] using h, Fr.refl _ _⟩
  · subst hv
    have hH := holds_of_blockI hb (by simpa using h4)
    refine (Try.slices_Sort_int g 0 cap zs W hH (Array.getElem?_eq_some_iff.1 hb).1 (by omega)).mono ?_
    rintro e W' ⟨rfl, n, os, rfl⟩
    have this := ownsRow_sortedI (n := n) (os := os) (srt_len zs) hbase hb h1 h2 h3
    refine ⟨rfl, ?_, (Fr.grow1 (grownBy_sortedI _)).mono (fun k e => .inl (by rw [e]; rfl))⟩
    unfold Own
    rw [srt_len]
    exact this

theorem Own.nilLen {w : World} {base : Nat} {v : Value} {l : List Int} (h : Own w base v l) : ∃ a c, v = .slice a l.length c := rows_form h
/-- Sorted of what Values gives. -/
theorem sorted_vals (bl n c : Nat) (a : Option Addr) (zs : List Int) (w : World) (hn : n = zs.length) (hl : n ≤ 1000) (hb : w.cell? ⟨bl, 0, none⟩ = some (.slice a n c)) (hr : Rd w a zs) :
    Calls Try.prog 24 #[.func (.func 38) #[] #[.pointer (some ⟨bl, 0, none⟩)]] w fun e w' => ∃ v, e = .returned v ∧ Own w' w.heap.size v (srt zs) ∧ Still w w' := by
  have CO : Calls Try.prog 31 #[.func (.func 38) #[] #[.pointer (some ⟨bl, 0, none⟩)]] w fun e w' => ∃ v, e = .returned v ∧ Own w' w.heap.size v zs ∧ Still w w' := by
    have AS := append_seq bl n c a zs w hn hl hb hr
    clear hb hr
    go_enter Try.func31, Try.ntmps31
    go_wp2_with fail
    refine AS.mono ?_
    rintro e w1 ⟨v, rfl, o, f⟩
    go_wp2
    go_ret
    exact ⟨_, rfl, o, f⟩
  have HL := hide (show zs.length ≤ 65536 by omega)
  clear hb hr hn hl
  go_enter Try.func24, Try.ntmps24
  go_wp2_with fail
  refine CO.mono ?_
  rintro e w1 ⟨v, rfl, o, f⟩
  obtain ⟨sa, sc, rfl⟩ := rows_form o
  have SO := sort_own w1 _ _ zs (unhide HL) o
  have F := hide f; have O := hide o
  clear f o CO
  generalize zs.length = zl at *
  go_wp2_with fail
  refine SO.mono ?_
  rintro e w2 ⟨rfl, o2, f2⟩
  have F2 := hide f2; have O2 := hide o2
  clear f2 o2 SO
  go_wp2
  go_ret
  exact ⟨_, rfl, unhide O2, (unhide F).trans' (unhide F2) (fun j hj => .inr ((unhide O).lt j hj).1)⟩
/-- mark's own 'sorted'. -/
theorem msorted_ok (n c : Nat) (a : Option Addr) (zs : List Int) (w : World) (hn : n = zs.length) (hl : n ≤ 1000) (hr : Rd w a zs) :
    Calls Try.prog 29 #[.slice a n c] w fun e w' => ∃ v, e = .returned v ∧ Own w' w.heap.size v (srt zs) ∧ Still w w' := by
  have f1 : Still w (w.alloc (.cells #[.slice a n c] 22)) := (Fr.refl _ w).alloc _
  have SV := sorted_vals w.heap.size n c a zs (w.alloc (.cells #[.slice a n c] 22)) hn hl (by simp) (hr.still f1)
  have HV := hide SV; have F := hide f1
  clear hr SV f1 hn hl
  go_enter Try.func29, Try.ntmps29
  go_wp2_with fail
  refine (values_ok a n c w).mono ?_
  rintro e w1 ⟨rfl, rfl⟩
  go_wp2_with fail
  refine (unhide HV).mono ?_
  rintro e w2 ⟨v, rfl, o, f⟩
  have F2 := hide f; have O2 := hide o
  clear f o HV
  go_wp2
  go_ret
  exact ⟨_, rfl, (unhide O2).from (by simp), (unhide F).trans (unhide F2)⟩
end Go.Proofs.Ytkdehhmmcchgfaa
