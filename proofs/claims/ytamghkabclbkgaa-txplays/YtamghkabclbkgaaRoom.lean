/- send, where the list of what is on its way has room. -/
import Derived.Test.YtamghkabclbkgaaSend
namespace Go.Proofs.Ytamghkabclbkgaa
open Go.RowKit

theorem setCells_heap (g : Nat) : ∀ (vs : List Value) (o : Nat) (w : World) (cur : Array Value) (t : TypeId), w.heap[g]? = some (.cells cur t (0, 0)) → o + vs.length ≤ cur.size →
    ∃ cur', (w.setCells g o vs).heap[g]? = some (.cells cur' t (0, 0)) ∧ cur'.size = cur.size ∧ cur'.toList.take (o + vs.length) = cur.toList.take o ++ vs
  | [], o, w, cur, t, h, _ => ⟨cur, h, rfl, by simp⟩
  | v :: r, o, w, cur, t, h, hs => by
    have h1 := heap_setCell_same w g o cur t v h
    simp only [List.length_cons] at hs
    obtain ⟨cur', e1, e2, e3⟩ := setCells_heap g r (o + 1) (w.setCell ⟨g, o, none⟩ v) _ t h1 (by simp; omega)
    refine ⟨cur', e1, by simpa using e2, ?_⟩
    rw [List.length_cons, show o + (r.length + 1) = o + 1 + r.length from by omega, e3]
    have ho : o < cur.size := by omega
    simp only [Array.toList_setIfInBounds]
    rw [List.take_succ_eq_append_getElem (by simpa using ho)]
    simp [List.take_set_of_le]

theorem setCells_other (g k : Nat) (hk : k ≠ g) : ∀ (vs : List Value) (o : Nat) (w : World), (w.setCells g o vs).heap[k]? = w.heap[k]?
  | [], _, _ => rfl
  | _ :: r, o, _ => by rw [World.setCells, setCells_other g k hk r]; exact Below.heap_setCell _ _ _ _ hk

theorem setCells_fr (g : Nat) {F : Nat → Prop} {a : World} (hg : F g ∨ a.heap.size ≤ g) : ∀ (vs : List Value) (o : Nat) (w : World), Fr F a w → Fr F a (w.setCells g o vs)
  | [], _, _, h => h
  | _ :: r, o, _, h => setCells_fr g hg r (o + 1) _ (h.setCell hg _)


/-- The world behind an append that has room. -/
theorem room_facts (w : World) (a g m cap : Nat) (l : Nat → Int) (olds : List Value) (cur : Array Value) (hg : w.heap[g]? = some (.cells cur 91 (0, 0))) (hroom : m < cap) (hmax : cap ≤ maxLen) (hcur : cur.size = cap * 9) (htake : cur.toList.take (m * 9) = olds) :
    Fr (fun k => k = g) w (((w.alloc (litObj a l)).drew).setCells g (0 + m * 9) (.int .i64 a :: lineCells l)) ∧
    (((w.alloc (litObj a l)).drew).setCells g (0 + m * 9) (.int .i64 a :: lineCells l)).ownsRow 0 91 9 (.slice (some ⟨g, 0, none⟩) (m + 1) cap) (m + 1) (olds ++ (.int .i64 a :: lineCells l)) := by
  have hlt : g < w.heap.size := (Array.getElem?_eq_some_iff.1 hg).1
  have hg' : ((w.alloc (litObj a l)).drew).heap[g]? = some (.cells cur 91 (0, 0)) := (Below.heap_alloc _ _ _ hlt).trans hg
  have hlen : (.int .i64 a :: lineCells l : List Value).length = 9 := by simp [lineCells]
  obtain ⟨cur', e1, e2, e3⟩ := setCells_heap g (.int .i64 a :: lineCells l) (0 + m * 9) _ cur 91 hg' (by rw [hlen]; omega)
  refine ⟨setCells_fr g (F := fun k => k = g) (.inl rfl) _ _ _ (((Fr.refl _ w).alloc _).drew), ?_, .inr ⟨g, cap, cur', rfl, Nat.zero_le _, e1, by omega, hmax, by omega, ?_⟩⟩
  · rw [List.length_append, hlen, ← htake, List.length_take]; simp; omega
  · rw [hlen, show 0 + m * 9 + 9 = (m + 1) * 9 from by omega, show 0 + m * 9 = m * 9 from by omega] at e3
    rw [e3, htake]

set_option maxHeartbeats 1000000 in
theorem send_room {kn kp : Nat} (b bn bp g n m cap a : Nat) (l : Nat → Int) (olds : List Value) (cur : Array Value) (w : World) (_hn : n ≤ 8192) (_hm : m ≤ 4294967296) (ha : a < n)
    (h0 : w.cell? ⟨b, 0, none⟩ = some (rowc bn n kn)) (h2 : w.cell? ⟨b, 2, none⟩ = some (.slice (some ⟨g, 0, none⟩) m cap)) (h3 : w.cell? ⟨b, 3, none⟩ = some (rowc bp n kp))
    (hb2 : w.frozen? ⟨b, 2, none⟩ = false) (hbp : b ≠ bp) (hzp : w.frozen? ⟨bp, a, none⟩ = false)
    (hpl : w.cell? ⟨bp, a, none⟩ = some (.int .i64 0))
    (hl : ∀ k, k < 8 → w.cell? ⟨bn, a * 8 + k, none⟩ = some (u64 (l k)))
    (hg : w.heap[g]? = some (.cells cur 91 (0, 0))) (hroom : m < cap) (hmax : cap ≤ maxLen) (hcur : cur.size = cap * 9) (htake : cur.toList.take (m * 9) = olds) (hgb : b ≠ g) (hgp : bp ≠ g) :
    Calls Try.prog 78 #[ptr b, .int .i64 a] w fun e w' => e = .returned (.tuple #[]) ∧
      ∃ w1, w1.ownsRow 0 91 9 (.slice (some ⟨g, 0, none⟩) (m + 1) cap) (m + 1) (olds ++ (.int .i64 a :: lineCells l)) ∧ Fr (fun k => k = g) w w1 ∧
        w' = ((w1.setCell ⟨b, 2, none⟩ (.slice (some ⟨g, 0, none⟩) (m + 1) cap)).setCell ⟨bp, a, none⟩ (.int .i64 (m + 1))).drew := by
  have l0 := hl 0 (by omega); have l1 := hl 1 (by omega); have l2 := hl 2 (by omega); have l3 := hl 3 (by omega)
  have l4 := hl 4 (by omega); have l5 := hl 5 (by omega); have l6 := hl 6 (by omega); have l7 := hl 7 (by omega)
  simp only [Nat.add_zero] at l0 l1 l2 l3 l4 l5 l6 l7
  clear hl
  have hi := info59
  obtain ⟨i0, hi0⟩ : ∃ i, Try.prog.info? 91 = some i := by
    cases h : Try.prog.info? 91 with
    | none => rw [h] at hi; simp at hi
    | some i => exact ⟨i, rfl⟩
  rw [hi0] at hi
  simp only [Option.map_some, Option.some.injEq, Prod.mk.injEq] at hi
  obtain ⟨hz0, hz1, hz2⟩ := hi
  have hlt : g < w.heap.size := (Array.getElem?_eq_some_iff.1 hg).1
  have hg' : ((w.alloc (litObj a l)).drew).heap[g]? = some (.cells cur 91 (0, 0)) := (Below.heap_alloc _ _ _ hlt).trans hg
  have hspare : ∀ j, j < (.int .i64 a :: lineCells l : List Value).length → (((w.alloc (litObj a l)).drew).cell? ⟨g, 0 + m * 9 + j, none⟩).isSome = true ∧ ((w.alloc (litObj a l)).drew).frozen? ⟨g, 0 + m * 9 + j, none⟩ = false := fun j hj => by
    have hj9 : j < 9 := by simpa [lineCells] using hj
    rw [cell_of_row _ g _ cur 91 (0, 0) hg', frozen_of_row _ g _ cur 91 hg']
    refine ⟨?_, rfl⟩
    rw [Array.getElem?_eq_getElem (by omega)]; rfl
  have Hspare := hide hspare
  have HnewsW := hide (lit_news w a l)
  have Hone := hide (lit_one a l)
  have hbb := World.block_lt_of_cell? _ _ h2
  have hbq := World.block_lt_of_cell? _ _ hpl
  obtain ⟨rf, ro⟩ := room_facts w a g m cap l olds cur hg hroom hmax hcur htake
  have q2 := rf.cell' h2 hgb
  have q3 := rf.cell' h3 hgb
  have qp := rf.cell' hpl hgp
  have z2 := (rf.frozen (p := ⟨b, 2, none⟩) hbb hgb).trans hb2
  have zp := (rf.frozen (p := ⟨bp, a, none⟩) hbq hgp).trans hzp
  have Q := hide (And.intro rf (And.intro ro (And.intro q2 (And.intro q3 (And.intro qp (And.intro z2 zp))))))
  have Hi0 := hide hi0; have Hz1 := hide hz1
  have Hroom := hide hroom
  clear hspare hi0 hz0 hz1 hz2 rf ro q2 q3 qp z2 zp hg hg' hroom hmax hcur htake
  go_enter Try.func78, Try.ntmps78
  go_wp2
  go_region_law ((refine step_append_room rfl (.tmp 33) (.tmp 43) 73 rfl 91 i0 9 Try.underlying73 (unhide Hi0) (unhide Hz1) g 0 m cap (by simp [Act.eval]) ⟨w.heap.size, 0, none⟩ 1 1 (.int .i64 a :: lineCells l) (by simp [Act.eval]) (by simp [lineCells]) (unhide HnewsW) (unhide Hone) (unhide Hroom) (unhide Hspare) ?_); (revert Q; generalize ((w.alloc (litObj a l)).drew).setCells g (0 + m * 9) (.int .i64 a :: lineCells l) = W1; intro Q; obtain ⟨rf, ro, q2, q3, qp, z2, zp⟩ := unhide Q; have RF := hide rf; have RO := hide ro; clear rf ro Q))
  all_goals
    go_wp2
    go_region
    go_wp2
    go_end0
    exact ⟨rfl, W1, unhide RO, unhide RF, rfl⟩
end Go.Proofs.Ytamghkabclbkgaa
