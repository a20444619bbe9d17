/- A Framer in memory: what waits, what is left out; its reading methods. -/
import Derived.Test.YtpidfndcihljmabYb
import Derived.Test.YtpidfndcihljmabShelf
namespace Go.Proofs.Ytpidfndcihljmab
open Go.RowKit

/-- A Framer: its block, the block of its row, what waits, whether a line is left out, how many bytes are; its row has N bytes at most. -/
structure Fm (w : World) (f : Nat) (g : Option Nat) (l : List UInt8) (lv : Bool) (sk N : Nat) : Prop where
  ex : ∃ v cur t, w.heap[f]? = some (.cells #[v, .int .i64 (t : Nat), .bool lv, .int .i64 (sk : Nat)] 36) ∧ Own w 0 v cur ∧ v.ownBlock = g ∧ t ≤ cur.length ∧ l = cur.drop t ∧ cur.length ≤ N
  ap : g ≠ some f
theorem Fm.on {w w' : World} {f : Nat} {g : Option Nat} {l : List UInt8} {lv : Bool} {sk N : Nat} {F : Nat → Prop} (h : Fm w f g l lv sk N) (r : Fr F w w') (hf : ¬ F f) (hg : ∀ k, g = some k → ¬ F k) : Fm w' f g l lv sk N := by
  obtain ⟨⟨v, cur, t, h1, h2, h3, h4, h5, h6⟩, h7⟩ := h
  exact ⟨⟨v, cur, t, r.obj h1 hf, h2.still r (fun k hk => hg k (h3 ▸ hk)), h3, h4, h5, h6⟩, h7⟩
theorem Fm.len {w : World} {f : Nat} {g : Option Nat} {l : List UInt8} {lv : Bool} {sk N : Nat} (h : Fm w f g l lv sk N) : l.length ≤ N := by
  obtain ⟨⟨v, cur, t, h1, h2, h3, h4, h5, h6⟩, h7⟩ := h
  rw [h5, List.length_drop]; omega
theorem Fm.lt {w : World} {f : Nat} {g : Option Nat} {l : List UInt8} {lv : Bool} {sk N : Nat} (h : Fm w f g l lv sk N) : f < w.heap.size ∧ ∀ k, g = some k → k < w.heap.size := by
  obtain ⟨⟨v, cur, t, h1, h2, h3, h4, h5, h6⟩, h7⟩ := h
  exact ⟨(Array.getElem?_eq_some_iff.1 h1).1, fun k hk => (h2.lt k (h3.trans hk)).2⟩

set_option maxRecDepth 100000 in
set_option maxHeartbeats 1000000 in
theorem new_ok (w : World) : Calls Try.prog 4 #[] w fun e w' => e = .returned (ptr w.heap.size) ∧ Fm w' w.heap.size none [] false 0 0 ∧ Still w w' := by
  go_enter Try.func4, Try.ntmps4
  go_wp2_with fail
  go_ret
  refine ⟨rfl, ⟨⟨.slice none 0 0, [], 0, heap_alloc_new w _, Own.nil _ _, rfl, Nat.le_refl _, rfl, Nat.le_refl _⟩, fun h => by cases h⟩, (Fr.refl _ w).alloc _⟩

set_option maxRecDepth 100000 in
set_option maxHeartbeats 1000000 in
theorem waits_ok {w : World} {f : Nat} {g : Option Nat} {l : List UInt8} {lv : Bool} {sk N : Nat} (h : Fm w f g l lv sk N) (_hN : N ≤ 100000000) :
    Calls Try.prog 11 #[ptr f] w fun e w' => ∃ a cap q, e = .returned (.slice a l.length cap) ∧ w' = w.drewN q ∧ l.length ≤ cap ∧ Rd w a l ∧ (a = none → cap = 0 ∧ l = []) ∧ ∀ x, a = some x → ∃ b o, x = ⟨b, o, none⟩ ∧ g = some b := by
  obtain ⟨⟨v, cur, t, h1, h2, h3, h4, h5, h6⟩, h7⟩ := h
  obtain ⟨a, cap, rfl, r1, r2, r3, r4, r5⟩ := h2.rd
  have c0 := cell_of_obj h1 0
  have c1 := cell_of_obj h1 1
  simp at c0 c1
  have c0 : ∀ n, (w.drewN n).cell? ⟨f, 0, none⟩ = some (.slice a cur.length cap) := fun _ => c0
  have c1 : ∀ n, (w.drewN n).cell? ⟨f, 1, none⟩ = some (.int .i64 (t : Nat)) := fun _ => c1
  have hs := fun w => slice_run a cur.length cap t .i64 w h4
  go_enter Try.func11, Try.ntmps11
  go_wp2_with fail
  go_quiet (fail)
  go_wp2
  go_ret
  refine ⟨cutA a cap t, cap - t, nq, (by rw [h5, List.length_drop]; rfl), rfl, by rw [h5, List.length_drop]; omega, by rw [h5]; exact r2.drop t cap r1, fun e => ?_, fun x e => ?_⟩
  · cases a with
    | none => obtain ⟨e1, e2⟩ := r4 rfl; subst e1 e2; exact ⟨by simp, by rw [h5]; simp⟩
    | some y => unfold cutA at e; split at e <;> cases e
  · cases a with
    | none => unfold cutA at e; split at e <;> cases e
    | some y =>
      obtain ⟨b, o, rfl⟩ := r5 y rfl
      obtain ⟨_, _, e2, e3⟩ := r3 b o rfl
      subst e3
      unfold cutA at e
      split at e
      · cases e; exact ⟨b, 0, rfl, h3.symm.trans e2⟩
      · cases e; exact ⟨b, 0 + t * 1, by unfold Addr.add; split <;> simp_all, h3.symm.trans e2⟩

set_option maxRecDepth 100000 in
set_option maxHeartbeats 1000000 in
theorem waiting_ok {w : World} {f : Nat} {g : Option Nat} {l : List UInt8} {lv : Bool} {sk N : Nat} (h : Fm w f g l lv sk N) (hN : N ≤ 100000000) :
    Calls Try.prog 9 #[ptr f] w fun e w' => e = .returned (iv (l.length : Nat)) ∧ ∃ q, w' = w.drewN q := by
  obtain ⟨⟨v, cur, t, h1, h2, h3, h4, h5, h6⟩, h7⟩ := h
  obtain ⟨a, cap, rfl, r1, r2, r3, r4, r5⟩ := h2.rd
  have c0 := cell_of_obj h1 0
  have c1 := cell_of_obj h1 1
  simp at c0 c1
  have c0 : ∀ n, (w.drewN n).cell? ⟨f, 0, none⟩ = some (.slice a cur.length cap) := fun _ => c0
  have c1 : ∀ n, (w.drewN n).cell? ⟨f, 1, none⟩ = some (.int .i64 (t : Nat)) := fun _ => c1
  go_enter Try.func9, Try.ntmps9
  go_wp2_with fail
  go_quiet (fail)
  go_wp2
  go_ret
  refine ⟨?_, nq, rfl⟩
  rw [h5, List.length_drop]
  congr 2
  go_num

/-- Where the first line feed stands. -/
def nl (l : List UInt8) : Nat := l.findIdx (· == 10)
/-- Where its line ends. -/
def eol (l : List UInt8) : Nat := if 0 < nl l ∧ l.getD (nl l - 1) 0 = 13 then nl l - 1 else nl l
theorem nl_eq (l : List UInt8) (k : Nat) (h : ∀ j, j < k → l.getD j 0 ≠ 10) (hk : k < l.length) (e : l.getD k 0 = 10) : nl l = k := by
  unfold nl
  rw [List.findIdx_eq hk]
  refine ⟨by simpa [hk] using e, fun j hj => ?_⟩
  have := h j hj
  have hj' : j < l.length := by omega
  simpa [hj'] using this
theorem nl_ge (l : List UInt8) (k : Nat) (h : ∀ j, j < k → l.getD j 0 ≠ 10) (hk : k ≤ l.length) : k ≤ nl l := by
  unfold nl
  rcases Nat.lt_or_ge (l.findIdx (· == 10)) k with hc | hc
  · have h2 : l.findIdx (· == 10) < l.length := by omega
    have h3 := List.findIdx_getElem (w := h2)
    have h4 := h _ hc
    exfalso
    apply h4
    simpa [h2] using h3
  · exact hc
theorem nl_le (l : List UInt8) : nl l ≤ l.length := List.findIdx_le_length
theorem nl_at (l : List UInt8) (h : nl l < l.length) : l.getD (nl l) 0 = 10 := by
  have h3 := List.findIdx_getElem (w := h)
  simp only [List.getD_eq_getElem?_getD, h, getElem?_pos, Option.getD_some]
  exact eq_of_beq h3
theorem nl_cons (c : UInt8) (l : List UInt8) : nl (c :: l) = if c = 10 then 0 else nl l + 1 := by
  unfold nl
  rw [List.findIdx_cons]
  by_cases hc : c = 10
  · simp [hc]
  · simp [hc, show (c == 10) = false by simp [hc]]
theorem nl_no (l : List UInt8) (j : Nat) (h : j < nl l) : l.getD j 0 ≠ 10 := by
  have hl : j < l.length := Nat.lt_of_lt_of_le h (nl_le l)
  have := List.not_of_lt_findIdx h
  simpa [hl] using this
theorem ixb : ∀ l : List UInt8, Lib.indexByte l 10 = if nl l < l.length then (nl l : Int) else -1
  | [] => by simp [Lib.indexByte, nl]
  | c :: l => by
    have ih := ixb l
    unfold Lib.indexByte
    rw [ih]
    rw [nl_cons]
    have hl := nl_le l
    by_cases hc : c = 10
    · simp [hc]
    · have hc' : (c == 10) = false := by simp [hc]
      rw [hc', if_neg hc]
      simp only [Bool.false_eq_true, if_false, List.length_cons]
      by_cases h : nl l < l.length
      · have e1 : (if nl l < l.length then (nl l : Int) else -1) = nl l := if_pos h
        have e2 : ((nl l : Int) == -1) = false := by simp
        rw [e1, e2, if_pos (show nl l + 1 < l.length + 1 by omega)]
        simp
      · have e1 : (if nl l < l.length then (nl l : Int) else -1) = -1 := if_neg h
        rw [e1, if_neg (show ¬ nl l + 1 < l.length + 1 by omega)]
        rfl
theorem bytes_back (l : List UInt8) : Lib.bytesOf (l.map fun c => (c.toNat : Int)) = l := by
  simp [Lib.bytesOf, Function.comp_def]
/-- bytes.IndexByte at a row that is read. -/
theorem index_ok {w : World} (a : Option Addr) (n cap : Nat) (l : List UInt8) (hn : n = l.length) (h : Rd w a l) (ha : a = none → cap = 0 ∧ l = []) (hx : ∀ x, a = some x → ∃ b o, x = ⟨b, o, none⟩) :
    Calls Try.prog 10 #[.slice a n cap, .int .u8 10] w fun e w' => e = .returned (iv (if nl l < l.length then (nl l : Int) else -1)) ∧ w' = w := by
  subst hn
  cases a with
  | none =>
    obtain ⟨rfl, rfl⟩ := ha rfl
    exact (Try.bytes_IndexByte_nil 10 w).mono fun e w' h => ⟨by rw [h.1]; rfl, h.2⟩
  | some x =>
    obtain ⟨b, o, rfl⟩ := hx x rfl
    refine (Try.bytes_IndexByte b o l.length cap (l.map fun c => (c.toNat : Int)) 10 w (by simp) (fun i hi => ?_)).mono fun e w' h => ⟨?_, h.2⟩
    · obtain ⟨_, _, e, c⟩ := h i hi
      cases e
      rw [c]
      simp [hi]
    · rw [h.1, bytes_back, show ((10 : Int).toNat.toUInt8) = 10 from rfl, ixb]
end Go.Proofs.Ytpidfndcihljmab
