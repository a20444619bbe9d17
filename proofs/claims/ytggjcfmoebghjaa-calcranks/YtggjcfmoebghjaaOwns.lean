/- A row of numbers of one's own, made longer. -/
import Derived.Test.YtggjcfmoebghjaaIn
import Derived.OwnWalk
import Derived.Maps.AppendAt
import Derived.Laws.AppendOwnNone
namespace Go.Proofs.Ytggjcfmoebghjaa
open Go.RowKit

theorem infoF : ∃ i, Try.prog.info? 24 = some i ∧ i.zero = some (.float .f64 0) ∧ i.size = 1 ∧ i.bytes = 8 := by
  have h : (Try.prog.info? 24).map (fun i => (i.zero, i.size, i.bytes)) = some (some (.float .f64 0), 1, 8) := by kernel_rfl
  cases e : Try.prog.info? 24 with
  | none => rw [e] at h; cases h
  | some i => rw [e] at h; simp only [Option.map_some, Option.some.injEq, Prod.mk.injEq] at h; exact ⟨i, rfl, h⟩

/-- A row of one's own. -/
def Own (w : World) (base : Nat) (v : Value) (l : List Nat) : Prop := w.ownsRow base 24 1 v l.length (l.map (Value.float .f64)) ∧ ∀ x ∈ l, x < 18446744073709551616

theorem Own.nil (w : World) (base : Nat) : Own w base (.slice none 0 0) [] := ⟨World.ownsRow_nil _ _ _ _, fun x hx => by simp at hx⟩
theorem Own.lts {w : World} {base : Nat} {v : Value} {l : List Nat} (h : Own w base v l) (k : Nat) (hk : k < l.length) : l.getD k 0 < 18446744073709551616 := by
  have e : l.getD k 0 = l[k] := by simp [hk]
  rw [e]; exact h.2 _ (List.getElem_mem hk)
/-- Its numbers. -/
theorem Own.fls {w : World} {base : Nat} {v : Value} {l : List Nat} (h : Own w base v l) : ∃ va cap, v = .slice va l.length cap ∧ Fls w va l ∧ ∀ x, va = some x → base ≤ x.block := by
  rcases h.1.2 with ⟨hv, hn⟩ | ⟨g, cap, cur, hv, hb, _⟩
  · refine ⟨none, 0, by rw [hv, hn], fun k hk => ?_, fun x hx => by cases hx⟩
    omega
  · refine ⟨some ⟨g, 0, none⟩, cap, hv, fun k hk => ⟨g, 0, rfl, ?_, h.lts k hk⟩, fun x hx => by cases hx; exact hb⟩
    have h1 := h.1
    rw [hv] at h1
    rw [Nat.zero_add, h1.cellAt k (by omega)]
    simp [hk]
theorem Own.below {w w' : World} {base base' : Nat} {v : Value} {l : List Nat} (h : Own w base v l) (b : Below base' w w') (hb : w.heap.size ≤ base') : Own w' base v l := by
  refine ⟨⟨h.1.1, ?_⟩, h.2⟩
  rcases h.1.2 with hn | ⟨g, cap, cur, hv, hg, hgg, rest⟩
  · exact .inl hn
  · exact .inr ⟨g, cap, cur, hv, hg, (b.block g (Nat.lt_of_lt_of_le (Array.getElem?_eq_some_iff.1 hgg).1 hb)).trans hgg, rest⟩
theorem Own.from {w : World} {base base' : Nat} {v : Value} {l : List Nat} (h : Own w base v l) (hb : base' ≤ base) : Own w base' v l := by
  refine ⟨⟨h.1.1, ?_⟩, h.2⟩
  rcases h.1.2 with hn | ⟨g, cap, cur, hv, hg, rest⟩
  · exact .inl hn
  · exact .inr ⟨g, cap, cur, hv, Nat.le_trans hb hg, rest⟩

/-- What an append of one number leaves. -/
structure Push (w : World) (base : Nat) (v : Value) (l : List Nat) (v' : Value) (w' : World) : Prop where
  own : Own w' base v' l
  gr : w.grownBy w' v.ownBlock
  at_ : v'.ownBlock = v.ownBlock ∨ ∃ g, v'.ownBlock = some g ∧ w.heap.size ≤ g
  bel : Below base w w'
/-- One number more. -/
theorem append_fl {ops : Array Oper} {rest : List Oper} {o : Oper} {a : Act} {Q : Exit → Act → World → Prop} (w : World) (hgd : o.guard = none) (s x : Operand)
    (ho : o.op = .call { callee := .builtin .append, args := #[s, x], argTypes := #[23, 23] }) (base y : Nat) (hy : y < 18446744073709551616) (v : Value) (l : List Nat)
    (hs : a.eval s = v) (hown : Own w base v l) (hx : a.eval x = .slice (some ⟨w.heap.size, 0, none⟩) 1 1) (hl : l.length ≤ 1000) (hbase : base ≤ w.heap.size)
    (h : ∀ v' w', Push w base v (l ++ [y]) v' w' → wpList Try.prog ops Q rest (a.put o.dst v') w') :
    wpList Try.prog ops Q (o :: rest) a (w.alloc (.cells #[.float .f64 y] 24)) := by
  obtain ⟨i, hi, hz, hsize, hby⟩ := infoF
  have hown2 := (hown.below ((Below.refl w.heap.size w).alloc (Nat.le_refl _) (.cells #[.float .f64 y] 24)) (Nat.le_refl _)).1
  refine wpList_append_own_at _ hgd s x 23 ho base 24 i (.float .f64 0) 1 8 Try.underlying23 hi hz hsize hby rfl (by decide) v l.length _ hs hown2 ⟨w.heap.size, 0, none⟩ 1 1 [.float .f64 y] hx rfl ?_ ?_ ?_ ?_ ?_ ?_
  · exact cell_one_new _ _ _
  · intro u hu; simp at hu; subst hu; rfl
  · unfold maxLen; omega
  · omega
  · simp; omega
  · intro v' w' h1 h2 _ hat
    have g2 : w.grownBy w' v.ownBlock := ⟨h2.os, h2.tape, h2.output, by have := h2.size; simp at this; omega, fun k hk hne => (h2.block k (by simp; omega) hne).trans (Below.heap_alloc _ _ _ hk)⟩
    refine h v' w' ⟨⟨?_, ?_⟩, g2, hat.imp id fun e => ⟨_, e, by simp⟩, (Below.refl base w).grown g2 hbase fun k hk => (hown.1.lt k hk).1⟩
    · simpa using h1
    · intro z hz
      rcases List.mem_append.1 hz with h | h
      · exact hown.2 z h
      · simp at h; rw [h]; exact hy

theorem Own.cells {w : World} {base : Nat} {v : Value} {l : List Nat} (h : Own w base v l) : v = .slice none 0 0 ∧ l = [] ∨ ∃ g cap, v = .slice (some ⟨g, 0, none⟩) l.length cap ∧ ∀ j u, (l.map (Value.float .f64))[j]? = some u → w.cell? ((⟨g, 0, none⟩ : Addr).add j) = some u := by
  rcases h.1.2 with ⟨hv, hn⟩ | ⟨g, cap, cur, hv, hb, rest⟩
  · exact .inl ⟨hv, List.length_eq_zero_iff.1 hn⟩
  · refine .inr ⟨g, cap, hv, fun j u hu => ?_⟩
    have h1 := h.1
    rw [hv] at h1
    have hj : j < l.length := by have := (List.getElem?_eq_some_iff.1 hu).1; simpa using this
    have hadd : (⟨g, 0, none⟩ : Addr).add j = ⟨g, j, none⟩ := by unfold Addr.add; split <;> simp_all
    rw [hadd, h1.cellAt j (by omega), hu]
/-- A row of one, and all of another row behind it. -/
theorem append_all {ops : Array Oper} {rest : List Oper} {o : Oper} {a : Act} {Q : Exit → Act → World → Prop} (w : World) (hgd : o.guard = none) (s x : Operand)
    (ho : o.op = .call { callee := .builtin .append, args := #[s, x], argTypes := #[23, 23] }) (base y : Nat) (hy : y < 18446744073709551616) (v : Value) (l : List Nat)
    (hs : a.eval s = .slice (some ⟨w.heap.size, 0, none⟩) 1 1) (hown : Own w base v l) (hx : a.eval x = v) (hl : l.length ≤ 1000)
    (h : ∀ v' w', Push w w.heap.size (.slice none 0 0) (y :: l) v' w' → wpList Try.prog ops Q rest (a.put o.dst v') w') :
    wpList Try.prog ops Q (o :: rest) a (w.alloc (.cells #[.float .f64 y] 24)) := by
  obtain ⟨i, hi, hz, hsize, hby⟩ := infoF
  have hown2 := hown.below ((Below.refl w.heap.size w).alloc (Nat.le_refl _) (.cells #[.float .f64 y] 24)) (Nat.le_refl _)
  have hrow : (w.alloc (.cells #[.float .f64 y] 24)).ownsRow w.heap.size 24 1 (.slice (some ⟨w.heap.size, 0, none⟩) 1 1) 1 [.float .f64 y] :=
    ⟨rfl, .inr ⟨w.heap.size, 1, #[.float .f64 y], rfl, Nat.le_refl _, heap_alloc_new w _, Nat.le_refl _, by unfold maxLen; omega, rfl, rfl⟩⟩
  have hyl : ∀ z ∈ y :: l, z < 18446744073709551616 := by
    intro z hz
    rcases List.mem_cons.1 hz with h | h
    · rw [h]; exact hy
    · exact hown.2 z h
  rcases hown2.cells with ⟨hv, hl0⟩ | ⟨g, cap, hv, hc⟩
  · refine wpList_append_own_none hgd s x 23 ho w.heap.size 24 i 1 Try.underlying23 hi _ 1 _ hs hrow (hx.trans hv) ?_
    have bel : Below w.heap.size w (w.alloc (.cells #[.float .f64 y] 24)) := (Below.refl _ w).alloc (Nat.le_refl _) _
    refine h _ _ ⟨⟨by rw [hl0]; exact hrow, hyl⟩, World.grownBy_alloc w _ _, .inr ⟨w.heap.size, rfl, Nat.le_refl _⟩, bel⟩
  · refine wpList_append_own_at _ hgd s x 23 ho w.heap.size 24 i (.float .f64 0) 1 8 Try.underlying23 hi hz hsize hby rfl (by decide) _ 1 _ hs hrow ⟨g, 0, none⟩ l.length cap (l.map (Value.float .f64)) (hx.trans hv) (by simp) hc ?_ ?_ ?_ ?_ ?_
    · intro u hu; simp at hu; obtain ⟨_, _, rfl⟩ := hu; rfl
    · unfold maxLen; omega
    · omega
    · simp
    · intro v' w' h1 h2 _ hat
      have g2 : w.grownBy w' (Value.ownBlock (.slice none 0 0)) := ⟨h2.os, h2.tape, h2.output, by have := h2.size; simp at this; omega, fun k hk hne => (h2.block k (by simp; omega) (by simp [Value.ownBlock]; omega)).trans (Below.heap_alloc _ _ _ hk)⟩
      refine h v' w' ⟨⟨?_, hyl⟩, g2, ?_, (Below.refl _ w).grown g2 (Nat.le_refl _) (fun k hk => by cases hk)⟩
      · rw [show (y :: l).length = 1 + l.length by simp; omega]; simpa using h1
      · rcases hat with hat | hat
        · exact .inr ⟨w.heap.size, hat, Nat.le_refl _⟩
        · exact .inr ⟨_, hat, by simp⟩
theorem Own.kept {w w' : World} {base : Nat} {v : Value} {l : List Nat} {row : Option Nat} (h : Own w base v l) (hg : w.grownBy w' row) (hne : v.ownBlock = none ∨ v.ownBlock ≠ row) : Own w' base v l := ⟨h.1.kept hg hne, h.2⟩
/-- Two rows in blocks of their own. -/
def Apart (v u : Value) : Prop := ∀ g, v.ownBlock = some g → u.ownBlock ≠ some g
theorem Apart.symm {v u : Value} (h : Apart v u) : Apart u v := fun g hu hv => h g hv hu
theorem Apart.ne {v u : Value} (h : Apart v u) : v.ownBlock = none ∨ v.ownBlock ≠ u.ownBlock := by
  cases e : v.ownBlock with
  | none => exact .inl rfl
  | some g => exact .inr fun k => h g e k.symm
theorem Apart.push {w : World} {base : Nat} {v v' u : Value} {l : List Nat} (h : Apart v u) (hu : Own w base u l) (hv : v'.ownBlock = v.ownBlock ∨ ∃ g, v'.ownBlock = some g ∧ w.heap.size ≤ g) : Apart v' u := by
  intro g e k
  rcases hv with hv | ⟨g', e', hg⟩
  · exact h g (hv ▸ e) k
  · rw [e'] at e
    cases e
    have := (hu.1.lt g k).2
    omega
theorem Apart.nil (u : Value) : Apart (.slice none 0 0) u := fun g h => by cases h
/-- The numbers of Floats. -/
def flo (zs : Nat → Int) (k : Nat) : List Nat := (List.range k).map fun i => (zs i).toNat
theorem flo_succ (zs : Nat → Int) (k : Nat) : flo zs (k + 1) = flo zs k ++ [(zs k).toNat] := by simp [flo, List.range_succ]
theorem flo_len (zs : Nat → Int) (k : Nat) : (flo zs k).length = k := by simp [flo]
end Go.Proofs.Ytggjcfmoebghjaa
