/- Rows of numbers of one's own, made longer and written to. -/
import Derived.Test.YtdmfooejjpppkaaPk
namespace Go.Proofs.Ytdmfooejjpppkaa
open Go.RowKit

/-- The numbers of a row, as values. -/
abbrev vals (k : IntKind) (l : List Nat) : List Value := l.map fun n => Value.int k (n : Nat)
/-- A row of one's own. -/
def OwnL (k : IntKind) (t : TypeId) (w : World) (base : Nat) (v : Value) (l : List Nat) : Prop := w.ownsRow base t 1 v l.length (vals k l)
/-- The first n of a row. -/
def rowL (f : Nat → Nat) (n : Nat) : List Nat := (List.range n).map f
theorem rowL_len (f : Nat → Nat) (n : Nat) : (rowL f n).length = n := by simp [rowL]
theorem rowL_get (f : Nat → Nat) (n i : Nat) (h : i < n) : (rowL f n).getD i 0 = f i := by simp [rowL, h]
theorem rowL_succ (f : Nat → Nat) (n : Nat) : rowL f (n + 1) = rowL f n ++ [f n] := by simp [rowL, List.range_succ]
theorem rowL_of (l : List Nat) : rowL (fun i => l.getD i 0) l.length = l := by
  apply List.ext_getElem
  · simp [rowL]
  · intro i h1 h2; simp [rowL, h2]

theorem OwnL.nil (k : IntKind) (t : TypeId) (w : World) (base : Nat) : OwnL k t w base (.slice none 0 0) [] := World.ownsRow_nil _ _ _ _
theorem OwnL.empty (k : IntKind) (t : TypeId) (w : World) : OwnL k t (w.alloc (.cells #[] t)) w.heap.size (.slice (some ⟨w.heap.size, 0, none⟩) 0 0) [] :=
  ⟨rfl, .inr ⟨w.heap.size, 0, #[], rfl, Nat.le_refl _, heap_alloc_new w _, Nat.le_refl _, by unfold maxLen; omega, rfl, rfl⟩⟩
theorem OwnL.one (k : IntKind) (t : TypeId) (w : World) (x : Nat) : OwnL k t (w.alloc (.cells #[.int k (x : Nat)] t)) w.heap.size (.slice (some ⟨w.heap.size, 0, none⟩) 1 1) [x] :=
  ⟨rfl, .inr ⟨w.heap.size, 1, #[.int k (x : Nat)], rfl, Nat.le_refl _, heap_alloc_new w _, Nat.le_refl _, by unfold maxLen; omega, rfl, rfl⟩⟩
theorem OwnL.below {k : IntKind} {t : TypeId} {w w' : World} {base base' : Nat} {v : Value} {l : List Nat} (h : OwnL k t w base v l) (b : Below base' w w') (hb : w.heap.size ≤ base') : OwnL k t w' base v l := by
  refine ⟨h.1, ?_⟩
  rcases h.2 with hn | ⟨g, cap, cur, hv, hg, hgg, rest⟩
  · exact .inl hn
  · exact .inr ⟨g, cap, cur, hv, hg, (b.block g (Nat.lt_of_lt_of_le (Array.getElem?_eq_some_iff.1 hgg).1 hb)).trans hgg, rest⟩
theorem OwnL.drewN {k : IntKind} {t : TypeId} {w : World} {base : Nat} {v : Value} {l : List Nat} (h : OwnL k t w base v l) (n : Nat) : OwnL k t (w.drewN n) base v l := h
/-- What it is: nil, or a block. -/
theorem OwnL.form {k : IntKind} {t : TypeId} {w : World} {base : Nat} {v : Value} {l : List Nat} (h : OwnL k t w base v l) : (v = .slice none 0 0 ∧ l = []) ∨
    ∃ g cap, v = .slice (some ⟨g, 0, none⟩) l.length cap ∧ l.length ≤ cap ∧ base ≤ g ∧ g < w.heap.size ∧ (∀ i, i < l.length → w.cell? ⟨g, i, none⟩ = some (.int k (l.getD i 0 : Nat))) ∧ ∀ i, w.frozen? ⟨g, i, none⟩ = false := by
  rcases h.2 with ⟨hv, hn⟩ | ⟨g, cap, cur, hv, hb, hg, hc, _, hs, hcur⟩
  · exact .inl ⟨hv, List.length_eq_zero_iff.1 hn⟩
  · refine .inr ⟨g, cap, hv, hc, hb, (Array.getElem?_eq_some_iff.1 hg).1, fun i hi => ?_, fun i => ?_⟩
    · have h1 : w.ownsRow base t 1 (.slice (some ⟨g, 0, none⟩) l.length cap) l.length (vals k l) := hv ▸ h
      rw [h1.cellAt i (by omega)]
      simp [vals, hi]
    · simp [World.frozen?, hg]
theorem OwnL.nats {k : IntKind} {t : TypeId} {w : World} {base : Nat} {v : Value} {l : List Nat} (h : OwnL k t w base v l) : ∃ va cap, v = .slice va l.length cap ∧ l.length ≤ cap ∧ Nats k w va l.length (fun i => l.getD i 0) := by
  rcases h.form with ⟨hv, hn⟩ | ⟨g, cap, hv, hc, _, _, hcell, _⟩
  · subst hn; exact ⟨none, 0, hv, Nat.le_refl _, fun i hi => by simp at hi⟩
  · exact ⟨some ⟨g, 0, none⟩, cap, hv, hc, fun i hi => ⟨g, 0, rfl, by rw [Nat.zero_add]; exact hcell i hi⟩⟩
theorem OwnL.natsAt {k : IntKind} {t : TypeId} {w : World} {base g n cap : Nat} {l : List Nat} (h : OwnL k t w base (.slice (some ⟨g, 0, none⟩) n cap) l) : n = l.length ∧ Nats k w (some ⟨g, 0, none⟩) l.length (fun i => l.getD i 0) := by
  rcases h.form with ⟨hv, _⟩ | ⟨g', cap', hv, _, _, _, hcell, _⟩
  · cases hv
  · injection hv with hv1 hv2 hv3
    injection hv1 with hv1
    injection hv1 with hv1
    subst hv1
    exact ⟨hv2, fun i hi => ⟨g, 0, rfl, by rw [Nat.zero_add]; exact hcell i hi⟩⟩
/-- One of its numbers turned. -/
theorem OwnL.set {k : IntKind} {t : TypeId} {w : World} {base g n cap : Nat} {l : List Nat} (h : OwnL k t w base (.slice (some ⟨g, 0, none⟩) n cap) l) (i x : Nat) :
    OwnL k t (w.setCell ⟨g, i, none⟩ (.int k (x : Nat))) base (.slice (some ⟨g, 0, none⟩) n cap) (l.set i x) := by
  refine ⟨by simp [vals], ?_⟩
  rcases h.2 with ⟨hv, hn⟩ | ⟨g', cap', cur, hv, hb, hg, hc, hm, hs, hcur⟩
  · cases hv
  · injection hv with hv1 hv2 hv3
    injection hv1 with hv1
    injection hv1 with hv1
    subst hv1; subst hv2; subst hv3
    refine .inr ⟨g, cap, cur.setIfInBounds i (.int k (x : Nat)), by simp, hb, ?_, by simpa using hc, hm, by simpa using hs, ?_⟩
    · simp [World.setCell, Array.getElem?_modify, hg]
    · simp only [Nat.mul_one, List.length_set] at *
      rw [Array.toList_setIfInBounds, List.take_set, hcur]
      simp [vals, List.map_set]

/-- What an append leaves. -/
structure More (k : IntKind) (t : TypeId) (w : World) (base : Nat) (v' : Value) (l : List Nat) (w' : World) : Prop where
  own : OwnL k t w' base v' l
  bel : Below base w w'
theorem append_row {k : IntKind} {et st : TypeId} {bytes : Nat} (hinfo : (Try.prog.info? et).map (fun i => (i.zero, i.size, i.bytes)) = some (some (.int k 0), 1, bytes)) (hbb : bytes ≤ 8) (hun : Try.prog.underlying st = some (.slice et))
    {ops : Array Oper} {rest : List Oper} {o : Oper} {a : Act} {Q : Exit → Act → World → Prop} (w : World) (hgd : o.guard = none) (s x : Operand)
    (ho : o.op = .call { callee := .builtin .append, args := #[s, x], argTypes := #[st, st] }) (base : Nat) (v : Value) (l : List Nat)
    (hs : a.eval s = v) (hown : OwnL k et w base v l) (xa : Option Addr) (xl xc : Nat) (f : Nat → Nat) (hx : a.eval x = .slice xa xl xc) (hxc : xa = none → xl = 0 ∧ xc = 0) (hN : Nats k w xa xl f) (hl : l.length + xl ≤ 1000000) (hbase : base ≤ w.heap.size)
    (h : ∀ v' w', More k et w base v' (l ++ rowL f xl) w' → wpList Try.prog ops Q rest (a.put o.dst v') w') :
    wpList Try.prog ops Q (o :: rest) a w := by
  obtain ⟨i, hi, hzz⟩ := Option.map_eq_some_iff.1 hinfo
  simp only [Prod.mk.injEq] at hzz
  obtain ⟨hz, hsize, hby⟩ := hzz
  have own_lt : ∀ g, v.ownBlock = some g → base ≤ g := fun g hg => (hown.lt g hg).1
  cases xa with
  | none =>
    obtain ⟨e1, e2⟩ := hxc rfl
    subst e1; subst e2
    refine wpList_append_own_none hgd s x st ho base et i 1 hun hi v _ _ hs hown hx ?_
    exact h _ _ ⟨by simpa [rowL] using hown, Below.refl _ _⟩
  | some ad =>
    refine wpList_append_own_at _ hgd s x st ho base et i (.int k 0) 1 bytes hun hi hz hsize hby rfl (by decide) v l.length _ hs hown ad xl xc (vals k (rowL f xl)) hx (by simp [rowL]) ?_ ?_ ?_ ?_ hbase ?_
    · intro j u hu
      have hj : j < xl := by have := (List.getElem?_eq_some_iff.1 hu).1; simpa [rowL] using this
      obtain ⟨xb, xo, e, c⟩ := hN j hj
      cases e
      have hadd : (⟨xb, xo, none⟩ : Addr).add j = ⟨xb, xo + j, none⟩ := by unfold Addr.add; split <;> simp_all
      rw [hadd, c, ← hu]
      simp [rowL, hj]
    · intro u hu; simp at hu; obtain ⟨_, _, rfl⟩ := hu; rfl
    · unfold maxLen; omega
    · have : (l.length + xl) * bytes ≤ 1000000 * 8 := Nat.mul_le_mul hl hbb
      omega
    · intro v' w' h1 h2 _ _
      refine h v' w' ⟨?_, (Below.refl base w).grown h2 hbase own_lt⟩
      have : OwnL k et w' base v' (l ++ rowL f xl) := by
        unfold OwnL
        rw [List.length_append, rowL_len, vals, List.map_append]
        exact h1
      exact this
theorem append_u8 {ops : Array Oper} {rest : List Oper} {o : Oper} {a : Act} {Q : Exit → Act → World → Prop} (w : World) (hgd : o.guard = none) (s x : Operand)
    (ho : o.op = .call { callee := .builtin .append, args := #[s, x], argTypes := #[22, 22] }) (base : Nat) (v : Value) (l : List Nat) (y : Nat)
    (hs : a.eval s = v) (hown : OwnL .u8 5 w base v l) (hx : a.eval x = .slice (some ⟨w.heap.size, 0, none⟩) 1 1) (hl : l.length + 1 ≤ 1000000) (hbase : base ≤ w.heap.size)
    (h : ∀ v' w', More .u8 5 w base v' (l ++ [y]) w' → wpList Try.prog ops Q rest (a.put o.dst v') w') :
    wpList Try.prog ops Q (o :: rest) a (w.alloc (.cells #[.int .u8 (y : Nat)] 5)) := by
  have b0 : Below w.heap.size w (w.alloc (.cells #[.int .u8 (y : Nat)] 5)) := (Below.refl _ w).alloc (Nat.le_refl _) _
  refine append_row infoB (by decide) Try.underlying22 _ hgd s x ho base v l hs (hown.below b0 (Nat.le_refl _)) _ 1 1 (fun _ => y) hx (fun e => by cases e) ?_ hl (by simp; omega) ?_
  · intro i hi
    obtain rfl : i = 0 := by omega
    refine ⟨_, _, rfl, ?_⟩
    simp
  · intro v' w' hm
    exact h v' w' ⟨by simpa [rowL] using hm.own, (b0.mono hbase).trans hm.bel⟩
theorem append_u64 {ops : Array Oper} {rest : List Oper} {o : Oper} {a : Act} {Q : Exit → Act → World → Prop} (w : World) (hgd : o.guard = none) (s x : Operand)
    (ho : o.op = .call { callee := .builtin .append, args := #[s, x], argTypes := #[23, 23] }) (base : Nat) (v : Value) (l : List Nat) (y : Nat)
    (hs : a.eval s = v) (hown : OwnL .u64 26 w base v l) (hx : a.eval x = .slice (some ⟨w.heap.size, 0, none⟩) 1 1) (hl : l.length + 1 ≤ 1000000) (hbase : base ≤ w.heap.size)
    (h : ∀ v' w', More .u64 26 w base v' (l ++ [y]) w' → wpList Try.prog ops Q rest (a.put o.dst v') w') :
    wpList Try.prog ops Q (o :: rest) a (w.alloc (.cells #[.int .u64 (y : Nat)] 26)) := by
  have b0 : Below w.heap.size w (w.alloc (.cells #[.int .u64 (y : Nat)] 26)) := (Below.refl _ w).alloc (Nat.le_refl _) _
  refine append_row infoU (by decide) Try.underlying23 _ hgd s x ho base v l hs (hown.below b0 (Nat.le_refl _)) _ 1 1 (fun _ => y) hx (fun e => by cases e) ?_ hl (by simp; omega) ?_
  · intro i hi
    obtain rfl : i = 0 := by omega
    refine ⟨_, _, rfl, ?_⟩
    simp
  · intro v' w' hm
    exact h v' w' ⟨by simpa [rowL] using hm.own, (b0.mono hbase).trans hm.bel⟩
end Go.Proofs.Ytdmfooejjpppkaa
