/- ReplyTells: the rows that the law makes. -/
import Derived.Test.YticflknfkaoejaaDoorTf
import Derived.Test.YticflknfkaoejaaDoorTg
import Derived.Test.YticflknfkaoejaaDoorTh
import Derived.Test.YticflknfkaoejaaDoorTk
import Derived.Test.YticflknfkaoejaaDoorInQ
import Derived.Deep.RegionHeld3
namespace Go.Proofs.YticflknfkaoejaaDoor
open Go.RowKit

/-- An append, its run told, in a region that draws. -/
theorem step_append_run {P : Program} {ops : Array Oper} {o : Oper} {a : Act} {w : World} {K : Act → World → Prop} {Q : Exit → Act → World → Prop} {E : Prop} (hgd : o.guard = none) (s x : Operand) (t : TypeId)
    (ho : o.op = .call { callee := .builtin .append, args := #[s, x], argTypes := #[t, t] }) (vs vx : Value) (hs : a.eval s = vs) (hx : a.eval x = vx) (v' : Value) (w' : World) (hr : (Builtin.append_ #[t, t] o.type #[vs, vx]).run P w = .ok v' w')
    (h : K (a.put o.dst v') w') : if Region.wanted o (yielded ops a.tmps) = true then Oper.wp P o a w K Q else E := by
  rw [if_pos (by simp [Region.wanted, hgd])]
  unfold Oper.wp execOp
  simp only [ho, resolve, invoke, builtin, Sem.run_bind, Sem.run_pure, Result.andThen_ok, List.map_toArray, List.map_cons, List.map_nil, hs, hx, hr]
  exact h
/-- Rows of two cells each: their cells. -/
def twoC (F G : Nat → Value) (k : Nat) : List Value := ((List.range k).map fun i => [F i, G i]).flatten
theorem twoC_succ (F G : Nat → Value) (k : Nat) : twoC F G (k + 1) = twoC F G k ++ [F k, G k] := by
  unfold twoC; rw [List.range_succ, List.map_append, List.flatten_append]; simp
theorem twoC_len (F G : Nat → Value) (k : Nat) : (twoC F G k).length = k * 2 := by
  induction k with
  | zero => rfl
  | succ k ih => rw [twoC_succ, List.length_append, ih]; simp; omega
theorem twoC_get (F G : Nat → Value) (n k : Nat) (h : k < n) : (twoC F G n)[k * 2]? = some (F k) ∧ (twoC F G n)[k * 2 + 1]? = some (G k) := by
  induction n with
  | zero => omega
  | succ n ih =>
    rw [twoC_succ]
    by_cases hk : k < n
    · rw [List.getElem?_append_left (by rw [twoC_len]; omega), List.getElem?_append_left (by rw [twoC_len]; omega)]
      exact ih hk
    · obtain rfl : k = n := by omega
      rw [List.getElem?_append_right (by rw [twoC_len]; omega), List.getElem?_append_right (by rw [twoC_len]; omega), twoC_len]
      rw [show k * 2 - k * 2 = 0 by omega, show k * 2 + 1 - k * 2 = 1 by omega]
      exact ⟨rfl, rfl⟩
/-- A row of one's own of two cells each. -/
def Row2 (w : World) (lo t : Nat) (v : Value) (F G : Nat → Value) (k : Nat) : Prop := w.ownsRow lo t 2 v k (twoC F G k)
theorem Row2.cells {w : World} {lo t : Nat} {p : Option Addr} {c n : Nat} {F G : Nat → Value} (h : Row2 w lo t (.slice p n c) F G n) (i : Nat) (hi : i < n) : ∃ g, p = some ⟨g, 0, none⟩ ∧ w.cell? ⟨g, 0 + i * 2, none⟩ = some (F i) ∧ w.cell? ⟨g, 0 + i * 2 + 1, none⟩ = some (G i) ∧ g < w.heap.size := by
  rcases h.2 with ⟨hv, hn⟩ | ⟨g, cap, cur, hv, hb, hg, hc, _, hs, hcur⟩
  · omega
  · injection hv with e1 e2 e3
    subst e1
    have h1 : w.ownsRow lo t 2 (.slice (some ⟨g, 0, none⟩) n c) n (twoC F G n) := h
    obtain ⟨e1, e2⟩ := twoC_get F G n i hi
    refine ⟨g, rfl, ?_, ?_, (Array.getElem?_eq_some_iff.1 hg).1⟩
    · rw [Nat.zero_add, h1.cellAt (i * 2) (by omega), e1]
    · rw [Nat.zero_add, h1.cellAt (i * 2 + 1) (by omega), e2]
theorem Row2.keep {w w' : World} {lo t : Nat} {v : Value} {F G : Nat → Value} {k : Nat} (h : Row2 w lo t v F G k) (f : Still w w') : Row2 w' lo t v F G k := owns_same h fun j hj => f.block j (h.lt j hj).2 (fun y => y)
theorem infoP : (Tryd.prog.info? 32).map (fun i => (i.zero, i.size, i.bytes)) = some (some (.agg #[.string ⟨#[]⟩, .string ⟨#[]⟩]), 2, 32) := by kernel_rfl
theorem infoM : (Tryd.prog.info? 39).map (fun i => (i.zero, i.size, i.bytes)) = some (some (.agg #[.string ⟨#[]⟩, .float .f64 0]), 2, 24) := by kernel_rfl
theorem infoF : (Tryd.prog.info? 35).map (fun i => (i.zero, i.size, i.bytes)) = some (some (.float .f64 0), 1, 8) := by kernel_rfl
/-- The law's pairs. -/
def psQ (Q : Nat → PairQ) (k : Nat) : List (List UInt8 × List UInt8) := (List.range k).map fun i => ((Q i).key, (Q i).val)
theorem psQ_len (Q : Nat → PairQ) (k : Nat) : (psQ Q k).length = k := by simp [psQ]
theorem psQ_get {Q : Nat → PairQ} {n i : Nat} {k v : List UInt8} (h : (psQ Q n)[i]? = some (k, v)) : i < n ∧ k = (Q i).key ∧ v = (Q i).val := by
  have hin : i < n := by
    have := (List.getElem?_eq_some_iff.1 h).1
    simpa [psQ] using this
  unfold psQ at h
  rw [List.getElem?_map, List.getElem?_range hin] at h
  simp only [Option.map_some, Option.some.injEq, Prod.mk.injEq] at h
  exact ⟨hin, h.1.symm, h.2.symm⟩
theorem PairsAt.prs {w : World} {a : Option Addr} {n : Nat} {Q : Nat → PairQ} (h : PairsAt w a n Q) : Prs w a (psQ Q n) := fun i k v hi => by
  obtain ⟨hin, rfl, rfl⟩ := psQ_get hi
  obtain ⟨⟨b, o, e, c0, c1⟩, sl, _⟩ := h i hin
  exact ⟨b, o, (Q i).a, (Q i).cap, e, c0, by rw [c1, sl.len], sl.rd, World.block_lt_of_cell? w _ c0⟩
theorem PairsAt.still {w w' : World} {a : Option Addr} {n : Nat} {Q : Nat → PairQ} (h : PairsAt w a n Q) (f : Still w w') : PairsAt w' a n Q := fun i hi => by
  obtain ⟨⟨b, o, e, c0, c1⟩, sl, hh⟩ := h i hi
  exact ⟨⟨b, o, e, f.cell' c0 (fun x => x), f.cell' c1 (fun x => x)⟩, sl.still f, hh⟩
theorem Row2.prs16 {w : World} {lo : Nat} {p : Option Addr} {c n : Nat} {Q : Nat → PairQ} (h : Row2 w lo 32 (.slice p n c) (fun i => sv (Q i).key) (fun i => sv (Q i).val) n) : Prs16 w p (psQ Q n) := fun i k v hi => by
  obtain ⟨hin, rfl, rfl⟩ := psQ_get hi
  obtain ⟨g, e, c0, c1, _⟩ := h.cells i hin
  exact ⟨g, 0, e, c0, c1⟩
/-- The law's members. -/
def msT (S : Nat → List UInt8) (b : Nat → Nat) (T : Nat → List UInt8) (k : Nat) : List Mb := (List.range k).map fun i => ⟨S i, b i, T i⟩
theorem msT_len (S : Nat → List UInt8) (b : Nat → Nat) (T : Nat → List UInt8) (k : Nat) : (msT S b T k).length = k := by simp [msT]
theorem msT_get {S : Nat → List UInt8} {b : Nat → Nat} {T : Nat → List UInt8} {n i : Nat} {m : Mb} (h : (msT S b T n)[i]? = some m) : i < n ∧ m = ⟨S i, b i, T i⟩ := by
  have hin : i < n := by
    have := (List.getElem?_eq_some_iff.1 h).1
    simpa [msT] using this
  unfold msT at h
  rw [List.getElem?_map, List.getElem?_range hin] at h
  simp only [Option.map_some, Option.some.injEq] at h
  exact ⟨hin, h.symm⟩
theorem msT_mem {S : Nat → List UInt8} {b : Nat → Nat} {T : Nat → List UInt8} {n : Nat} {m : Mb} (h : m ∈ msT S b T n) : ∃ i, i < n ∧ m = ⟨S i, b i, T i⟩ := by
  obtain ⟨i, hi⟩ := List.getElem?_of_mem h
  exact ⟨i, msT_get hi⟩
theorem Row2.mbs {w : World} {lo : Nat} {p : Option Addr} {c n : Nat} {S : Nat → List UInt8} {b : Nat → Nat} {T : Nat → List UInt8} (h : Row2 w lo 39 (.slice p n c) (fun i => sv (S i)) (fun i => .float .f64 (b i)) n) : Mbs w p (msT S b T n) := fun i m hi => by
  obtain ⟨hin, rfl⟩ := msT_get hi
  obtain ⟨g, e, c0, c1, hg⟩ := h.cells i hin
  exact ⟨g, 0, e, c0, c1, hg⟩
/-- A row of one's own of numbers. -/
def RowF (w : World) (lo : Nat) (v : Value) (b : Nat → Nat) (k : Nat) : Prop := w.ownsRow lo 35 1 v k ((List.range k).map fun i => .float .f64 (b i))
theorem RowF.fls {w : World} {lo : Nat} {p : Option Addr} {c n : Nat} {b : Nat → Nat} (h : RowF w lo (.slice p n c) b n) : Fls w p n b := fun i hi => by
  rcases h.2 with ⟨hv, hn⟩ | ⟨g, cap, cur, hv, hb, hg, hc, _, hs, hcur⟩
  · omega
  · injection hv with e1 e2 e3
    subst e1
    have h1 : w.ownsRow lo 35 1 (.slice (some ⟨g, 0, none⟩) n c) n ((List.range n).map fun i => .float .f64 (b i)) := h
    refine ⟨g, 0, rfl, ?_⟩
    rw [Nat.zero_add, h1.cellAt i (by omega)]
    simp [hi]
theorem RowF.form {w : World} {lo : Nat} {p : Option Addr} {c n : Nat} {b : Nat → Nat} (h : RowF w lo (.slice p n c) b n) : (p = none ∧ n = 0) ∨ ∃ g, p = some ⟨g, 0, none⟩ ∧ ∀ i, i < n → w.cell? ⟨g, i, none⟩ = some (.float .f64 (b i)) := by
  rcases h.2 with ⟨hv, hn⟩ | ⟨g, cap, cur, hv, hb, hg, hc, _, hs, hcur⟩
  · injection hv with e1 e2 e3
    exact .inl ⟨e1, hn⟩
  · injection hv with e1 e2 e3
    subst e1
    have h1 : w.ownsRow lo 35 1 (.slice (some ⟨g, 0, none⟩) n c) n ((List.range n).map fun i => .float .f64 (b i)) := h
    refine .inr ⟨g, rfl, fun i hi => ?_⟩
    rw [h1.cellAt i (by omega)]
    simp [hi]
theorem RowF.keep {w w' : World} {lo : Nat} {v : Value} {b : Nat → Nat} {k : Nat} (h : RowF w lo v b k) (f : Still w w') : RowF w' lo v b k := owns_same h fun j hj => f.block j (h.lt j hj).2 (fun y => y)
theorem StrsAt.still {w w' : World} {a : Option Addr} {n : Nat} {S : Nat → List UInt8} (h : StrsAt w a n S) (f : Still w w') : StrsAt w' a n S := fun i hi => by
  obtain ⟨b, o, e, c⟩ := h i hi
  exact ⟨b, o, e, f.cell' c fun x => x⟩
theorem mbs2 {w : World} {a p : Option Addr} {n k : Nat} {S : Nat → List UInt8} {b : Nat → Nat} {T : Nat → List UInt8} (h : StrsAt w a n S) (hk : k ≤ n) (hp : Fls w p k b) : Mbs2 w a p (msT S b T k) := fun i m hi => by
  obtain ⟨hin, rfl⟩ := msT_get hi
  exact ⟨h i (by omega), hp i hin⟩
set_option maxRecDepth 100000 in
theorem names_cut (nm : Option Addr) (nmlen nmcap j : Nat) (h : j ≤ nmcap) : ∃ nm2, (∀ w, (Instr.slice 24 (.slice nm nmlen nmcap) none (some (.int .i64 (j : Int))) none).run Tryd.prog w = .ok (.slice nm2 j nmcap) w) ∧ ∀ (u : World) (S : Nat → List UInt8) (n : Nat), StrsAt u nm n S → j ≤ n → StrsAt u nm2 j S := by
  refine ⟨if nmcap = 0 then nm else nm.map (·.add 0), fun w => ?_, fun u S n hS hj i hi => ?_⟩
  · have h2 : (j : Int) ≤ nmcap := by omega
    have he : Tryd.prog.elem 24 = 9 := by kernel_rfl
    have hu : Tryd.prog.underlying 24 = some (.slice (Tryd.prog.elem 24)) := by rw [he]; exact Tryd.underlying24
    have h3 := run_slice_h (P := Tryd.prog) (w := w) 24 nm nmlen nmcap hu .i64 (j : Int) (by omega) h2
    rw [h3, he]
    obtain ⟨i9, hi9, hz9⟩ := Option.map_eq_some_iff.1 infoS
    simp only [Prod.mk.injEq] at hz9
    have hs : (sizeOf 9).run Tryd.prog w = .ok 1 w := by simp [sizeOf, typeInfo, hi9, hz9.2.1]
    rw [hs]
    simp only [Result.andThen, sliced, Int.toNat_natCast, Nat.zero_mul, Nat.sub_zero]
  · obtain ⟨b, o, rfl, c⟩ := hS i (by omega)
    rw [if_neg (by omega)]
    exact ⟨b, o, by simp [Addr.add], c⟩
theorem Nums.still {w w' : World} {a : Option Addr} {n : Nat} {zs : Nat → Int} (h : Nums w a n zs) (f : Still w w') : Nums w' a n zs := fun i hi => by
  obtain ⟨b, o, e, c⟩ := h i hi
  exact ⟨b, o, e, f.cell' c fun x => x⟩
/-- Blocks of rows whose elements' types differ are apart. -/
theorem rows_apart {w : World} {lo lo' t t' s s' : Nat} {v v' : Value} {n n' : Nat} {xs xs' : List Value} (h : w.ownsRow lo t s v n xs) (h' : w.ownsRow lo' t' s' v' n' xs') (ht : t ≠ t') : ∀ q, v.ownBlock = some q → v'.ownBlock ≠ some q := by
  intro q e e'
  rcases h.2 with ⟨rfl, _⟩ | ⟨g, cap, cur, rfl, _, hg, _⟩
  · simp [Value.ownBlock] at e
  · rcases h'.2 with ⟨rfl, _⟩ | ⟨g', cap', cur', rfl, _, hg', _⟩
    · simp [Value.ownBlock] at e'
    · simp [Value.ownBlock] at e e'
      subst e; subst e'
      rw [hg] at hg'
      injection hg' with hh
      injection hh with _ hh2
      exact ht hh2
end Go.Proofs.YticflknfkaoejaaDoor
