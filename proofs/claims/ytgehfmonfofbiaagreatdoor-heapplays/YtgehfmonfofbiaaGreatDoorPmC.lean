/- HeapPlays: the script as it came in; what stands between two changes, and within a round. -/
import Derived.Test.YtgehfmonfofbiaaGreatDoorLw
import Derived.Deep.Slices
import Derived.ChangeSame
import Derived.ChangeArms
import Derived.Test.YtgehfmonfofbiaaGreatDoorPmB
import Derived.Test.YtgehfmonfofbiaaGreatDoorPmA
import Derived.Test.YtgehfmonfofbiaaGreatDoorSweepsW
import Derived.Deep.RegionLaw
namespace Go.Proofs.YtgehfmonfofbiaaGreatDoor
open Go.RowKit

theorem wpList_load_rowG {P : Program} {ops : Array Oper} {rest : List Oper} {o : Oper} {a : Act} {w : World} {Q : Exit → Act → World → Prop} (hw : Region.wanted o (yielded ops a.tmps) = true) (ty : TypeId) (x : Operand) (ho : o.op = .load ty x)
    (g : Nat) (hx : a.eval x = .pointer (some ⟨g, 0, none⟩)) (t : TypeId) (cs : Array Value) (fr : Nat × Nat) (d : TypeDesc) (hg : w.heap[g]? = some (.cells cs t fr))
    (hu : P.underlying ty = some d) (hd : (match d with | .struct _ | .array _ _ => true | _ => false) = true) (hi : (P.info? ty).map (·.size) = some cs.size)
    (h : wpList P ops Q rest (a.put o.dst (.agg cs)) w) : wpList P ops Q (o :: rest) a w := by
  simp only [wpList, hw, if_true]
  exact .inl (wp_load_row ty x ho g hx t cs fr d hg hu hd hi h)

/-- An op: its kind, its word, its value. -/
structure Op7 where
  kd : Int
  i : Int
  v : Int

/-- Ops that came in: the first 'len'. -/
def OpsAt (w : World) (a : Option Addr) (len : Nat) (z : Nat → Op7) : Prop :=
  ∀ k, k < len → ∃ xb xo, a = some ⟨xb, xo, none⟩ ∧ w.cell? ⟨xb, xo + k * 3, none⟩ = some (.int .i64 (z k).kd) ∧ w.cell? ⟨xb, xo + k * 3 + 1, none⟩ = some (.int .i64 (z k).i) ∧ w.cell? ⟨xb, xo + k * 3 + 2, none⟩ = some (u64 (z k).v)

theorem OpsAt.still {w w' : World} {a : Option Addr} {len : Nat} {z : Nat → Op7} (h : OpsAt w a len z) (f : Still w w') : OpsAt w' a len z := fun k hk => by
  obtain ⟨xb, xo, e, h1, h2, h3⟩ := h k hk
  exact ⟨xb, xo, e, f.cell' h1 (fun x => x), f.cell' h2 (fun x => x), f.cell' h3 (fun x => x)⟩

theorem add_none (xb xo k : Nat) : (⟨xb, xo, none⟩ : Addr).add k = ⟨xb, xo + k, none⟩ := by unfold Addr.add; split <;> simp_all

section
variable {H : Type} {enc : TypeId × Value → H} {P : Program} {w : World} {base : Nat} {held : Bool}

/-- One element of three one-cell fields, from what is read. -/
theorem three_cells {e : TypeId} {f0 f1 f2 : Field} {n : Nat} {y : Addr} {k : Nat} {d : DataW H × List MemPlace} {cs : List Value} (he : P.underlying e = some (.struct #[f0, f1, f2]))
    (o0 : f0.offset = 0) (o1 : f1.offset = 1) (o2 : f2.offset = 2) (c0 : P.cellsOf f0.type = 1) (c1 : P.cellsOf f1.type = 1) (c2 : P.cellsOf f2.type = 1)
    (h1 : w.cells? base (y.add (k * 3)) 3 = some cs) (h2 : DataW.trod enc P w base (fun _ => true) held n e cs = some d) :
    ∃ (v0 v1 v2 : Value) (q : Nat) (y0 y1 y2 : DataW H × List MemPlace), w.cell? (y.add (k * 3)) = some v0 ∧ w.cell? (y.add (k * 3 + 1)) = some v1 ∧ w.cell? (y.add (k * 3 + 2)) = some v2 ∧
      DataW.trod enc P w base (fun _ => true) held q f0.type [v0] = some y0 ∧ DataW.trod enc P w base (fun _ => true) held q f1.type [v1] = some y1 ∧ DataW.trod enc P w base (fun _ => true) held q f2.type [v2] = some y2 := by
  obtain ⟨_, hlen, hcell⟩ := World.cells?_some h1
  obtain ⟨xs, q, hq, hxy, _, hxl, hf⟩ := DataW.trod_struct he h2
  match xs, hxl, cs, hlen with
  | [y0, y1, y2], _, [v0, v1, v2], _ =>
    have g0 := hf 0 f0 rfl
    have g1 := hf 1 f1 rfl
    have g2 := hf 2 f2 rfl
    simp [o0, o1, o2, c0, c1, c2] at g0 g1 g2
    have e0 := hcell 0 (by omega)
    have e1 := hcell 1 (by omega)
    have e2 := hcell 2 (by omega)
    rw [Go.Deep.add_add] at e0 e1 e2
    exact ⟨v0, v1, v2, q, y0, y1, y2, by simpa using e0, by simpa using e1, by simpa using e2, g0, g1, g2⟩
end

section
variable {H : Type} {enc : TypeId × Value → H} {w : World} {base : Nat} {held : Bool}

end

/-- Ops that came in, each a word that is one. -/
def Ops8 (w : World) (a : Option Addr) (len : Nat) (z : Nat → Op7) : Prop := OpsAt w a len z ∧ ∀ k, k < len → 0 ≤ (z k).v ∧ (z k).v < 18446744073709551616

section
variable {H : Type} {enc : TypeId × Value → H} {w : World} {base : Nat} {held : Bool}

theorem in_ops8 {fuel : Nat} {a : Option Addr} {len cap : Nat} {x : DataW H × List MemPlace} (h : DataW.trod enc Tryz.prog w base (fun _ => true) held fuel 48 [.slice a len cap] = some x) :
    ∃ z, Ops8 w a len z ∧ len ≤ maxLen := by
  rcases Go.Deep.open_slice Tryz.underlying48 h with ⟨hcs, rfl⟩ | ⟨y, l, c, m, n, D, Pl, hcs, _, hl, hm, hmm, rfl, hx⟩
  · simp at hcs
    obtain ⟨rfl, rfl, rfl⟩ := hcs
    exact ⟨fun _ => ⟨0, 0, 0⟩, ⟨fun k hk => by omega, fun k hk => by omega⟩, Nat.zero_le _⟩
  · simp at hcs
    obtain ⟨rfl, rfl, rfl⟩ := hcs
    have hlm : len ≤ m := by rw [hmm]; split <;> omega
    have ce : Tryz.prog.cellsOf 51 = 3 := by kernel_rfl
    rw [ce] at hx
    have each : ∀ k, k < len → ∃ z : Op7, w.cell? (y.add (k * 3)) = some (.int .i64 z.kd) ∧ w.cell? (y.add (k * 3 + 1)) = some (.int .i64 z.i) ∧ w.cell? (y.add (k * 3 + 2)) = some (u64 z.v) ∧ 0 ≤ z.v ∧ z.v < 18446744073709551616 := by
      intro k hk
      obtain ⟨cs', h1, h2⟩ := hx k (by omega)
      obtain ⟨v0, v1, v2, q, y0, y1, y2, e0, e1, e2, g0, g1, g2⟩ := three_cells Tryz.underlying51 rfl rfl rfl (by kernel_rfl) (by kernel_rfl) (by kernel_rfl) h1 h2
      obtain ⟨n0, hn0, _⟩ := DataW.trod_int Tryz.underlying3 g0
      obtain ⟨n1, hn1, _⟩ := DataW.trod_int Tryz.underlying3 g1
      obtain ⟨n2, hn2, hw⟩ := DataW.trod_int Tryz.underlying31 g2
      simp at hn0 hn1 hn2
      have hb : 0 ≤ n2 ∧ n2 < 18446744073709551616 := by
        have := hw.2
        simp [Lit.wf, IntKind.min, IntKind.max, IntKind.signed, IntKind.bits] at this
        omega
      exact ⟨⟨n0, n1, n2⟩, by rw [e0, hn0], by rw [e1, hn1], by rw [e2, hn2], hb⟩
    have hz : ∃ z : Nat → Op7, ∀ k, k < len → w.cell? (y.add (k * 3)) = some (.int .i64 (z k).kd) ∧ w.cell? (y.add (k * 3 + 1)) = some (.int .i64 (z k).i) ∧ w.cell? (y.add (k * 3 + 2)) = some (u64 (z k).v) ∧ 0 ≤ (z k).v ∧ (z k).v < 18446744073709551616 := by
      classical
      refine ⟨fun k => if hk : k < len then Classical.choose (each k hk) else ⟨0, 0, 0⟩, fun k hk => ?_⟩
      simp only [dif_pos hk]
      exact Classical.choose_spec (each k hk)
    obtain ⟨z, hz⟩ := hz
    refine ⟨z, ⟨fun k hk => ?_, fun k hk => (hz k hk).2.2.2⟩, Nat.le_trans hl hm⟩
    obtain ⟨xb, xo, sp⟩ := y
    cases sp with
    | none =>
      have e := hz k hk
      rw [add_none, add_none, add_none] at e
      exact ⟨xb, xo, rfl, e.1, by rw [Nat.add_assoc]; exact e.2.1, by rw [Nat.add_assoc]; exact e.2.2.1⟩
    | some q =>
      exfalso
      have c0 := (hz 0 (by omega)).1
      have hadd : (⟨xb, xo, some q⟩ : Addr).add (0 * 3) = ⟨xb, xo, some q⟩ := by unfold Addr.add; split <;> simp_all
      rw [hadd] at c0
      simp only [World.cell?] at c0
      split at c0
      · simp at c0
      · simp at c0
end

/-- The law's own blocks. -/
def PlX (hb bs bh bl br bi : Nat) (vl : Value) : Nat → Prop := fun k => k = hb ∨ k = bs ∨ k = bh ∨ k = bl ∨ k = br ∨ k = bi ∨ vl.ownBlock = some k
/-- The heap and the store behind the boxes. -/
structure PlH (w wr : World) (b bs bh bl br bi hb sb : Nat) (T : Tay) (A : Ab) (s : Int) (base : Nat → Int) (ls : List (Nat × Nat)) (rts : Nat → Int) (vl : Value) : Prop where
  hc : HpC w (PlX hb bs bh bl br bi vl) wr hb sb b T A 2048 True s base
  st : HpS (rb base)
  li : Lists (ask (rb base)) ls
  rt : ∀ j, j < 16 → rb base (2 + j) = rts j
  cs : Box wr bs (ptr sb)
  ch : Box wr bh (ptr hb)
  cl : Box wr bl vl
  rr : ArrAt wr br rts
  rl : wr.ownsRow w.heap.size 53 2 vl ls.length (pcells ls)
  d1 : bs < bh ∧ bh < bl ∧ bl < br ∧ br < bi
  d2 : hb ≠ bs ∧ hb ≠ bh ∧ hb ≠ bl ∧ hb ≠ br ∧ hb ≠ bi ∧ vl.ownBlock ≠ some hb
  d3 : ∀ k, vl.ownBlock = some k → br < k ∧ k ≠ bi

theorem arr_zero : arr 16 (fun _ => 0) = #[u64 0, u64 0, u64 0, u64 0, u64 0, u64 0, u64 0, u64 0, u64 0, u64 0, u64 0, u64 0, u64 0, u64 0, u64 0, u64 0] := by kernel_rfl
theorem pcells_get : ∀ {ls : List (Nat × Nat)} {j : Nat} {u : Value}, (pcells ls)[j]? = some u → ∃ k y, ls[k]? = some y ∧ ((j = k * 2 ∧ u = .int .i64 (160 + (y.1 : Int) * 8)) ∨ (j = k * 2 + 1 ∧ u = .int .i64 (y.2 : Nat))) := by
  intro ls
  induction ls with
  | nil => intro j u h; simp [pcells] at h
  | cons z ls ih =>
    intro j u h
    match j, h with
    | 0, h => simp [pcells] at h; exact ⟨0, z, rfl, .inl ⟨rfl, h.symm⟩⟩
    | 1, h => simp [pcells] at h; exact ⟨0, z, rfl, .inr ⟨rfl, h.symm⟩⟩
    | j + 2, h =>
      simp [pcells] at h
      obtain ⟨k, y, hy, e⟩ := ih h
      refine ⟨k + 1, y, by simpa using hy, ?_⟩
      rcases e with ⟨rfl, e⟩ | ⟨rfl, e⟩
      · exact .inl ⟨by omega, e⟩
      · exact .inr ⟨by omega, e⟩
theorem pcells_one {ls : List (Nat × Nat)} : ∀ u ∈ pcells ls, u.oneCell' = true := by
  induction ls with
  | nil => intro u h; simp [pcells] at h
  | cons z ls ih =>
    intro u h
    simp [pcells] at h
    rcases h with rfl | rfl | h
    · rfl
    · rfl
    · exact ih u h
theorem pcs_cells {w : World} {ad : Addr} {ls : List (Nat × Nat)} (h : PcsAt w (some ad) ls) : ∀ j u, (pcells ls)[j]? = some u → w.cell? (ad.add j) = some u := by
  intro j u hu
  obtain ⟨k, y, hy, e⟩ := pcells_get hu
  obtain ⟨xb, xo, e1, c1, c2⟩ := h k y hy
  cases e1
  rcases e with ⟨rfl, rfl⟩ | ⟨rfl, rfl⟩
  · rw [add_none]; exact c1
  · rw [add_none, ← Nat.add_assoc]; exact c2
theorem info_parts8 : ∃ i, Tryz.prog.info? 53 = some i ∧ i.zero = some (.agg #[.int .i64 0, .int .i64 0]) ∧ i.size = 2 ∧ i.bytes = 16 := by
  have hi := info_piece
  cases h : Tryz.prog.info? 53 with
  | none => rw [h] at hi; simp at hi
  | some i => rw [h] at hi; simp only [Option.map_some, Option.some.injEq, Prod.mk.injEq] at hi; exact ⟨i, rfl, hi⟩

/-- What an append of pieces leaves. -/
structure MoreP (w : World) (lo : Nat) (v v' : Value) (l : List (Nat × Nat)) (w' : World) : Prop where
  own : w'.ownsRow lo 53 2 v' l.length (pcells l)
  gr : w.grownBy w' v.ownBlock
  loc : v'.ownBlock = v.ownBlock ∨ v'.ownBlock = some w.heap.size

/-- The run of an append of pieces to a row of one's own. -/
theorem run_pcs (w : World) (lo : Nat) (ty : TypeId) (v : Value) (l ls : List (Nat × Nat)) (hown : w.ownsRow lo 53 2 v l.length (pcells l)) (xa : Option Addr) (xc : Nat) (hx : xa = none → ls = [] ∧ xc = 0) (hp : PcsAt w xa ls) (hl : l.length + ls.length ≤ 100000) (hlo : lo ≤ w.heap.size) :
    ∃ v' w', (Builtin.append_ #[49, 49] ty #[v, .slice xa ls.length xc]).run Tryz.prog w = .ok v' w' ∧ MoreP w lo v v' (l ++ ls) w' := by
  obtain ⟨i, hi, hz, hsize, hby⟩ := info_parts8
  cases xa with
  | none =>
    obtain ⟨rfl, rfl⟩ := hx rfl
    refine ⟨v, w, run_append_owned_none (P := Tryz.prog) (w := w) lo 49 ty 53 i 2 Tryz.underlying49 hi v _ _ hown, by simpa using hown, ⟨rfl, rfl, rfl, Nat.le_refl _, fun _ _ _ => rfl⟩, .inl rfl⟩
  | some ad =>
    obtain ⟨v', w', hr, h2, h3, _, h5⟩ := run_append_own_at (P := Tryz.prog) w lo 49 ty 53 i (.agg #[.int .i64 0, .int .i64 0]) 2 16 Tryz.underlying49 hi hz hsize hby rfl (by decide) v l.length (pcells l) hown ad ls.length xc (pcells ls) (by rw [pcells_len]; omega) (pcs_cells hp) pcells_one (by unfold maxLen; omega) (by omega) hlo
    exact ⟨v', w', hr, by rw [List.length_append, pcells_app]; exact h2, h3, h5⟩
/-- An append whose run is known. -/
theorem wpList_append_run {P : Program} {w : World} {ops : Array Oper} {rest : List Oper} {o : Oper} {a : Act} {Q : Exit → Act → World → Prop} (hgd : o.guard = none) (s x : Operand) (t : TypeId)
    (ho : o.op = .call { callee := .builtin .append, args := #[s, x], argTypes := #[t, t] }) (vs vx : Value) (hs : a.eval s = vs) (hx : a.eval x = vx) (v' : Value) (w' : World) (hr : (Builtin.append_ #[t, t] o.type #[vs, vx]).run P w = .ok v' w')
    (h : wpList P ops Q rest (a.put o.dst v') w') : wpList P ops Q (o :: rest) a w := by
  refine wpList_plain hgd fun K hK => ?_
  unfold Oper.wp execOp
  simp only [ho, resolve, invoke, builtin, Sem.run_bind, Sem.run_pure, Result.andThen_ok, List.map_toArray, List.map_cons, List.map_nil, hs, hx, hr]
  exact hK _ _ h
/-- A whole array read, in whatever order. -/
theorem wpQuiet_load_row {P : Program} {ops : Array Oper} {C : World → Prop} {Q : Act → Prop} {rest : List Oper} {o : Oper} {a : Act} (hgd : o.guard = none) (ty : TypeId) (x : Operand) (ho : o.op = .load ty x)
    (g : Nat) (hx : a.eval x = .pointer (some ⟨g, 0, none⟩)) (t : TypeId) (cs : Array Value) (fr : Nat × Nat) (d : TypeDesc) (hg : ∀ w, C w → w.heap[g]? = some (.cells cs t fr))
    (hu : P.underlying ty = some d) (hd : (match d with | .struct _ | .array _ _ => true | _ => false) = true) (hi : (P.info? ty).map (·.size) = some cs.size)
    (h : wpQuiet P ops C Q rest (a.put o.dst (.agg cs))) : wpQuiet P ops C Q (o :: rest) a := by
  have hw : Region.wanted o (yielded ops a.tmps) = true := by simp [Region.wanted, hgd]
  unfold wpQuiet
  rw [if_pos hw]
  refine ⟨.agg cs, fun w hC => ?_, h⟩
  unfold Oper.quietAt execOp
  simp only [ho, hx, Instr.loadAt, Instr.sureAddr, Sem.run_bind, Sem.run_pure, Result.andThen_ok, run_loadVar_row w g t ty cs fr d (hg w hC) hu hd hi]
  exact ⟨rfl, rfl⟩
theorem step_load_row {P : Program} {ops : Array Oper} {o : Oper} {a : Act} {w : World} {K : Act → World → Prop} {Q : Exit → Act → World → Prop} {E : Prop} (hgd : o.guard = none) (ty : TypeId) (x : Operand) (ho : o.op = .load ty x)
    (g : Nat) (hx : a.eval x = .pointer (some ⟨g, 0, none⟩)) (t : TypeId) (cs : Array Value) (fr : Nat × Nat) (d : TypeDesc) (hg : w.heap[g]? = some (.cells cs t fr))
    (hu : P.underlying ty = some d) (hd : (match d with | .struct _ | .array _ _ => true | _ => false) = true) (hi : (P.info? ty).map (·.size) = some cs.size)
    (h : K (a.put o.dst (.agg cs)) w) : if Region.wanted o (yielded ops a.tmps) = true then Oper.wp P o a w K Q else E := by
  rw [if_pos (by simp [Region.wanted, hgd])]
  exact wp_load_row ty x ho g hx t cs fr d hg hu hd hi h
theorem step_store_row {P : Program} {ops : Array Oper} {o : Oper} {a : Act} {w : World} {K : Act → World → Prop} {Q : Exit → Act → World → Prop} {E : Prop} (hgd : o.guard = none) (ty : TypeId) (x y : Operand) (ho : o.op = .store ty x y)
    (g : Nat) (cells : Array Value) (hx : a.eval x = .pointer (some ⟨g, 0, none⟩)) (hy : a.eval y = .agg cells) (t : TypeId) (old : Array Value) (hg : w.heap[g]? = some (.cells old t (0, 0))) (hi : (P.info? ty).map (·.size) = some cells.size)
    (hold : old.size = cells.size) (h1 : cells.all (·.oneCell') = true) (h : K (a.put o.dst undef) (w.setRow g cells)) : if Region.wanted o (yielded ops a.tmps) = true then Oper.wp P o a w K Q else E := by
  rw [if_pos (by simp [Region.wanted, hgd])]
  exact wp_store_row ty x y ho g cells hx hy t old hg hi hold h1 h
theorem step_append_run {P : Program} {ops : Array Oper} {o : Oper} {a : Act} {w : World} {K : Act → World → Prop} {Q : Exit → Act → World → Prop} {E : Prop} (hgd : o.guard = none) (s x : Operand) (t : TypeId)
    (ho : o.op = .call { callee := .builtin .append, args := #[s, x], argTypes := #[t, t] }) (vs vx : Value) (hs : a.eval s = vs) (hx : a.eval x = vx) (v' : Value) (w' : World) (hr : (Builtin.append_ #[t, t] o.type #[vs, vx]).run P w = .ok v' w')
    (h : K (a.put o.dst v') w') : if Region.wanted o (yielded ops a.tmps) = true then Oper.wp P o a w K Q else E := by
  rw [if_pos (by simp [Region.wanted, hgd])]
  unfold Oper.wp execOp
  simp only [ho, resolve, invoke, builtin, Sem.run_bind, Sem.run_pure, Result.andThen_ok, List.map_toArray, List.map_cons, List.map_nil, hs, hx, hr]
  exact h
/-- Where a row of pieces begins whose first l are left out. -/
def cutP (a : Option Addr) (cap l : Nat) : Option Addr := if cap = l then a else a.map (·.add (l * 2))
theorem size_piece (w : World) : (sizeOf 53).run Tryz.prog w = .ok 2 w := by
  obtain ⟨i, hi, _, hsize, _⟩ := info_parts8
  simp [sizeOf, typeInfo, hi, hsize]
theorem slice_fromP (a : Option Addr) (len cap l : Nat) (w : World) (hl : l ≤ len) : (Instr.slice 49 (.slice a len cap) (some (.int .i64 (l : Nat))) none none).run Tryz.prog w = .ok (.slice (cutP a cap l) (len - l) (cap - l)) w := by
  have he : Tryz.prog.elem 49 = 53 := by kernel_rfl
  rw [run_slice_l (P := Tryz.prog) w 49 a len cap (by rw [he]; exact Tryz.underlying49) .i64 (l : Nat) (by omega) (by omega), he, size_piece]
  simp [Result.andThen, sliced, cutP]
theorem slice_toP (a : Option Addr) (len cap l : Nat) (w : World) (hl : l ≤ cap) : (Instr.slice 49 (.slice a len cap) none (some (.int .i64 (l : Nat))) none).run Tryz.prog w = .ok (.slice a l cap) w := by
  have he : Tryz.prog.elem 49 = 53 := by kernel_rfl
  have ha : a.map (fun x : Addr => x.add 0) = a := by
    cases a with
    | none => rfl
    | some x => obtain ⟨b, o, s⟩ := x; simp [Addr.add]
  rw [run_slice_h (P := Tryz.prog) w 49 a len cap (by rw [he]; exact Tryz.underlying49) .i64 (l : Nat) (by omega) (by omega), he, size_piece]
  simp [Result.andThen, sliced, ha]
theorem PcsAt.take {w : World} {a : Option Addr} {ls : List (Nat × Nat)} (h : PcsAt w a ls) (k : Nat) : PcsAt w a (ls.take k) := fun j y hy => by
  rw [List.getElem?_take] at hy
  split at hy
  · exact h j y hy
  · cases hy
theorem PcsAt.drop {w : World} {a : Option Addr} {ls : List (Nat × Nat)} (h : PcsAt w a ls) (cap k : Nat) (hc : ls.length ≤ cap) : PcsAt w (cutP a cap k) (ls.drop k) := fun j y hy => by
  rw [List.getElem?_drop] at hy
  obtain ⟨xb, xo, rfl, c1, c2⟩ := h (k + j) y hy
  have hlt := (List.getElem?_eq_some_iff.1 hy).1
  unfold cutP
  rw [if_neg (by omega)]
  refine ⟨xb, xo + k * 2, by simp only [Option.map_some, add_none], ?_, ?_⟩
  · rw [show xo + k * 2 + j * 2 = xo + (k + j) * 2 by omega]; exact c1
  · rw [show xo + k * 2 + j * 2 + 1 = xo + (k + j) * 2 + 1 by omega]; exact c2

/-- All but the k-th piece, in a new row: two appends. -/
theorem run_but (w : World) (lo n : Nat) (ls : List (Nat × Nat)) (ad : Option Addr) (cp k : Nat) (hnil : ad = none → ls = [] ∧ cp = 0) (hp : PcsAt w ad ls) (hk : k < ls.length) (hcp : ls.length ≤ cp) (hl : ls.length ≤ 1000) (hlo : lo ≤ w.heap.size) (hn : w.heap.size = n) :
    ∃ v6 w6 v7 w7, (Builtin.append_ #[49, 49] 49 #[.slice (some ⟨n, 0, none⟩) 0 0, .slice ad k cp]).run Tryz.prog (w.alloc (.cells #[] 53)) = .ok v6 w6 ∧
      (Builtin.append_ #[49, 49] 49 #[v6, .slice (cutP ad cp (k + 1)) (ls.length - (k + 1)) (cp - (k + 1))]).run Tryz.prog w6 = .ok v7 w7 ∧ Still w w6 ∧ Still w w7 ∧
      w7.ownsRow lo 53 2 v7 (ls.eraseIdx k).length (pcells (ls.eraseIdx k)) ∧ ∀ j, v7.ownBlock = some j → w.heap.size ≤ j := by
  subst hn
  have fA : Still w (w.alloc (.cells #[] 53)) := (Fr.refl _ w).alloc _
  have zA : (w.alloc (.cells #[] 53)).heap.size = w.heap.size + 1 := by simp
  have own0 : (w.alloc (.cells #[] 53)).ownsRow lo 53 2 (.slice (some ⟨w.heap.size, 0, none⟩) 0 0) ([] : List (Nat × Nat)).length (pcells []) :=
    ⟨rfl, .inr ⟨w.heap.size, 0, #[], rfl, hlo, heap_alloc_new w _, Nat.le_refl _, by unfold maxLen; omega, rfl, rfl⟩⟩
  have tk : (ls.take k).length = k := by rw [List.length_take]; omega
  have hne : ad ≠ none := fun e => by have := (hnil e).1; subst this; simp at hk
  obtain ⟨v6, w6, h6, M6⟩ := run_pcs (w.alloc (.cells #[] 53)) lo 49 _ [] (ls.take k) own0 ad cp (fun e => absurd e hne) ((hp.kept fA).take k) (by simp; omega) (by omega)
  rw [tk] at h6
  have f6 : Still w w6 := by
    have : Fr (fun j => (Value.slice (some ⟨w.heap.size, 0, none⟩) 0 0).ownBlock = some j) (w.alloc (.cells #[] 53)) w6 := (Fr.refl _ _).grown M6.gr (fun r e => .inl e)
    exact fA.trans' this (fun j hj => .inr (by simp [Value.ownBlock] at hj; omega))
  have l6 : ∀ j, v6.ownBlock = some j → w.heap.size ≤ j := fun j hj => by
    rcases M6.loc with e | e
    · rw [hj] at e; simp [Value.ownBlock] at e; omega
    · rw [hj] at e; have := Option.some.inj e; omega
  have dl : (ls.drop (k + 1)).length = ls.length - (k + 1) := by simp
  obtain ⟨v7, w7, h7, M7⟩ := run_pcs w6 lo 49 v6 (ls.take k) (ls.drop (k + 1)) (by simpa using M6.own) (cutP ad cp (k + 1)) (cp - (k + 1)) (fun e => by
    unfold cutP at e
    split at e
    · exact absurd e hne
    · cases ad with
      | none => exact absurd rfl hne
      | some x => simp at e) ((hp.kept f6).drop cp (k + 1) hcp) (by simp; omega) (by have := f6.size; omega)
  rw [dl] at h7
  have f7 : Still w w7 := by
    have : Fr (fun j => v6.ownBlock = some j) w6 w7 := (Fr.refl _ _).grown M7.gr (fun r e => .inl e)
    exact f6.trans' this (fun j hj => .inr (l6 j hj))
  refine ⟨v6, w6, v7, w7, by simpa using h6, h7, f6, f7, ?_, fun j hj => ?_⟩
  · rw [List.eraseIdx_eq_take_drop_succ]; exact M7.own
  · rcases M7.loc with e | e
    · exact l6 j (by rw [← e]; exact hj)
    · rw [hj] at e; have := Option.some.inj e; have := f6.size; omega

/-- The law's blocks within a round. -/
def PlY (hb bs bh bl br bi : Nat) (vl : Value) (bo bw ba : Nat) (vn : Value) : Nat → Prop := fun k => PlX hb bs bh bl br bi vl k ∨ k = bo ∨ k = bw ∨ k = ba ∨ vn.ownBlock = some k
/-- What stands within a round: the op at bo, what was at bw, the place at ba, what is now vn. -/
structure PlI (w wq : World) (b bs bh bl br bi hb sb : Nat) (T : Tay) (A : Ab) (s : Int) (base : Nat → Int) (ls : List (Nat × Nat)) (rts : Nat → Int) (vl : Value) (bo bw ba : Nat) (vn : Value) (ts : Nat → Int) (nw : List (Nat × Nat)) (kd x v : Int) (m : Nat) (at_ : Int) : Prop where
  hc : HpC w (PlY hb bs bh bl br bi vl bo bw ba vn) wq hb sb b T A 2048 True s base
  st : HpS (rb base)
  cs : Box wq bs (ptr sb)
  ch : Box wq bh (ptr hb)
  cl : Box wq bl vl
  rr : ArrAt wq br rts
  rl : wq.ownsRow w.heap.size 53 2 vl ls.length (pcells ls)
  ib : Box wq bi (.int .i64 m)
  oc : wq.heap[bo]? = some (.cells #[.int .i64 kd, .int .i64 x, .int .u64 v] 51)
  wa : ArrAt wq bw ts
  ca : Box wq ba (.int .i64 at_)
  nr : wq.ownsRow w.heap.size 53 2 vn nw.length (pcells nw)
  d1 : bs < bh ∧ bh < bl ∧ bl < br ∧ br < bi ∧ bi < bo ∧ bo < bw ∧ bw < ba ∧ w.heap.size ≤ bs
  d2 : hb ≠ bs ∧ hb ≠ bh ∧ hb ≠ bl ∧ hb ≠ br ∧ hb ≠ bi ∧ vl.ownBlock ≠ some hb ∧ hb ≠ bo ∧ hb ≠ bw ∧ hb ≠ ba
  d3 : ∀ k, vl.ownBlock = some k → br < k ∧ k ≠ bi ∧ k < bo
  d4 : ∀ k, vn.ownBlock = some k → bo < k ∧ k ≠ bw ∧ k ≠ ba ∧ k ≠ hb

section
variable {w wq w' : World} {b bs bh bl br bi hb sb : Nat} {T T' : Tay} {A A' : Ab} {s s' : Int} {base base' : Nat → Int} {ls nw : List (Nat × Nat)} {rts ts : Nat → Int} {vl vn : Value} {bo bw ba : Nat} {kd x v at_ at' : Int} {m : Nat}

/-- What the closure finds. -/
theorem PlI.w0 {ad : Option Addr} {cp : Nat} (S : PlI w wq b bs bh bl br bi hb sb T A s base ls rts (.slice ad ls.length cp) bo bw ba vn ts nw kd x v m 0) : ∀ w3, Still wq w3 → PlW w3 hb sb b T A [] bo bh ba bs bi bl kd x v m (.int .i64 0) ad ls.length cp := by
  intro w3 f3
  have sy := S.hc.says []
  rw [homed_nil] at sy
  have hd := S.hc.hd
  have l0 := S.hc.l0
  obtain ⟨e1, e2, e3, e4, e5, e6, e7, e8⟩ := S.d1
  refine ⟨S.hc.toHp.still f3, by rw [sy]; exact S.st, f3.cell' (cell_of_obj S.oc 0) (fun x => x), f3.cell' (cell_of_obj S.oc 1) (fun x => x), f3.cell' (cell_of_obj S.oc 2) (fun x => x), f3.cell' S.ch.c (fun x => x), f3.cell' S.cs.c (fun x => x), f3.cell' S.ib.c (fun x => x), f3.cell' S.cl.c (fun x => x), S.ca.kept f3 (fun x => x), fun k hk => hd.ap k ?_, ⟨by omega, by omega, by omega, by omega, by omega, by have := S.d2; omega, by omega⟩⟩
  rcases hk with rfl | rfl | rfl | rfl | rfl | rfl
  · exact .inr (.inl rfl)
  · exact .inl (.inr (.inr (.inl rfl)))
  · exact .inl (.inr (.inl rfl))
  · exact .inl (.inr (.inr (.inr (.inr (.inr (.inl rfl))))))
  · exact .inl (.inr (.inr (.inr (.inl rfl))))
  · exact .inr (.inr (.inr (.inl rfl)))

/-- Behind a Do. -/
theorem PlI.did (S : PlI w wq b bs bh bl br bi hb sb T A s base ls rts vl bo bw ba vn ts nw kd x v m at_) (fr : Fr (fun k => tfoot sb b T k ∨ k = ba) wq w') (hc' : HpC w (PlY hb bs bh bl br bi vl bo bw ba vn) w' hb sb b T' A' 2048 True s' base') (st' : HpS (rb base')) (ca : Box w' ba (.int .i64 at')) :
    PlI w w' b bs bh bl br bi hb sb T' A' s' base' ls rts vl bo bw ba vn ts nw kd x v m at' := by
  obtain ⟨e1, e2, e3, e4, e5, e6, e7, e8⟩ := S.d1
  have bx : ∀ {r : Nat} {u : Value}, PlY hb bs bh bl br bi vl bo bw ba vn r → r ≠ ba → Box wq r u → Box w' r u := fun hY hn h => S.hc.box (V := fun k => k = ba) fr hY hn h
  have ok : ∀ r, PlY hb bs bh bl br bi vl bo bw ba vn r → r ≠ ba → ¬ (tfoot sb b T r ∨ r = ba) := fun r hY hn e => e.elim (S.hc.hd.ap r hY) hn
  refine ⟨hc', st', bx (.inl (.inr (.inl rfl))) (by omega) S.cs, bx (.inl (.inr (.inr (.inl rfl)))) (by omega) S.ch, bx (.inl (.inr (.inr (.inr (.inl rfl))))) (by omega) S.cl, S.rr.kept fr (ok br (.inl (.inr (.inr (.inr (.inr (.inl rfl)))))) (by omega)), S.hc.row (V := fun k => k = ba) fr (fun k hk => ⟨.inl (.inr (.inr (.inr (.inr (.inr (.inr hk)))))), by have := S.d3 k hk; show ¬ k = ba; omega⟩) S.rl, bx (.inl (.inr (.inr (.inr (.inr (.inr (.inl rfl))))))) (by omega) S.ib, ?_, S.wa.kept fr (ok bw (.inr (.inr (.inl rfl))) (by omega)), ca, S.hc.row (V := fun k => k = ba) fr (fun k hk => ⟨.inr (.inr (.inr (.inr hk))), (S.d4 k hk).2.2.1⟩) S.nr, S.d1, S.d2, S.d3, S.d4⟩
  exact (fr.block bo (Array.getElem?_eq_some_iff.1 S.oc).1 (ok bo (.inr (.inl rfl)) (by omega))).trans S.oc

/-- Something that is none of the law's blocks turned, or a new row of what is now was made. -/
theorem PlI.now {vn' : Value} {nw' : List (Nat × Nat)} {F : Nat → Prop} (S : PlI w wq b bs bh bl br bi hb sb T A s base ls rts vl bo bw ba vn ts nw kd x v m at_) (fr : Fr F wq w') (hF : ∀ k, F k → vn.ownBlock = some k) (nr : w'.ownsRow w.heap.size 53 2 vn' nw'.length (pcells nw')) (loc : ∀ k, vn'.ownBlock = some k → vn.ownBlock = some k ∨ wq.heap.size ≤ k) :
    PlI w w' b bs bh bl br bi hb sb T A s base ls rts vl bo bw ba vn' ts nw' kd x v m at_ := by
  obtain ⟨e1, e2, e3, e4, e5, e6, e7, e8⟩ := S.d1
  have nf : ∀ k, k ≤ bo ∨ k = bw ∨ k = ba ∨ k = hb → ¬ F k := fun k hk hf => by have := S.d4 k (hF k hf); omega
  have lba := S.ca.lt
  have lhb := (S.hc.hd.xl hb S.hc.xh).2
  have hc' := S.hc.grow (Y := PlY hb bs bh bl br bi vl bo bw ba vn') fr (fun k hk => .inr (.inr (.inr (.inr (hF k hk))))) (nf hb (by simp)) (fun k hk => by
    rcases hk with hk | hk | hk | hk | hk
    · exact .inl (.inl hk)
    · exact .inl (.inr (.inl hk))
    · exact .inl (.inr (.inr (.inl hk)))
    · exact .inl (.inr (.inr (.inr (.inl hk))))
    · rcases loc k hk with e | e
      · exact .inl (.inr (.inr (.inr (.inr e))))
      · exact .inr ⟨e, (nr.lt k hk).2⟩) (.inl (.inl rfl))
  refine ⟨hc', S.st, S.cs.kept fr (nf _ (by omega)), S.ch.kept fr (nf _ (by omega)), S.cl.kept fr (nf _ (by omega)), S.rr.kept fr (nf _ (by omega)), row_kept S.rl fr (fun k hk => nf k (by have := S.d3 k hk; omega)), S.ib.kept fr (nf _ (by omega)), (fr.block bo (Array.getElem?_eq_some_iff.1 S.oc).1 (nf bo (by omega))).trans S.oc, S.wa.kept fr (nf bw (by simp)), S.ca.kept fr (nf ba (by simp)), nr, S.d1, S.d2, S.d3, fun k hk => ?_⟩
  rcases loc k hk with e | e
  · exact S.d4 k e
  · omega

/-- One of the words that were is turned. -/
theorem PlI.setw (S : PlI w wq b bs bh bl br bi hb sb T A s base ls rts vl bo bw ba vn ts nw kd x v m at_) (k : Nat) (u : Int) :
    PlI w (wq.setCell ⟨bw, k, none⟩ (.int .u64 u)) b bs bh bl br bi hb sb T A s base ls rts vl bo bw ba vn (upd ts k u) nw kd x v m at_ := by
  obtain ⟨e1, e2, e3, e4, e5, e6, e7, e8⟩ := S.d1
  have fr : Fr (fun r => r = bw) wq (wq.setCell ⟨bw, k, none⟩ (.int .u64 u)) := (Fr.refl (fun r => r = bw) wq).setCell (.inl rfl) _
  have nf : ∀ k, k ≠ bw → ¬ (fun r => r = bw) k := fun k hk e => hk e
  refine ⟨S.hc.var fr (fun k hk => .inr (.inr (.inl hk))) (nf hb (by have := S.d2; omega)), S.st, S.cs.kept fr (nf _ (by omega)), S.ch.kept fr (nf _ (by omega)), S.cl.kept fr (nf _ (by omega)), S.rr.kept fr (nf _ (by omega)), row_kept S.rl fr (fun k hk => nf k (by have := S.d3 k hk; omega)), S.ib.kept fr (nf _ (by omega)), (fr.block bo (Array.getElem?_eq_some_iff.1 S.oc).1 (nf bo (by omega))).trans S.oc, S.wa.set k u, S.ca.kept fr (nf ba (by omega)), row_kept S.nr fr (fun k hk => nf k (S.d4 k hk).2.1), S.d1, S.d2, S.d3, S.d4⟩

/-- Nothing was done: all as ahead of the change. -/
theorem PlI.drop (S : PlI w wq b bs bh bl br bi hb sb T A s base ls rts vl bo bw ba vn ts nw kd x v m at_) (li : Lists (ask (rb base)) ls) (rt : ∀ j, j < 16 → rb base (2 + j) = rts j) : PlH w wq b bs bh bl br bi hb sb T A s base ls rts vl :=
  ⟨S.hc.sub (fun _ hk => .inl hk) (.inl rfl), S.st, li, rt, S.cs, S.ch, S.cl, S.rr, S.rl, ⟨S.d1.1, S.d1.2.1, S.d1.2.2.1, S.d1.2.2.2.1⟩, ⟨S.d2.1, S.d2.2.1, S.d2.2.2.1, S.d2.2.2.2.1, S.d2.2.2.2.2.1, S.d2.2.2.2.2.2.1⟩, fun k hk => ⟨(S.d3 k hk).1, (S.d3 k hk).2.1⟩⟩
/-- What is now, and what was, are kept. -/
theorem PlI.take (S : PlI w wq b bs bh bl br bi hb sb T A s base ls rts vl bo bw ba vn ts nw kd x v m at_) (li : Lists (ask (rb base)) nw) (rt : ∀ j, j < 16 → rb base (2 + j) = ts j) (q : Nat) :
    PlH w (((wq.drewN q).setCell ⟨bl, 0, none⟩ vn).setRow br (arr 16 ts)) b bs bh bl br bi hb sb T A s base nw ts vn ∧ Box (((wq.drewN q).setCell ⟨bl, 0, none⟩ vn).setRow br (arr 16 ts)) bi (.int .i64 m) := by
  obtain ⟨e1, e2, e3, e4, e5, e6, e7, e8⟩ := S.d1
  have f1 : Fr (fun r => r = bl) wq ((wq.drewN q).setCell ⟨bl, 0, none⟩ vn) := ((Fr.refl (fun r => r = bl) wq).drewN q).setCell (.inl rfl) _
  have f2 : Fr (fun r => r = br) ((wq.drewN q).setCell ⟨bl, 0, none⟩ vn) (((wq.drewN q).setCell ⟨bl, 0, none⟩ vn).setRow br (arr 16 ts)) := Fr.setRow _ _ _
  have f : Fr (fun r => r = bl ∨ r = br) wq (((wq.drewN q).setCell ⟨bl, 0, none⟩ vn).setRow br (arr 16 ts)) := (f1.mono (fun k hk => .inl (.inl hk))).trans' f2 (fun k hk => .inl (.inr hk))
  have nf : ∀ k, k ≠ bl → k ≠ br → ¬ (fun r => r = bl ∨ r = br) k := fun k h1 h2 e => e.elim h1 h2
  have hl := S.cl
  have cl' : Box (((wq.drewN q).setCell ⟨bl, 0, none⟩ vn).setRow br (arr 16 ts)) bl vn := by
    have h1 : Box (wq.drewN q) bl vl := ⟨hl.c, hl.z, hl.lt⟩
    exact (h1.set vn).kept f2 (by show ¬ bl = br; omega)
  have rr' : ArrAt (((wq.drewN q).setCell ⟨bl, 0, none⟩ vn).setRow br (arr 16 ts)) br ts := by
    have h1 : ArrAt ((wq.drewN q).setCell ⟨bl, 0, none⟩ vn) br rts := S.rr.kept f1 (by show ¬ br = bl; omega)
    exact setRow_heap _ br (arr 16 rts) (arr 16 ts) 39 (0, 0) h1
  refine ⟨⟨(S.hc.var f (fun k hk => .inl (by rcases hk with rfl | rfl; exact .inr (.inr (.inr (.inl rfl))); exact .inr (.inr (.inr (.inr (.inl rfl)))))) (nf hb S.d2.2.2.1 S.d2.2.2.2.1)).sub (fun k hk => ?_) (.inl rfl), S.st, li, rt, S.cs.kept f (nf bs (by omega) (by omega)), S.ch.kept f (nf bh (by omega) (by omega)), cl', rr', row_kept S.nr f (fun k hk => nf k (by have := S.d4 k hk; omega) (by have := S.d4 k hk; omega)), ⟨e1, e2, e3, e4⟩, ⟨S.d2.1, S.d2.2.1, S.d2.2.2.1, S.d2.2.2.2.1, S.d2.2.2.2.2.1, fun e => (S.d4 hb e).2.2.2 rfl⟩, fun k hk => by have := S.d4 k hk; omega⟩, S.ib.kept f (nf bi (by omega) (by omega))⟩
  rcases hk with hk | hk | hk | hk | hk | hk | hk
  · exact .inl (.inl hk)
  · exact .inl (.inr (.inl hk))
  · exact .inl (.inr (.inr (.inl hk)))
  · exact .inl (.inr (.inr (.inr (.inl hk))))
  · exact .inl (.inr (.inr (.inr (.inr (.inl hk)))))
  · exact .inl (.inr (.inr (.inr (.inr (.inr (.inl hk))))))
  · exact .inr (.inr (.inr (.inr hk)))

/-- The next round's number. -/
theorem PlH.next (S : PlH w wq b bs bh bl br bi hb sb T A s base ls rts vl) (f : Still wq w') {bi' : Nat} (h1 : wq.heap.size ≤ bi') (h2 : bi' < w'.heap.size) : PlH w w' b bs bh bl br bi' hb sb T A s base ls rts vl := by
  have lhb := (S.hc.hd.xl hb S.hc.xh).2
  have lbr := S.rr.lt
  refine ⟨S.hc.grow (F := fun _ => False) f (fun k hk => hk.elim) (fun x => x) (fun k hk => ?_) (.inl rfl), S.st, S.li, S.rt, S.cs.kept f (fun x => x), S.ch.kept f (fun x => x), S.cl.kept f (fun x => x), S.rr.kept f (fun x => x), row_still S.rl f, ⟨S.d1.1, S.d1.2.1, S.d1.2.2.1, by omega⟩, ⟨S.d2.1, S.d2.2.1, S.d2.2.2.1, S.d2.2.2.2.1, by omega, S.d2.2.2.2.2.2⟩, fun k hk => ⟨(S.d3 k hk).1, by have := (S.rl.lt k hk).2; omega⟩⟩
  rcases hk with hk | hk | hk | hk | hk | hk | hk
  · exact .inl (.inl hk)
  · exact .inl (.inr (.inl hk))
  · exact .inl (.inr (.inr (.inl hk)))
  · exact .inl (.inr (.inr (.inr (.inl hk))))
  · exact .inl (.inr (.inr (.inr (.inr (.inl hk)))))
  · exact .inr (by omega)
  · exact .inl (.inr (.inr (.inr (.inr (.inr (.inr hk))))))

/-- The store and the heap were opened anew. -/
theorem PlI.opened {hb' sb' : Nat} (S : PlI w wq b bs bh bl br bi hb sb T A s base ls rts vl bo bw ba vn ts nw kd x v m at_) (same : ∀ k, PlY hb bs bh bl br bi vl bo bw ba vn k → w'.heap[k]? = wq.heap[k]?)
    (hc' : HpC w (fun k => PlY hb bs bh bl br bi vl bo bw ba vn k ∨ k = hb') w' hb' sb' b T' A' 2048 True s' base) (nh : wq.heap.size ≤ hb') :
    PlI w ((w'.setCell ⟨bs, 0, none⟩ (ptr sb')).setCell ⟨bh, 0, none⟩ (ptr hb')) b bs bh bl br bi hb' sb' T' A' s' base ls rts vl bo bw ba vn ts nw kd x v m at_ := by
  obtain ⟨e1, e2, e3, e4, e5, e6, e7, e8⟩ := S.d1
  have lba := S.ca.lt
  have bx : ∀ {r : Nat} {u : Value}, PlY hb bs bh bl br bi vl bo bw ba vn r → Box wq r u → Box w' r u := fun {r u} hY h => by
    have e := same r hY
    refine ⟨(World.cell?_of_block (a := ⟨r, 0, none⟩) e).trans h.c, (World.frozen?_of_block (a := ⟨r, 0, none⟩) e).trans h.z, ?_⟩
    have h2 := h.lt
    rcases Nat.lt_or_ge r w'.heap.size with h3 | h3
    · exact h3
    · rw [Array.getElem?_eq_none h3, Array.getElem?_eq_getElem h2] at e; cases e
  have f1 : Fr (fun r => r = bs) w' (w'.setCell ⟨bs, 0, none⟩ (ptr sb')) := Fr.box w' bs _
  have f2 : Fr (fun r => r = bh) (w'.setCell ⟨bs, 0, none⟩ (ptr sb')) ((w'.setCell ⟨bs, 0, none⟩ (ptr sb')).setCell ⟨bh, 0, none⟩ (ptr hb')) := Fr.box _ bh _
  have f : Fr (fun r => r = bs ∨ r = bh) w' ((w'.setCell ⟨bs, 0, none⟩ (ptr sb')).setCell ⟨bh, 0, none⟩ (ptr hb')) := (f1.mono (fun k hk => .inl (.inl hk))).trans' f2 (fun k hk => .inl (.inr hk))
  have nf : ∀ k, k ≠ bs → k ≠ bh → ¬ (fun r => r = bs ∨ r = bh) k := fun k h1 h2 e => e.elim h1 h2
  have cs0 := bx (.inl (.inr (.inl rfl))) S.cs
  have ch0 := bx (.inl (.inr (.inr (.inl rfl)))) S.ch
  have cs1 : Box ((w'.setCell ⟨bs, 0, none⟩ (ptr sb')).setCell ⟨bh, 0, none⟩ (ptr hb')) bs (ptr sb') := (cs0.set (ptr sb')).kept f2 (by show ¬ bs = bh; omega)
  have ch1 : Box ((w'.setCell ⟨bs, 0, none⟩ (ptr sb')).setCell ⟨bh, 0, none⟩ (ptr hb')) bh (ptr hb') := (ch0.kept f1 (by show ¬ bh = bs; omega)).set _
  have lr := fun k hk => (S.rl.lt k hk).2
  have ln := fun k hk => (S.nr.lt k hk).2
  have rl1 : w'.ownsRow w.heap.size 53 2 vl ls.length (pcells ls) := owns_same S.rl fun k hk => same k (.inl (.inr (.inr (.inr (.inr (.inr (.inr hk)))))))
  have nr1 : w'.ownsRow w.heap.size 53 2 vn nw.length (pcells nw) := owns_same S.nr fun k hk => same k (.inr (.inr (.inr (.inr hk))))
  refine ⟨(hc'.var f (fun k hk => .inl (.inl (by rcases hk with rfl | rfl; exact .inr (.inl rfl); exact .inr (.inr (.inl rfl))))) (nf hb' (by omega) (by omega))).sub (fun k hk => ?_) (.inl (.inl rfl)), S.st, cs1, ch1, (bx (.inl (.inr (.inr (.inr (.inl rfl))))) S.cl).kept f (nf _ (by omega) (by omega)), ArrAt.kept (show ArrAt w' br rts from (same br (.inl (.inr (.inr (.inr (.inr (.inl rfl))))))).trans S.rr) f (nf _ (by omega) (by omega)), row_kept rl1 f (fun k hk => nf k (by have := S.d3 k hk; omega) (by have := S.d3 k hk; omega)), (bx (.inl (.inr (.inr (.inr (.inr (.inr (.inl rfl))))))) S.ib).kept f (nf _ (by omega) (by omega)), f.obj ((same bo (.inr (.inl rfl))).trans S.oc) (nf _ (by omega) (by omega)), ArrAt.kept (show ArrAt w' bw ts from (same bw (.inr (.inr (.inl rfl)))).trans S.wa) f (nf _ (by omega) (by omega)), (bx (.inr (.inr (.inr (.inl rfl)))) S.ca).kept f (nf _ (by omega) (by omega)), row_kept nr1 f (fun k hk => nf k (by have := S.d4 k hk; omega) (by have := S.d4 k hk; omega)), S.d1, ⟨by omega, by omega, by omega, by omega, by omega, fun e => by have := lr _ e; omega, by omega, by omega, by omega⟩, S.d3, fun k hk => by have h1 := S.d4 k hk; have h2 := ln k hk; omega⟩
  rcases hk with hk | hk | hk | hk | hk
  · rcases hk with hk | hk
    · exact .inr hk
    · exact .inl (.inl (.inr hk))
  · exact .inl (.inr (.inl hk))
  · exact .inl (.inr (.inr (.inl hk)))
  · exact .inl (.inr (.inr (.inr (.inl hk))))
  · exact .inl (.inr (.inr (.inr (.inr hk))))
end

section
variable {w w' w0 : World} {X : Nat → Prop} {sb b N : Nat} {T : Tay} {A : Ab} {free : Prop} {s : Int} {f base : Nat → Int}
set_option maxRecDepth 20000 in
/-- The heap is opened on it; it is a new one. -/
theorem x_heapN (hd : Hold w0 X w sb b 3984 T A [] false) (c : Calm N True A s f) (k : Clean 0 12304 base f) (tab : TabL w0) (hps : HpS (rb base)) (hs : s + 30729 < 4294967296) :
    Calls Tryz.prog 25 #[ptr sb] w fun e w' => (∃ hb T' A', e = .returned (.tuple #[ptr hb, .int .i64 0]) ∧ HpC w0 (fun k => X k ∨ k = hb) w' hb sb b T' A' N True (s + 30729) base ∧ w.heap.size ≤ hb) ∧ Fr (tfoot sb b T) w w' := by
  have l0 : 0 < w0.heap.size := World.block_lt_of_cell? _ _ (tab 0 (by omega))
  have sy := says_base c k []
  rw [homed_nil] at sy
  have OP := h_open_by (R := fun P' => P' = []) hd.st c k (fun j hj => hd.fr.cell' (tab j hj) (fun x => x)) (fun ht => by have := hd.new 0 ht; omega) hs (fun w1 hb bx hp bc => (h_openC_old hp (by rw [sy, hps.mrk]; omega) bc).mono (by
    rintro e w3 ⟨rfl, hw⟩
    exact ⟨rfl, T, [], by rw [hw]; exact Onx.start hp.st, rfl⟩))
  refine OP.mono ?_
  rintro e w' (⟨hb, P', T', A', rfl, lh, hl, rfl, o, nh, f', c', k'⟩ | ⟨P', T', A', rfl, rfl, o, hg, lt⟩)
  · rw [homed_nil] at k'
    have h1 := hd.call o
    refine ⟨⟨hb, T', A', rfl, ⟨⟨h1.st, h1.fr, h1.new, fun k hk => ?_, fun k hk => ?_⟩, ⟨f', c', k'⟩, hl, .inr rfl, l0⟩, lh⟩, o.fr⟩
    · rcases hk with hk | rfl
      · exact h1.ap k hk
      · exact nh
    · rcases hk with hk | rfl
      · exact h1.xl k hk
      · exact ⟨Nat.le_trans hd.fr.size lh, World.block_lt_of_cell? _ _ hl.c0⟩
  · exact absurd trivial hg
end
end Go.Proofs.YtgehfmonfofbiaaGreatDoor
