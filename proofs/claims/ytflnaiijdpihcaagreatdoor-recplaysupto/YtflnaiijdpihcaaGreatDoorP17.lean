/- Joined: Rx Ri GFll Rp Sa Sc. -/
import Derived.Deep.RegionLaw
import Derived.Laws.AppendOwnNone
import Derived.Lib.SlBytesConst
import Derived.Test.YtflnaiijdpihcaaGreatDoorP00
import Derived.Test.YtflnaiijdpihcaaGreatDoorP12
import Derived.Test.YtflnaiijdpihcaaGreatDoorP13
import Derived.Test.YtflnaiijdpihcaaGreatDoorP14
import Derived.Test.YtflnaiijdpihcaaGreatDoorP16
namespace Go.Proofs.YtflnaiijdpihcaaGreatDoor
open Go.RowKit

section
theorem add_none (xb xo k : Nat) : (⟨xb, xo, none⟩ : Addr).add k = ⟨xb, xo + k, none⟩ := by unfold Addr.add; split <;> simp_all
def rcells (nu : Nat) : List Rc → List Value
  | [] => []
  | r :: rs => .int .i64 (fi nu + 8 * r.u : Nat) :: .int .i64 (r.k : Nat) :: .string (strB r.bt r.n) :: rcells nu rs
section
variable {nu : Nat}
theorem rcells_at {rs : List Rc} : ∀ {k : Nat} {r : Rc}, rs[k]? = some r → (rcells nu rs)[k * 3]? = some (.int .i64 (fi nu + 8 * r.u : Nat)) ∧ (rcells nu rs)[k * 3 + 1]? = some (.int .i64 (r.k : Nat)) ∧ (rcells nu rs)[k * 3 + 2]? = some (.string (strB r.bt r.n)) := by
  induction rs with
  | nil => intro k y h; simp at h
  | cons z ls ih =>
    intro k y h
    cases k with
    | zero => simp at h; subst h; simp [rcells]
    | succ k =>
      have := ih (by simpa using h)
      rw [show (k + 1) * 3 = k * 3 + 3 by omega]
      simpa [rcells] using this
theorem rcells_app (a b : List Rc) : rcells nu (a ++ b) = rcells nu a ++ rcells nu b := by
  induction a with
  | nil => rfl
  | cons z a ih => simp [rcells, ih]
theorem rcells_len (a : List Rc) : (rcells nu a).length = 3 * a.length := by
  induction a with
  | nil => rfl
  | cons z a ih => simp [rcells, ih]; omega
theorem rcells_set {rs : List Rc} : ∀ {k : Nat} {r : Rc} (h : Nat), rs[k]? = some r → (rcells nu rs).set (k * 3 + 1) (.int .i64 (h : Nat)) = rcells nu (rs.set k { r with k := h }) := by
  induction rs with
  | nil => intro k y h e; simp at e
  | cons z ls ih =>
    intro k y h e
    cases k with
    | zero => simp at e; subst e; simp [rcells]
    | succ k =>
      have := ih (k := k) (r := y) h (by simpa using e)
      rw [show (k + 1) * 3 + 1 = k * 3 + 1 + 1 + 1 + 1 by omega]
      simp [rcells, this]
theorem rcells_get : ∀ {ls : List Rc} {j : Nat} {u : Value}, (rcells nu ls)[j]? = some u → ∃ k r, ls[k]? = some r ∧ ((j = k * 3 ∧ u = .int .i64 (fi nu + 8 * r.u : Nat)) ∨ (j = k * 3 + 1 ∧ u = .int .i64 (r.k : Nat)) ∨ (j = k * 3 + 2 ∧ u = .string (strB r.bt r.n))) := by
  intro ls
  induction ls with
  | nil => intro j u h; simp [rcells] at h
  | cons z ls ih =>
    intro j u h
    match j, h with
    | 0, h => simp [rcells] at h; exact ⟨0, z, rfl, .inl ⟨rfl, by rw [← h]; simp⟩⟩
    | 1, h => simp [rcells] at h; exact ⟨0, z, rfl, .inr (.inl ⟨rfl, h.symm⟩)⟩
    | 2, h => simp [rcells] at h; exact ⟨0, z, rfl, .inr (.inr ⟨rfl, h.symm⟩)⟩
    | j + 3, h =>
      simp [rcells] at h
      obtain ⟨k, y, hy, e⟩ := ih h
      refine ⟨k + 1, y, by simpa using hy, ?_⟩
      rcases e with ⟨rfl, e⟩ | ⟨rfl, e⟩ | ⟨rfl, e⟩
      · exact .inl ⟨by omega, e⟩
      · exact .inr (.inl ⟨by omega, e⟩)
      · exact .inr (.inr ⟨by omega, e⟩)
theorem rcells_one {ls : List Rc} : ∀ u ∈ rcells nu ls, u.oneCell' = true := by
  induction ls with
  | nil => intro u h; simp [rcells] at h
  | cons z ls ih =>
    intro u h
    simp [rcells] at h
    rcases h with rfl | rfl | rfl | h
    · rfl
    · rfl
    · rfl
    · exact ih u h

def RcsAt (nu : Nat) (w : World) (a : Option Addr) (rs : List Rc) : Prop :=
  ∀ k r, rs[k]? = some r → ∃ xb xo, a = some ⟨xb, xo, none⟩ ∧ w.cell? ⟨xb, xo + k * 3, none⟩ = some (.int .i64 (fi nu + 8 * r.u : Nat)) ∧ w.cell? ⟨xb, xo + k * 3 + 1, none⟩ = some (.int .i64 (r.k : Nat)) ∧ w.cell? ⟨xb, xo + k * 3 + 2, none⟩ = some (.string (strB r.bt r.n))
theorem RcsAt.fr {w w' : World} {a : Option Addr} {rs : List Rc} (h : RcsAt nu w a rs) {F : Nat → Prop} (f : Fr F w w') (hn : ∀ x, a = some x → ¬ F x.block) : RcsAt nu w' a rs := fun k y hy => by
  obtain ⟨xb, xo, e, h1, h2, h3⟩ := h k y hy
  have n := hn ⟨xb, xo, none⟩ e
  exact ⟨xb, xo, e, f.cell' h1 n, f.cell' h2 n, f.cell' h3 n⟩
theorem RcsAt.kept {w w' : World} {a : Option Addr} {rs : List Rc} (h : RcsAt nu w a rs) (f : Still w w') : RcsAt nu w' a rs := h.fr f (fun _ _ x => x)
theorem rcs_of_row {w : World} {lo cp : Nat} {ad : Option Addr} {rs : List Rc} (h : w.ownsRow lo 38 3 (.slice ad rs.length cp) rs.length (rcells nu rs)) : RcsAt nu w ad rs := fun k r hr => by
  have hl := (List.getElem?_eq_some_iff.1 hr).1
  rcases h.2 with ⟨_, e0⟩ | ⟨g, cap, cur, ev, _⟩
  · omega
  · injection ev with e1 e2 e3
    subst e1
    obtain ⟨p0, p1, p2⟩ := rcells_at (nu := nu) hr
    have ln := rcells_len (nu := nu) rs
    refine ⟨g, 0, rfl, ?_, ?_, ?_⟩
    · rw [Nat.zero_add, h.cellAt (k * 3) (by omega)]; exact p0
    · rw [Nat.zero_add, h.cellAt (k * 3 + 1) (by omega)]; exact p1
    · rw [Nat.zero_add, h.cellAt (k * 3 + 2) (by omega)]; exact p2
theorem rcs_cells {w : World} {ad : Addr} {ls : List Rc} (h : RcsAt nu w (some ad) ls) : ∀ j u, (rcells nu ls)[j]? = some u → w.cell? (ad.add j) = some u := by
  intro j u hu
  obtain ⟨k, y, hy, e⟩ := rcells_get hu
  obtain ⟨xb, xo, e1, c1, c2, c3⟩ := h k y hy
  cases e1
  rcases e with ⟨rfl, rfl⟩ | ⟨rfl, rfl⟩ | ⟨rfl, rfl⟩
  · rw [add_none]; exact c1
  · rw [add_none, ← Nat.add_assoc]; exact c2
  · rw [add_none, ← Nat.add_assoc]; exact c3
theorem info_record : (Tryz.prog.info? 38).map (fun i => (i.zero, i.size, i.bytes)) = some (some (.agg #[.int .i64 0, .int .i64 0, .string ⟨#[]⟩]), 3, 32) := by kernel_rfl
theorem info_recE : ∃ i, Tryz.prog.info? 38 = some i ∧ i.zero = some (.agg #[.int .i64 0, .int .i64 0, .string ⟨#[]⟩]) ∧ i.size = 3 ∧ i.bytes = 32 := by
  have hi := info_record
  cases h : Tryz.prog.info? 38 with
  | none => rw [h] at hi; simp at hi
  | some i => rw [h] at hi; simp only [Option.map_some, Option.some.injEq, Prod.mk.injEq] at hi; exact ⟨i, rfl, hi⟩

structure MoreR (nu : Nat) (w : World) (lo : Nat) (v v' : Value) (l : List Rc) (w' : World) : Prop where
  own : w'.ownsRow lo 38 3 v' l.length (rcells nu l)
  gr : w.grownBy w' v.ownBlock
  loc : v'.ownBlock = v.ownBlock ∨ v'.ownBlock = some w.heap.size

theorem run_recs (w : World) (lo : Nat) (ty : TypeId) (v : Value) (l ls : List Rc) (hown : w.ownsRow lo 38 3 v l.length (rcells nu l)) (xa : Option Addr) (xc : Nat) (hx : xa = none → ls = [] ∧ xc = 0) (hp : RcsAt nu w xa ls) (hl : l.length + ls.length ≤ 1000) (hlo : lo ≤ w.heap.size) :
    ∃ v' w', (Builtin.append_ #[29, 29] ty #[v, .slice xa ls.length xc]).run Tryz.prog w = .ok v' w' ∧ MoreR nu w lo v v' (l ++ ls) w' := by
  obtain ⟨i, hi, hz, hsize, hby⟩ := info_recE
  cases xa with
  | none =>
    obtain ⟨rfl, rfl⟩ := hx rfl
    refine ⟨v, w, run_append_owned_none (P := Tryz.prog) (w := w) lo 29 ty 38 i 3 Tryz.underlying29 hi v _ _ hown, by simpa using hown, ⟨rfl, rfl, rfl, Nat.le_refl _, fun _ _ _ => rfl⟩, .inl rfl⟩
  | some ad =>
    obtain ⟨v', w', hr, h2, h3, _, h5⟩ := run_append_own_at (P := Tryz.prog) w lo 29 ty 38 i (.agg #[.int .i64 0, .int .i64 0, .string ⟨#[]⟩]) 3 32 Tryz.underlying29 hi hz hsize hby rfl (by decide) v l.length (rcells nu l) hown ad ls.length xc (rcells nu ls) (by rw [rcells_len]; omega) (rcs_cells hp) rcells_one (by unfold maxLen; omega) (by omega) hlo
    exact ⟨v', w', hr, by rw [List.length_append, rcells_app]; exact h2, h3, h5⟩
theorem step_append_run {P : Program} {ops : Array Oper} {o : Oper} {a : Act} {w : World} {K : Act → World → Prop} {Q : Exit → Act → World → Prop} {E : Prop} (hgd : o.guard = none) (s x : Operand) (t : TypeId)
    (ho : o.op = .call { callee := .builtin .append, args := #[s, x], argTypes := #[t, t] }) (vs vx : Value) (hs : a.eval s = vs) (hx : a.eval x = vx) (v' : Value) (w' : World) (hr : (Builtin.append_ #[t, t] o.type #[vs, vx]).run P w = .ok v' w')
    (h : K (a.put o.dst v') w') : if Region.wanted o (yielded ops a.tmps) = true then Oper.wp P o a w K Q else E := by
  rw [if_pos (by simp [Region.wanted, hgd])]
  unfold Oper.wp execOp
  simp only [ho, resolve, invoke, builtin, Sem.run_bind, Sem.run_pure, Result.andThen_ok, List.map_toArray, List.map_cons, List.map_nil, hs, hx, hr]
  exact h
theorem rrow_set {w : World} {lo g n cap k : Nat} {rs : List Rc} {r : Rc} (h : w.ownsRow lo 38 3 (.slice (some ⟨g, 0, none⟩) n cap) rs.length (rcells nu rs)) (hr : rs[k]? = some r) (x : Nat) :
    (w.setCell ⟨g, k * 3 + 1, none⟩ (.int .i64 (x : Nat))).ownsRow lo 38 3 (.slice (some ⟨g, 0, none⟩) n cap) (rs.set k { r with k := x }).length (rcells nu (rs.set k { r with k := x })) := by
  have hl : (rs.set k { r with k := x }).length = rs.length := by simp
  refine ⟨by rw [rcells_len]; omega, ?_⟩
  rcases h.2 with ⟨hv, hn⟩ | ⟨g', cap', cur, hv, hb, hg, hc, hm, hs, hcur⟩
  · cases hv
  · injection hv with hv1 hv2 hv3
    injection hv1 with hv1
    injection hv1 with hv1
    subst hv1; subst hv2; subst hv3
    refine .inr ⟨g, cap, cur.setIfInBounds (k * 3 + 1) (.int .i64 (x : Nat)), by rw [hl], hb, ?_, by rw [hl]; exact hc, hm, by simpa using hs, ?_⟩
    · simp [World.setCell, Array.getElem?_modify, hg]
    · rw [Array.toList_setIfInBounds, List.take_set, hl, hcur, rcells_set x hr]
def cutR (a : Option Addr) (cap l : Nat) : Option Addr := if cap = l then a else a.map (·.add (l * 3))
theorem size_record (w : World) : (sizeOf 38).run Tryz.prog w = .ok 3 w := by
  obtain ⟨i, hi, _, hsize, _⟩ := info_recE
  simp [sizeOf, typeInfo, hi, hsize]
theorem slice_fromR (a : Option Addr) (len cap l : Nat) (w : World) (hl : l ≤ len) : (Instr.slice 29 (.slice a len cap) (some (.int .i64 (l : Nat))) none none).run Tryz.prog w = .ok (.slice (cutR a cap l) (len - l) (cap - l)) w := by
  have he : Tryz.prog.elem 29 = 38 := by kernel_rfl
  rw [run_slice_l (P := Tryz.prog) w 29 a len cap (by rw [he]; exact Tryz.underlying29) .i64 (l : Nat) (by omega) (by omega), he, size_record]
  simp [Result.andThen, sliced, cutR]
theorem slice_toR (a : Option Addr) (len cap l : Nat) (w : World) (hl : l ≤ cap) : (Instr.slice 29 (.slice a len cap) none (some (.int .i64 (l : Nat))) none).run Tryz.prog w = .ok (.slice a l cap) w := by
  have he : Tryz.prog.elem 29 = 38 := by kernel_rfl
  have ha : a.map (fun x : Addr => x.add 0) = a := by
    cases a with
    | none => rfl
    | some x => obtain ⟨b, o, s⟩ := x; simp [Addr.add]
  rw [run_slice_h (P := Tryz.prog) w 29 a len cap (by rw [he]; exact Tryz.underlying29) .i64 (l : Nat) (by omega) (by omega), he, size_record]
  simp [Result.andThen, sliced, ha]
theorem RcsAt.take {w : World} {a : Option Addr} {ls : List Rc} (h : RcsAt nu w a ls) (k : Nat) : RcsAt nu w a (ls.take k) := fun j y hy => by
  rw [List.getElem?_take] at hy
  split at hy
  · exact h j y hy
  · cases hy
theorem RcsAt.drop {w : World} {a : Option Addr} {ls : List Rc} (h : RcsAt nu w a ls) (cap k : Nat) (hc : ls.length ≤ cap) : RcsAt nu w (cutR a cap k) (ls.drop k) := fun j y hy => by
  rw [List.getElem?_drop] at hy
  obtain ⟨xb, xo, rfl, c1, c2, c3⟩ := h (k + j) y hy
  have hlt := (List.getElem?_eq_some_iff.1 hy).1
  unfold cutR
  rw [if_neg (by omega)]
  refine ⟨xb, xo + k * 3, by simp only [Option.map_some, add_none], ?_, ?_, ?_⟩
  · rw [show xo + k * 3 + j * 3 = xo + (k + j) * 3 by omega]; exact c1
  · rw [show xo + k * 3 + j * 3 + 1 = xo + (k + j) * 3 + 1 by omega]; exact c2
  · rw [show xo + k * 3 + j * 3 + 2 = xo + (k + j) * 3 + 2 by omega]; exact c3

theorem run_butR (w : World) (lo n : Nat) (ls : List Rc) (ad : Option Addr) (cp k : Nat) (hnil : ad = none → ls = [] ∧ cp = 0) (hp : RcsAt nu w ad ls) (hk : k < ls.length) (hcp : ls.length ≤ cp) (hl : ls.length ≤ 500) (hlo : lo ≤ w.heap.size) (hn : w.heap.size = n) :
    ∃ v6 w6 v7 w7, (Builtin.append_ #[29, 29] 29 #[.slice (some ⟨n, 0, none⟩) 0 0, .slice ad k cp]).run Tryz.prog (w.alloc (.cells #[] 38)) = .ok v6 w6 ∧
      (Builtin.append_ #[29, 29] 29 #[v6, .slice (cutR ad cp (k + 1)) (ls.length - (k + 1)) (cp - (k + 1))]).run Tryz.prog w6 = .ok v7 w7 ∧ Still w w6 ∧ Still w w7 ∧
      w7.ownsRow lo 38 3 v7 (ls.eraseIdx k).length (rcells nu (ls.eraseIdx k)) ∧ ∀ j, v7.ownBlock = some j → w.heap.size ≤ j := by
  subst hn
  have fA : Still w (w.alloc (.cells #[] 38)) := (Fr.refl _ w).alloc _
  have zA : (w.alloc (.cells #[] 38)).heap.size = w.heap.size + 1 := by simp
  have own0 : (w.alloc (.cells #[] 38)).ownsRow lo 38 3 (.slice (some ⟨w.heap.size, 0, none⟩) 0 0) ([] : List Rc).length (rcells nu []) :=
    ⟨rfl, .inr ⟨w.heap.size, 0, #[], rfl, hlo, heap_alloc_new w _, Nat.le_refl _, by unfold maxLen; omega, rfl, rfl⟩⟩
  have tk : (ls.take k).length = k := by rw [List.length_take]; omega
  have hne : ad ≠ none := fun e => by have := (hnil e).1; subst this; simp at hk
  obtain ⟨v6, w6, h6, M6⟩ := run_recs (w.alloc (.cells #[] 38)) lo 29 _ [] (ls.take k) own0 ad cp (fun e => absurd e hne) ((hp.kept fA).take k) (by simp; omega) (by omega)
  rw [tk] at h6
  have f6 : Still w w6 := by
    have : Fr (fun j => (Value.slice (some ⟨w.heap.size, 0, none⟩) 0 0).ownBlock = some j) (w.alloc (.cells #[] 38)) w6 := (Fr.refl _ _).grown M6.gr (fun r e => .inl e)
    exact fA.trans' this (fun j hj => .inr (by simp [Value.ownBlock] at hj; omega))
  have l6 : ∀ j, v6.ownBlock = some j → w.heap.size ≤ j := fun j hj => by
    rcases M6.loc with e | e
    · rw [hj] at e; simp [Value.ownBlock] at e; omega
    · rw [hj] at e; have := Option.some.inj e; omega
  have dl : (ls.drop (k + 1)).length = ls.length - (k + 1) := by simp
  obtain ⟨v7, w7, h7, M7⟩ := run_recs w6 lo 29 v6 (ls.take k) (ls.drop (k + 1)) (by simpa using M6.own) (cutR ad cp (k + 1)) (cp - (k + 1)) (fun e => by
    unfold cutR at e
    split at e
    · exact absurd e hne
    · cases ad with
      | none => exact absurd rfl hne
      | some x => simp at e) ((hp.kept f6).drop cp (k + 1) hcp) (by simp; omega) (by have := f6.size; omega)
  rw [dl] at h7
  have f7 : Still w w7 := by
    have : Fr (fun j => v6.ownBlock = some j) w6 w7 := (Fr.refl _ _).grown M7.gr (fun r e => .inl e)
    exact f6.trans' this (fun j hj => .inr (l6 j hj))
  refine ⟨v6, w6, v7, w7, by simpa using h6, h7, f6, f7, ?_, fun j hj => ?_⟩
  · rw [List.eraseIdx_eq_take_drop_succ]; exact M7.own
  · rcases M7.loc with e | e
    · exact l6 j (by rw [← e]; exact hj)
    · rw [hj] at e; have := Option.some.inj e; have := f6.size; omega
end
end

section
theorem info_u64E : ∃ i, Tryz.prog.info? 50 = some i ∧ i.zero = some (.int .u64 0) ∧ i.size = 1 ∧ i.bytes = 8 := by
  have hi := infoU
  cases h : Tryz.prog.info? 50 with
  | none => rw [h] at hi; simp at hi
  | some i => rw [h] at hi; simp only [Option.map_some, Option.some.injEq, Prod.mk.injEq] at hi; exact ⟨i, rfl, hi⟩
theorem run_u64 (w : World) (lo : Nat) (v : Value) (l : List Nat) (hown : OwnL .u64 50 w lo v l) (y : Nat) (hl : l.length ≤ 100000) (hlo : lo ≤ w.heap.size) :
    ∃ v' w', (Builtin.append_ #[98, 98] 98 #[v, .slice (some ⟨w.heap.size, 0, none⟩) 1 1]).run Tryz.prog (w.alloc (.cells #[.int .u64 (y : Nat)] 50)) = .ok v' w' ∧ OwnL .u64 50 w' lo v' (l ++ [y]) ∧ Fr (fun k => v.ownBlock = some k) w w' ∧ (v'.ownBlock = v.ownBlock ∨ v'.ownBlock = some (w.heap.size + 1)) := by
  obtain ⟨i, hi, hz, hsize, hby⟩ := info_u64E
  have hA : (w.alloc (.cells #[.int .u64 (y : Nat)] 50)).heap.size = w.heap.size + 1 := by simp
  have own1 : (w.alloc (.cells #[.int .u64 (y : Nat)] 50)).ownsRow lo 50 1 v l.length (vals .u64 l) := owns_same hown fun k hk => ((Fr.refl (fun _ => False) w).alloc _).block k (World.ownsRow.lt hown k hk).2 (fun x => x)
  obtain ⟨v', w', hr, h2, h3, _, h5⟩ := run_append_own_at (P := Tryz.prog) (w.alloc (.cells #[.int .u64 (y : Nat)] 50)) lo 98 98 50 i (.int .u64 0) 1 8 Tryz.underlying98 hi hz hsize hby rfl (by decide) v l.length (vals .u64 l) own1 ⟨w.heap.size, 0, none⟩ 1 1 [.int .u64 (y : Nat)] rfl (cell_one_new w _ _) (by intro q hq; simp at hq; subst hq; rfl) (by unfold maxLen; omega) (by omega) (by rw [hA]; omega)
  refine ⟨v', w', hr, ?_, ((Fr.refl (fun k => v.ownBlock = some k) w).alloc _).grown h3 (fun r e => .inl e), by rw [hA] at h5; exact h5⟩
  unfold OwnL
  rw [List.length_append]
  simpa [vals] using h2

structure RdI (nu sz : Nat) (f : Nat → Int) (wd : Nat → Nat) (n0 : Nat) (all : List Nat) (m : Nat) (fr : Bool) (o n : Nat) (rest : List Nat) : Prop where
  eq : (chP nu true n0 all).drop m = chP nu fr n rest
  ch : rest = [] ∨ Chain nu sz f fr n rest
  da : Data nu f wd fr o n rest
  cnt : o + (if rest = [] then 0 else (n + 7) / 8) = (n0 + 7) / 8
  len : m + rest.length = all.length

def dwN (fr : Bool) (n : Nat) : Nat := szN fr n - ahd fr

theorem RdI.next {nu sz : Nat} {f : Nat → Int} {wd : Nat → Nat} {n0 : Nat} {all : List Nat} {m : Nat} {fr : Bool} {o n u : Nat} {rest : List Nat} (r : RdI nu sz f wd n0 all m fr o n (u :: rest)) : RdI nu sz f wd n0 all (m + 1) false (o + dwN fr n) (bhN fr n) rest ∧ ahd fr + dwN fr n = szN fr n := by
  obtain ⟨pa, tk, ch'⟩ := r.ch.resolve_left (by simp)
  have ha : ahd fr ≤ 2 := by unfold ahd; split <;> omega
  have hnx := pa.nx
  have hc := r.cnt
  rw [if_neg (by simp)] at hc
  refine ⟨⟨?_, ch', r.da.2, ?_, by have := r.len; simp at this ⊢; omega⟩, by unfold dwN szN; omega⟩
  · rw [← List.drop_drop, r.eq]
    simp [chP]
  · cases rest with
    | nil =>
      rw [if_pos rfl]
      have h0 : bhN fr n = 0 := hnx.1 rfl
      unfold bhN at h0
      unfold dwN szN
      omega
    | cons y rest =>
      rw [if_neg (by simp)]
      have h0 : bhN fr n ≠ 0 := fun e => (nxq_ne (nu := nu) (u := y) (us := rest)).1 (hnx.2 e)
      unfold bhN at h0 ⊢
      unfold dwN szN
      omega

section
variable {nu sz : Nat} {w w' w0 : World} {hb sb b : Nat} {T : Tay} {A : Ab} {P : List (Int × Int)} {u n k : Nat} {us : List Nat} {wd : Nat → Nat}

set_option maxRecDepth 20000 in
set_option maxHeartbeats 8000000 in
theorem r_read (h : Hp nu sz w hb sb b T A P) (s : HpS nu (says P A)) (bt : Nat → Nat) (hbt : ∀ i, i < n → bt i < 256) (r : RecS nu sz (says P A) u us n k (wordN bt n)) :
    Calls Tryz.prog 20 #[ptr sb, ptr hb, .int .i64 (fi nu + 8 * u : Nat)] w fun e w' => ∃ g, e = .returned (.slice (some ⟨g, 0, none⟩) n n) ∧ Mem .u8 w g n bt w' := by
  have PS := r_parts h s r.ch r.len r.hk r.k1 (by have := r.k2; omega)
  have hl := r.len
  have n4 := r.ch.1.n4
  have HPS := hide PS; have HH := hide h; have HR := hide r; have HBT := @hide _ hbt
  clear PS h s r hbt
  obtain ⟨p0, hp0⟩ : ∃ p0 : Int, ((fi nu + 8 * u : Nat) : Int) = p0 := ⟨_, rfl⟩
  obtain ⟨L, hL⟩ : ∃ L, us.length + 1 = L := ⟨_, rfl⟩
  have hL16 : 1 ≤ L ∧ L ≤ 17 := by omega
  rw [hp0] at HPS ⊢
  rw [hL] at HPS
  have HL := hide hL
  clear hL hl hp0
  go_enter Tryz.func20, Tryz.ntmps20
  go_wp2_with fail
  refine (unhide HPS).mono ?_
  clear HPS
  rintro e w1 ⟨g, cap, rfl, pr, f1⟩
  have hg0 : (chP nu true n (u :: us))[0]? = some ⟨(fi nu + 8 * u : Nat), true, n, (8 * nxq nu us : Nat)⟩ := rfl
  obtain ⟨c0, c1, c2, c3⟩ := pr.cells hg0
  have c2' : w1.cell? ⟨g, 2, none⟩ = some (.int .i64 n) := by simpa using c2
  have hwn : IntKind.u64.wrap (n : Int) = n := by rw [IntKind.wrap_u64]; omega
  have hL0 : ((0 : Int) < L) = True := by simp; omega
  obtain ⟨W, hW⟩ : ∃ W, w1.alloc (.cells #[.int .u64 n] 50) = W := ⟨_, rfl⟩
  have fW : Still w1 W := hW ▸ (Fr.refl _ w1).alloc _
  have own0 : OwnL .u64 50 W w1.heap.size (.slice (some ⟨w1.heap.size, 0, none⟩) 1 1) ([n] ++ rowL (wordN bt n) 0) := by
    have := OwnL.one .u64 50 w1 n
    rw [hW] at this; exact this
  have rd0 : RdI nu sz (says P A) (wordN bt n) n (u :: us) 0 true 0 n (u :: us) := ⟨by simp, .inr (unhide HR).ch, (unhide HR).da, by rw [if_neg (by simp)]; omega, by simp⟩
  have HX := hide (And.intro pr (And.intro f1 (And.intro fW (And.intro own0 rd0)))); have HW := hide hW
  clear pr f1 hg0 c0 c1 c2 c3 fW own0 rd0 hW
  go_wp2_with fail
  rw [unhide HW]
  clear HW c2' hwn hL0
  go_loopw [26, 8] (fun iv v wr => ∃ (m : Nat) (fr : Bool) (o n' : Nat) (rest : List Nat), iv = .int .i64 m ∧ RdI nu sz (says P A) (wordN bt n) n (u :: us) m fr o n' rest ∧ OwnL .u64 50 wr w1.heap.size v ([n] ++ rowL (wordN bt n) o) ∧ Still w1 wr) (fun iv v wr => L - (intOf iv).toNat)
  case atStart =>
    obtain ⟨pr, f1, fW, own0, rd0⟩ := unhide HX
    exact ⟨0, true, 0, n, u :: us, rfl, rd0, own0, fW⟩
  case round =>
    obtain ⟨m, fr, o, n', rest, rfl, rd, own, fq⟩ := hrel
    generalize wr = wq at *
    clear wr
    have hlen := rd.len
    have eL := unhide HL
    simp at hlen
    obtain ⟨pr, f1, -, -, -⟩ := unhide HX
    have prq := pr.still fq
    cases rest with
    | nil =>
      have em : m = L := by simp at hlen; omega
      subst em
      have hlt' : ((m : Int) < m) = False := by simp
      have hc := rd.cnt
      rw [if_pos rfl, Nat.add_zero] at hc
      subst hc
      obtain ⟨pb1, pb2, pb3⟩ := pack_back bt n (unhide HBT) (by omega)
      obtain ⟨va, cv, ev, hcv, nt⟩ := own.nats
      have hll : ([n] ++ rowL (wordN bt n) ((n + 7) / 8)).length = need n := by simp [rowL, need]; omega
      rw [hll] at ev hcv nt
      have nt2 : Nats .u64 wq va (need n) (packF bt n) := fun i hi => by
        obtain ⟨xb, xo, e1, e2⟩ := nt i hi
        refine ⟨xb, xo, e1, ?_⟩
        rw [e2]
        congr 2
        cases i with
        | zero => simp [packF]
        | succ i =>
          have : i < (n + 7) / 8 := by unfold need at hi; omega
          simp [packF, rowL, this]
      subst ev
      have UP := unpack_ok va (need n) cv (packF bt n) wq nt2 (fun i _ => pack_lt bt n i (unhide HBT) (by omega)) (by unfold need; omega)
      rw [pb1, pb2] at UP
      have HUP := hide UP
      have HF := hide (f1.trans' fq (fun _ x => x.elim)); have HP3 := @hide _ pb3
      clear UP pb1 pb2 pb3 nt nt2 own fq prq pr f1 rd hlen hll hcv eL
      generalize need n = nd at *
      go_wp2_with fail
      refine (unhide HUP).mono ?_
      clear HUP
      rintro e w3 ⟨bl, ⟨hne, _⟩ | ⟨_, gg, rfl, mem⟩⟩
      · exact absurd rfl hne
      · have HM := hide mem
        clear mem bl
        go_wp2
        go_ret
        have ff := unhide HF
        exact ⟨gg, rfl, ((unhide HM).ext (unhide HP3)).since ⟨ff.os, ff.tape, ff.output, ff.size, fun k hk => ff.block k hk (fun x => x)⟩⟩
    | cons y rest =>
      have hmL : m < L := by simp at hlen; omega
      have hlt' : ((m : Int) < L) = True := by simp; omega
      obtain ⟨pa, tk, ch'⟩ := rd.ch.resolve_left (by simp)
      obtain ⟨rd2, hsum⟩ := rd.next
      have hq : (chP nu true n (u :: us))[m]? = some ⟨(fi nu + 8 * y : Nat), fr, n', (8 * nxq nu rest : Nat)⟩ := by
        have : ((chP nu true n (u :: us)).drop m)[0]? = some ⟨(fi nu + 8 * y : Nat), fr, n', (8 * nxq nu rest : Nat)⟩ := by rw [rd.eq]; rfl
        simpa using this
      obtain ⟨c0, c1, c2, c3⟩ := prq.cells hq
      have n4' := pa.n4
      have hhi := pa.hi
      have da := rd.da.1
      have ha : 1 ≤ ahd fr ∧ ahd fr ≤ 2 := by unfold ahd; split <;> omega
      have ssz := sz_b fr n'
      have hgeo := (unhide HH).hp.geo.b.2.2.2.2.2
      have own1 : ∀ w2, Still wq w2 → OwnL .u64 50 w2 w1.heap.size u8 ([n] ++ rowL (wordN bt n) o) := fun w2 f2 => owns_same own fun k hk => f2.block k (World.ownsRow.lt own k hk).2 (fun x => x)
      obtain ⟨A1, hA1⟩ : ∃ A1, wq.alloc (ptO (fi nu + 8 * y : Nat) fr n' (8 * nxq nu rest : Nat)) = A1 := ⟨_, rfl⟩
      have fA1 : Still wq A1 := hA1 ▸ (Fr.refl _ wq).alloc _
      have pbA : PB A1 wq.heap.size (fi nu + 8 * y : Nat) fr n' (8 * nxq nu rest : Nat) := by
        have := heap_alloc_new wq (ptO (fi nu + 8 * y : Nat) fr n' (8 * nxq nu rest : Nat))
        rw [hA1] at this; exact this
      have AH := p_ahead (fi nu + 8 * y : Nat) fr n' (8 * nxq nu rest : Nat) A1
      have PSZ := p_size (fi nu + 8 * y : Nat) fr n' (8 * nxq nu rest : Nat) (by omega)
      have LD : ∀ (w2 : World) (i : Nat), Still w1 w2 → ahd fr ≤ i → i < szN fr n' → Calls Tryz.prog 62 #[ptr sb, .int .i64 (((fi nu + 8 * y : Nat) : Int) + i)] w2 fun e w' => e = .returned (u64 ((wordN bt n (o + (i - ahd fr)) : Nat) : Int)) ∧ w' = w2 := fun w2 i f2 h1 h2 => by
        have := ((unhide HH).still (f1.trans' f2 (fun _ x => x.elim))).load (fi nu + 8 * y + i) (by omega)
        have hd := da (i - ahd fr) (by omega)
        rw [show fi nu + 8 * y + ahd fr + (i - ahd fr) = fi nu + 8 * y + i by omega] at hd
        rw [hd] at this
        exact this
      obtain ⟨d0, d1, d2, d3, dz⟩ := pbA.cells
      unfold ptV ptO at *
      have HAH := hide AH; have HPSZ := @hide _ PSZ; have HLD := @hide _ LD; have HA1 := hide hA1
      have HD := hide (And.intro rd2 (And.intro fq (And.intro hsum (And.intro fA1 pbA)))); have HO1 := @hide _ own1
      have l10 := World.block_lt_of_cell? _ _ d0
      have lq := fq.size
      have lown : ∀ k, u8.ownBlock = some k → k < wq.heap.size := fun k hk => (World.ownsRow.lt own k hk).2
      have ho5 : o ≤ 600 := by have := rd.cnt; omega
      have hhz : fi nu + 8 * y + szN fr n' ≤ 40000 := by omega
      have HLO := @hide _ lown
      clear AH PSZ LD hA1 rd rd2 own own1 fA1 pbA prq pr f1 fq hq pa tk ch' da hlen hhi hgeo lown eL
      obtain ⟨px, hpx⟩ : ∃ px : Nat, fi nu + 8 * y = px := ⟨_, rfl⟩
      simp only [hpx] at HAH HPSZ HLD HA1 HD hhz c0 d0
      obtain ⟨nx, hnx⟩ : ∃ nx : Int, ((8 * nxq nu rest : Nat) : Int) = nx := ⟨_, rfl⟩
      simp only [hnx] at HAH HPSZ HA1 HD c3 d3
      obtain ⟨a, ea⟩ : ∃ a, ahd fr = a := ⟨_, rfl⟩
      obtain ⟨z, ez⟩ : ∃ z, szN fr n' = z := ⟨_, rfl⟩
      simp only [ea] at HAH HLD HD ha
      simp only [ez] at HPSZ HLD HD ssz hhz
      obtain ⟨kd, ekd⟩ : ∃ kd, kdN fr = kd := ⟨_, rfl⟩
      simp only [ekd] at HAH HPSZ HA1 c1 d1
      have HEZ := hide (And.intro hpx (And.intro hnx (And.intro ea (And.intro ez ekd))))
      clear hpx hnx ea ez ekd
      go_upto_region 6 with fail
      rw [unhide HA1]
      clear HA1 c0 c1 c2 c3
      go_wp2_with fail
      refine (unhide HAH).mono ?_
      clear HAH
      rintro e w2 ⟨rfl, hw2⟩
      have f12 : Still A1 w2 := by rw [hw2]; exact (Fr.refl _ A1).alloc _
      clear hw2
      obtain ⟨rd2, fq, hsum, fA1, pbA⟩ := unhide HD
      have f02 : Still wq w2 := fA1.trans' f12 (fun _ x => x.elim)
      have f1w2 := fq.trans' f02 (fun _ x => x.elim)
      have pb2 := pbA.still f12 (fun x => x)
      have own2 := unhide HO1 w2 f02
      have hlo2 : ∀ k, u8.ownBlock = some k → k ≠ wq.heap.size := fun k hk => by have := unhide HLO k hk; omega
      have HX2 := hide (And.intro f1w2 (And.intro pb2 (And.intro own2 hlo2)))
      clear rd2 fq fA1 pbA f02 f1w2 pb2 own2 hlo2 f12 d0 d1 d2 d3 dz
      go_wp2_with fail
      generalize wq.heap.size = g10 at *
      go_loopw [11, 8] (fun iv v wr => ∃ i : Nat, a ≤ i ∧ i ≤ z ∧ iv = .int .i64 i ∧ Still w1 wr ∧ PB wr g10 (px : Nat) fr n' nx ∧ OwnL .u64 50 wr w1.heap.size v ([n] ++ rowL (wordN bt n) (o + (i - a))) ∧ ∀ k, v.ownBlock = some k → k ≠ g10) (fun iv v wr => z - (intOf iv).toNat)
      case atStart =>
        obtain ⟨f1w2, pb2, own2, hlo2⟩ := unhide HX2
        refine ⟨a, Nat.le_refl _, by have := (unhide HD).2.2.1; omega, rfl, f1w2, pb2, ?_, hlo2⟩
        rw [Nat.sub_self, Nat.add_zero]; exact own2
      case round =>
        clear HX2
        obtain ⟨i, hai, hiz, rfl, fx, pbx, ownx, hlo⟩ := hrel
        generalize wr = wx at *
        clear wr
        obtain ⟨d0, d1, d2, d3, dz⟩ := pbx.cells
        obtain ⟨epx, enx, ea, ez, ekd⟩ := unhide HEZ
        rw [ekd] at d1
        clear epx enx ea ez ekd
        have SZ := hide (unhide HPSZ wx)
        by_cases hlt : i < z
        · have hlt' : ((i : Int) < z) = True := by simp; omega
          have HXX := hide (And.intro fx (And.intro pbx (And.intro ownx hlo)))
          clear fx pbx ownx hlo
          go_wp2_with fail
          refine (unhide SZ).mono ?_
          clear SZ
          rintro e w3 ⟨rfl, f3⟩
          obtain ⟨fx, pbx, ownx, hlo⟩ := unhide HXX
          have f13 := fx.trans' f3 (fun _ x => x.elim)
          have pb3 := pbx.still f3 (fun x => x)
          have own3 : OwnL .u64 50 w3 w1.heap.size u8 ([n] ++ rowL (wordN bt n) (o + (i - a))) := owns_same ownx fun k hk => f3.block k (World.ownsRow.lt ownx k hk).2 (fun x => x)
          have L3 := unhide HLD w3 i f13 hai hlt
          obtain ⟨e0, -, -, -, -⟩ := pb3.cells
          obtain ⟨v4, w4, hap, own4, fr4, loc4⟩ := run_u64 w3 w1.heap.size u8 _ own3 (wordN bt n (o + (i - a))) (by simp [rowL]; omega) f13.size
          obtain ⟨ad4, nn4, cp4, ev4⟩ : ∃ ad nn cp, v4 = .slice ad nn cp := by
            rcases own4.2 with ⟨e, _⟩ | ⟨gg, cp, cur, e, _⟩
            · exact ⟨_, _, _, e⟩
            · exact ⟨_, _, _, e⟩
          subst ev4
          have f14 : Still w1 w4 := f13.trans' fr4 (fun k hk => .inr (World.ownsRow.lt own3 k hk).1)
          have pb4 := pb3.still fr4 (fun e => hlo _ e rfl)
          have hlo4 : ∀ k, (Value.slice ad4 nn4 cp4).ownBlock = some k → k ≠ g10 := fun k hk => by
            rcases loc4 with e | e
            · exact hlo k (by rw [← e]; exact hk)
            · rw [hk] at e; have := Option.some.inj e; have := World.block_lt_of_cell? _ _ e0; simp at this; omega
          have HL3 := hide L3; have HAP := hide hap
          have HX4 := hide (And.intro f14 (And.intro pb4 (And.intro own4 hlo4)))
          clear L3 hap f14 pb4 own4 hlo4 fr4 loc4 own3 pb3 f13 f3 fx pbx ownx hlo HXX d0 d1 d2 d3 dz
          generalize hwv : wordN bt n (o + (i - a)) = wv at *
          have HWV := hide hwv
          clear hwv
          go_wp2_with (first | (go_at_call 62; refine (unhide HL3).mono ?_; rintro e w' ⟨rfl, hh⟩; replace hh := hh.symm; subst hh) | (at_builtin; refine wpList_append_run rfl (.tmp 38) (.tmp 45) 98 rfl _ _ rfl rfl (.slice ad4 nn4 cp4) w4 (unhide HAP) ?_) | fail)
          obtain ⟨f14, pb4, own4, hlo4⟩ := unhide HX4
          refine ⟨⟨i + 1, by omega, by omega, by go_num, f14, pb4, ?_, hlo4⟩, by simp [intOf]; omega⟩
          have e : o + (i + 1 - a) = o + (i - a) + 1 := by omega
          rw [e, rowL_succ, ← List.append_assoc, unhide HWV]
          exact own4
        · have hlt' : ((i : Int) < z) = False := by simp; omega
          have ei : i = z := by omega
          have HXX := hide (And.intro fx (And.intro pbx (And.intro ownx hlo)))
          clear fx pbx ownx hlo
          go_wp2_with fail
          refine (unhide SZ).mono ?_
          clear SZ
          rintro e w3 ⟨rfl, f3⟩
          have HF3 := hide f3
          clear f3
          go_wp2
          obtain ⟨fx, pbx, ownx, hlo⟩ := unhide HXX
          obtain ⟨rd2, fq, hsum, fA1, pbA⟩ := unhide HD
          have f3 := unhide HF3
          subst ei
          refine ⟨⟨m + 1, false, o + dwN fr n', bhN fr n', rest, by go_num, rd2, ?_, fx.trans' f3 (fun _ x => x.elim)⟩, by simp [intOf]; omega⟩
          have e : i - a = dwN fr n' := by omega
          rw [← e]
          exact owns_same ownx fun k hk => f3.block k (World.ownsRow.lt ownx k hk).2 (fun x => x)
end
end

section
theorem pow_split {i m : Nat} (h : i ≤ m) : (2 : Nat) ^ m = 2 ^ i * 2 ^ (m - i) := by rw [← Nat.pow_add]; congr 1; omega
theorem in_block {i m v : Nat} (h : i ≤ m) : v / 2 ^ i * 2 ^ i / 2 ^ m = v / 2 ^ m := by
  rw [pow_split h, Nat.mul_comm (v / 2 ^ i), Nat.mul_div_mul_left _ _ (two_pos i), Nat.div_div_eq_div_mul]
theorem up_block {j i c : Nat} (h : j ≤ i) : c * 2 ^ j / 2 ^ i = c / 2 ^ (i - j) := by
  rw [pow_split h, Nat.mul_comm c, Nat.mul_div_mul_left _ _ (two_pos j)]
theorem bud_up {j i c : Nat} (h : j < i) : bud c * 2 ^ j / 2 ^ i = c * 2 ^ j / 2 ^ i := by
  rw [up_block (by omega), up_block (by omega)]
  obtain ⟨d, hd⟩ : ∃ d, i - j = d + 1 := ⟨i - j - 1, by omega⟩
  rw [hd, Nat.pow_succ, Nat.mul_comm, ← Nat.div_div_eq_div_mul, ← Nat.div_div_eq_div_mul, bud_half]

section
variable {nu : Nat} {F : Nat → Nat → Bool} {K : Nat → Nat}

theorem Inv.who (h : Inv nu F K (fun _ => 0)) {v : Nat} (hv' : v < nu) : ∃ i, i < 7 ∧ (F i (v / 2 ^ i) = true ∨ pc K i (v / 2 ^ i) = true) := by
  have h1 : hv F K v + 0 = 1 := h.cov v hv'
  obtain ⟨i, hi, h2⟩ := sum7_pos (g := fun k => (F k (v / 2 ^ k)).toNat + (pc K k (v / 2 ^ k)).toNat) (by unfold hv at h1; omega)
  refine ⟨i, hi, ?_⟩
  cases e1 : F i (v / 2 ^ i)
  · cases e2 : pc K i (v / 2 ^ i)
    · simp only [e1, e2] at h2
      simp at h2
    · exact .inr rfl
  · exact .inl rfl
theorem Inv.not_two (h : Inv nu F K (fun _ => 0)) {v i j : Nat} (hv' : v < nu) (hi : i < 7) (hj : j < 7) (hne : i ≠ j) (h1 : F i (v / 2 ^ i) = true) (h2 : F j (v / 2 ^ j) = true) : False := by
  have h3 : hv F K v + 0 = 1 := h.cov v hv'
  have h4 := sum7_le2 (fun k => (F k (v / 2 ^ k)).toNat + (pc K k (v / 2 ^ k)).toNat) hi hj hne
  simp only [h1, h2] at h4
  unfold hv at h3
  simp at h4
  omega

theorem Inv.dense (h : Inv nu F K (fun _ => 0)) {m : Nat} (hm : m < 7) (hp : ∀ u, K u ≠ 0 → lv (K u) ≤ m) (hf : ∀ j, m ≤ j → j < 7 → ∀ c, F j c = false) {b : Nat} (hb : b < nu / 2 ^ m) : ∃ u, K u ≠ 0 ∧ u / 2 ^ m = b := by
  refine Classical.byContradiction fun hno => ?_
  have hno' : ∀ u, K u ≠ 0 → u / 2 ^ m ≠ b := fun u h1 h2 => hno ⟨u, h1, h2⟩
  have nopc : ∀ v i, v / 2 ^ m = b → pc K i (v / 2 ^ i) = true → False := fun v i hvb hpc => by
    unfold pc at hpc
    have hpc' := of_decide_eq_true hpc
    have him : i ≤ m := by rw [← hpc'.2]; exact hp _ hpc'.1
    exact hno' _ hpc'.1 (by rw [in_block him]; exact hvb)
  have key : ∀ j, j ≤ m → ∀ i, i < j → ∀ c, c * 2 ^ i / 2 ^ m = b → F i c = false := by
    intro j
    induction j with
    | zero => intro _ i hi; omega
    | succ j ih =>
      intro hj i hi c hc
      by_cases e : i < j
      · exact ih (by omega) i e c hc
      · have : i = j := by omega
        subst this
        cases hF : F i c with
        | false => rfl
        | true =>
          exfalso
          have hin := h.inside i (by omega) c hF
          have c1 := block_lt hin
          have hbu : bud c * 2 ^ i / 2 ^ m = b := by rw [bud_up (by omega)]; exact hc
          have bb := block_lt hb
          have hvN : bud c * 2 ^ i < nu := by
            have h1 : bud c * 2 ^ i < (b + 1) * 2 ^ m := by
              have := Nat.lt_mul_div_succ (bud c * 2 ^ i) (two_pos m)
              rw [hbu] at this
              rw [Nat.mul_comm (b + 1)]; exact this
            rw [Nat.add_mul, Nat.one_mul] at h1
            omega
          obtain ⟨k, hk, hw⟩ := h.who hvN
          rcases hw with hw | hw
          · by_cases k1 : k < i
            · have := ih (by omega) k k1 (bud c * 2 ^ i / 2 ^ k) (by rw [in_block (by omega)]; exact hbu)
              rw [this] at hw; cases hw
            · by_cases k2 : k = i
              · subst k2
                rw [block_self] at hw
                have := h.half k (by omega) c hF
                rw [this] at hw; cases hw
              · rw [bud_up (by omega)] at hw
                refine h.not_two (v := c * 2 ^ i) (by have := two_pos i; omega) hk (show i < 7 by omega) (by omega) hw ?_
                rw [block_self]; exact hF
          · exact nopc _ k hbu hw
  obtain ⟨k, hk, hw⟩ := h.who (block_in hb)
  have hself : b * 2 ^ m / 2 ^ m = b := block_self m b
  rcases hw with hw | hw
  · by_cases k1 : k < m
    · have := key m (Nat.le_refl _) k k1 (b * 2 ^ m / 2 ^ k) (by rw [in_block (by omega)]; exact hself)
      rw [this] at hw; cases hw
    · rw [hf k (by omega) hk] at hw; cases hw
  · exact nopc _ k hself hw

theorem sumTo_up (g : Nat → Nat) {a c : Nat} (h : a ≤ c) : sumTo g a ≤ sumTo g c := by
  obtain ⟨d, rfl⟩ : ∃ d, c = a + d := ⟨c - a, by omega⟩
  induction d with
  | zero => exact Nat.le_refl _
  | succ d ih => rw [← Nat.add_assoc]; simp only [sumTo]; have := ih (by omega); omega
theorem sumTo_has (g : Nat → Nat) {a c u : Nat} (h1 : a ≤ u) (h2 : u < c) (h3 : 1 ≤ g u) : sumTo g a + 1 ≤ sumTo g c := by
  have x1 := sumTo_up g h1
  have x2 := sumTo_up g (show u + 1 ≤ c by omega)
  simp only [sumTo] at x2
  omega

theorem Inv.many (h : Inv nu F K (fun _ => 0)) {m : Nat} (hm : m < 7) (hp : ∀ u, K u ≠ 0 → lv (K u) ≤ m) (hf : ∀ j, m ≤ j → j < 7 → ∀ c, F j c = false) : nu / 2 ^ m ≤ cnt nu K := by
  have key : ∀ n, n ≤ nu / 2 ^ m → n ≤ sumTo (fun u => if K u = 0 then 0 else 1) (n * 2 ^ m) := by
    intro n
    induction n with
    | zero => intro _; exact Nat.zero_le _
    | succ n ih =>
      intro hn
      obtain ⟨u, h1, h2⟩ := h.dense hm hp hf (b := n) (by omega)
      rw [Nat.div_eq_iff (two_pos m)] at h2
      have := sumTo_has (fun u => if K u = 0 then 0 else 1) (a := n * 2 ^ m) (c := (n + 1) * 2 ^ m) (u := u) h2.1 (by rw [Nat.add_mul, Nat.one_mul]; have := two_pos m; omega) (by simp [h1])
      have := ih (by omega)
      omega
  exact Nat.le_trans (key _ (Nat.le_refl _)) (sumTo_up _ (Nat.div_mul_le_self nu (2 ^ m)))

theorem Inv.roomy (h : Inv nu F K (fun _ => 0)) {m k : Nat} (hm : m < 7) (hk : k ≤ m) (hp : ∀ u, K u ≠ 0 → lv (K u) ≤ m) (hc : cnt nu K < nu / 2 ^ m) (hf : ∀ j, k ≤ j → j < 7 → ∀ c, F j c = false) : False := by
  have := h.many hm hp (fun j h1 h2 => hf j (by omega) h2)
  omega
theorem cnt_le (nu : Nat) (K : Nat → Nat) : cnt nu K ≤ nu := by
  have : cnt nu K ≤ sumTo (fun _ => 1) nu := sumTo_le fun u _ => by split <;> omega
  rwa [sumTo_one] at this
theorem cnt_none (nu : Nat) : cnt nu (fun _ => 0) = 0 := sumTo_zero fun u _ => by simp
end
end

section
theorem Takn.few {nu : Nat} {f g : Nat → Int} {us xs : List Nat} (t : Takn nu f us xs g) (hx : ∀ x ∈ xs, 1 ≤ x ∧ x ≤ 64) (h0 : ∀ u, ask nu f u ≤ 64) : (∀ u, ask nu g u ≤ 64) ∧ cnt nu (ask nu g) ≤ cnt nu (ask nu f) + us.length := by
  induction t using Takn.ind with
  | nil => exact ⟨h0, by simp⟩
  | snoc us xs g g' u x t tk ih =>
    obtain ⟨i1, i2⟩ := ih (fun y hy => hx y (by simp [hy]))
    have hx1 := hx x (by simp)
    obtain ⟨c, hc, hc2⟩ := tk.blk
    have hu : u < nu := by
      have := block_lt hc2
      have := two_pos (lv x)
      rw [hc]; omega
    refine ⟨fun v => ?_, ?_⟩
    · rw [tk.ak]
      unfold setK
      split
      · exact hx1.2
      · exact i1 v
    · have := cnt_set (K := ask nu g) hu x
      rw [tk.was, if_pos rfl, if_neg (by omega), ← tk.ak] at this
      rw [List.length_append, List.length_singleton]
      omega

theorem Takn.room {nu : Nat} {f g : Nat → Int} {us xs : List Nat} (s : HpS nu f) (t : Takn nu f us xs g) (hx : ∀ x ∈ xs, 1 ≤ x ∧ x ≤ 64) (h0 : ∀ u, ask nu f u ≤ 64) (hc : cnt nu (ask nu f) + us.length < nu / 8) : ∃ j c, 3 ≤ j ∧ j < 7 ∧ fre nu g j c = true := by
  obtain ⟨i1, i2⟩ := t.few hx h0
  have sg := (t.facts s (fun x hx' => (hx x hx').1)).st
  refine Classical.byContradiction fun hno => ?_
  refine sg.inv.roomy (m := 3) (k := 3) (by omega) (Nat.le_refl _) (fun u _ => lv3 (i1 u)) (by show cnt nu (ask nu g) < nu / 8; omega) fun j j1 j2 c => ?_
  cases e : fre nu g j c with
  | false => rfl
  | true => exact (hno ⟨j, c, j1, j2, e⟩).elim
end

section
theorem Fr.box (w : World) (r : Nat) (v : Value) : Fr (fun k => k = r) w (w.setCell ⟨r, 0, none⟩ v) := (Fr.refl (fun k => k = r) w).setCell (.inl rfl) v

theorem chain_many {nu sz : Nat} {f : Nat → Int} : ∀ {fr : Bool} {n : Nat} {us : List Nat}, Chain nu sz f fr n us → n ≤ 248 * us.length
  | _, _, [], h => h.elim
  | fr, n, u :: us, h => by
    obtain ⟨pa, _, h2⟩ := h
    have hb : n ≤ bhN fr n + 248 := by unfold bhN ahd; split <;> omega
    rcases h2 with e | h2
    · subst e
      have := pa.nx.1 (by simp [nxq])
      simp; omega
    · have := chain_many h2
      simp only [List.length_cons]; omega

theorem Mde.gone {nu : Nat} {f g g' : Nat → Int} {u : Nat} {us : List Nat} (m : Mde nu f (u :: us) g) (d : Dropped nu g u us g') : ask nu g' = ask nu f := by
  obtain ⟨xs, f2, t, e, _, _⟩ := m.tk
  rw [d.ak, e]
  funext v
  unfold clr
  by_cases h : v ∈ u :: us
  · rw [if_pos h]; exact (t.was v h).symm
  · rw [if_neg h]; exact t.ak v h

section
variable {nu sz : Nat} {w w' w0 : World} {hb sb b bs bh bb ba bo bn bk bg : Nat} {T : Tay} {A : Ab} {P : List (Int × Int)} {v : Value}

set_option maxHeartbeats 1000000 in
theorem r_big {a : Option Addr} {n cp : Nat} (n4 : 4096 < n) (w : World) : Calls Tryz.prog 13 #[ptr sb, ptr hb, .slice a n cp] w fun e w' => e = .panicked (errnoQ 5) ∧ w' = w := by
  have big : ((4096 : Int) < n) = True := by simp; omega
  go_enter Tryz.func13, Tryz.ntmps13
  go_wp2
  exact ⟨rfl, rfl, rfl⟩

def MadeAt (nu sz : Nat) (f : Nat → Int) (A : Ab) (n : Nat) (bt : Nat → Nat) (ba : Nat) (P' : List (Int × Int)) (w' : World) : Prop := ∃ u us, Box w' ba (.int .i64 (fi nu + 8 * u : Nat)) ∧ RecS nu sz (says P' A) u us n 1 (wordN bt n) ∧ Mde nu f (u :: us) (says P' A)

set_option maxRecDepth 20000 in
set_option maxHeartbeats 2000000 in
theorem szC1 (h : Hp nu sz w hb sb b T A P) (s : HpS nu (says P A)) {a : Option Addr} {n cp : Nat} {bt : Nat → Nat} (hN : Nats .u8 w a n bt) (hb8 : ∀ i, i < n → bt i < 256) (hm : P.length + 2000 ≤ 6144) (na : ∀ x, a = some x → ¬ tfoot sb b T x.block)
    (room : ∀ us xs f, Takn nu (says P A) us xs f → (∀ x ∈ xs, 1 ≤ x ∧ x ≤ 64) → us.length < 17 → ∃ j c, 3 ≤ j ∧ j < 7 ∧ fre nu f j c = true)
    (cs : w.cell? ⟨bs, 0, none⟩ = some (ptr sb)) (ch : w.cell? ⟨bh, 0, none⟩ = some (ptr hb)) (cb : w.cell? ⟨bb, 0, none⟩ = some (.slice a n cp)) (ca : Box w ba v) (nba : ¬ tfoot sb b T ba) :
    Calls Tryz.prog 18 #[ptr bs, ptr bh, ptr bb, ptr ba] w fun e w' => (n ≤ 4096 ∧ e = .returned (.tuple #[]) ∧ ∃ T' P', OnxX (fun k => k = ba) w sb b T w' T' sz A P' false ∧ MadeAt nu sz (says P A) A n bt ba P' w') ∨ (4096 < n ∧ e = .panicked (errnoQ 5) ∧ w' = w) := by
  by_cases n4 : n ≤ 4096
  · have MK := r_make (cp := cp) h s hN hb8 n4 hm na room
    have lt := ca.lt
    have HMK := hide MK; have HCA := hide ca
    clear MK h s hN hb8 na room ca
    go_enter Tryz.func18, Tryz.ntmps18
    go_wp2_with fail
    refine (unhide HMK).mono ?_
    clear HMK
    rintro e w1 ⟨u, us, g, rfl, t, rc, md⟩
    obtain ⟨T', P', o, eg, _⟩ := id t
    have bx : Box w1 ba v := (unhide HCA).kept o.fr nba
    have c := bx.c; have z := bx.z
    have HX := hide (And.intro o (And.intro eg (And.intro rc (And.intro md bx))))
    clear t o eg rc md bx
    go_wp2
    go_end0
    obtain ⟨o, eg, rc, md, bx⟩ := unhide HX
    subst eg
    exact .inl ⟨n4, rfl, T', P', (OnxX.of o).var (Fr.box w1 ba _) (fun k hk => hk) (fun k hk => by have hk : k = ba := hk; subst hk; exact o.other lt nba), u, us, bx.set _, rc, md⟩
  · have MK := r_big (sb := sb) (hb := hb) (a := a) (cp := cp) (show 4096 < n by omega) w
    have HMK := hide MK
    clear MK h s hN hb8 na room ca
    go_enter Tryz.func18, Tryz.ntmps18
    go_wp2_with fail
    refine (unhide HMK).mono ?_
    rintro e w1 ⟨rfl, hh⟩
    exact ⟨rfl, .inr ⟨by omega, rfl, hh⟩⟩
end
end

section
section
variable {nu sz : Nat} {w w' w0 : World} {hb sb b bs bh bb ba bo bn bk bg : Nat} {T : Tay} {A : Ab} {P : List (Int × Int)} {v v1 v2 v3 : Value}

def hiB : Nat → Nat := fun i => if i = 0 then 104 else 105

def MadeGone (nu : Nat) (f g' : Nat → Int) : Prop := ∃ g u us, Mde nu f (u :: us) g ∧ Dropped nu g u us g'

set_option maxRecDepth 20000 in
set_option maxHeartbeats 4000000 in
theorem awC10 (h : Hp nu sz w hb sb b T A P) (s : HpS nu (says P A)) (hm : P.length + 2300 ≤ 6144)
    (room : ∀ us xs f, Takn nu (says P A) us xs f → (∀ x ∈ xs, 1 ≤ x ∧ x ≤ 64) → us.length < 17 → ∃ j c, 3 ≤ j ∧ j < 7 ∧ fre nu f j c = true)
    (cs : w.cell? ⟨bs, 0, none⟩ = some (ptr sb)) (ch : w.cell? ⟨bh, 0, none⟩ = some (ptr hb)) (Bn : Box w bn v1) (Bk : Box w bk v2) (Bg : Box w bg v3) (nt : ∀ k, k = bs ∨ k = bh ∨ k = bn ∨ k = bk ∨ k = bg → ¬ tfoot sb b T k)
    (ne : bs ≠ bn ∧ bs ≠ bk ∧ bh ≠ bn ∧ bh ≠ bk ∧ bn ≠ bk ∧ bn ≠ bg ∧ bk ≠ bg ∧ hb ≠ bn ∧ hb ≠ bk ∧ hb ≠ bg ∧ 0 ≠ bn ∧ 0 ≠ bk ∧ 0 ≠ bg) :
    Calls Tryz.prog 47 #[ptr bs, ptr bh, ptr bn, ptr bk, ptr bg] w fun e w' => e = .returned (.tuple #[]) ∧ ∃ T' P', OnxX (fun k => k = bn ∨ k = bk ∨ k = bg) w sb b T w' T' sz A P' false ∧ Box w' bn (.int .i64 2) ∧ Box w' bk (.int .i64 1) ∧ Box w' bg (.bool true) ∧ HpS nu (says P' A) ∧ MadeGone nu (says P A) (says P' A) := by
  obtain ⟨W1, hW1⟩ : ∃ W1, w.alloc (.cells #[.int .u8 104, .int .u8 105] 5 (2, 3)) = W1 := ⟨_, rfl⟩
  have f1 : Still w W1 := hW1 ▸ (Fr.refl _ w).alloc _
  have o1 : W1.heap[w.heap.size]? = some (.cells #[.int .u8 104, .int .u8 105] 5 (2, 3)) := hW1 ▸ heap_alloc_new w _
  have hN : Nats .u8 W1 (some ⟨w.heap.size, 0, none⟩) 2 hiB := fun i hi => by
    refine ⟨_, _, rfl, ?_⟩
    rcases (show i = 0 ∨ i = 1 by omega) with rfl | rfl
    · exact cell_of_obj o1 0
    · exact cell_of_obj o1 1
  have MK := r_make (cp := 2) (h.still f1) s hN (fun i _ => by unfold hiB; split <;> omega) (by omega) (by omega) (fun x hx => by
    injection hx with hx
    rw [← hx]
    exact fun y => by have := h.st.lt _ y; simp at this) room
  have lbs : bs < w.heap.size := World.block_lt_of_cell? _ _ cs
  have lbh : bh < w.heap.size := World.block_lt_of_cell? _ _ ch
  have lbn := Bn.lt; have lbk := Bk.lt; have lbg := Bg.lt
  have HMK := hide MK; have HX := hide (And.intro h (And.intro hW1 (And.intro f1 (And.intro cs ch)))); have HB := hide (And.intro Bn (And.intro Bk Bg)); have HNT := @hide _ nt
  have HHM := hide hm
  clear MK h s hm room hN o1 f1 hW1 Bn Bk Bg nt
  go_enter Tryz.func47, Tryz.ntmps47
  have cv : (convert 30 30 (.slice (some ⟨w.heap.size, 0, none⟩) 2 2)).run Tryz.prog (w.alloc (.cells #[.int .u8 104, .int .u8 105] 5)) = .ok (.slice (some ⟨w.heap.size, 0, none⟩) 2 2) (w.alloc (.cells #[.int .u8 104, .int .u8 105] 5 (2, 3))) := Lib.run_convert_bytes_const w 30 5 #[.int .u8 104, .int .u8 105] 2 2 Tryz.underlying30 Tryz.underlying5
  go_wp2_with fail
  rw [(unhide HX).2.1]
  refine (unhide HMK).mono ?_
  clear HMK
  rintro e w2 ⟨u, us, g, rfl, t2, rc, md⟩
  obtain ⟨T2, P2, o2, e2, l2⟩ := t2
  subst e2
  obtain ⟨h, hW1, f1, cs, ch⟩ := unhide HX
  obtain ⟨Bn, Bk, Bg⟩ := unhide HB
  have lW1 : w.heap.size < W1.heap.size := by rw [← hW1]; simp
  have nt2 : ∀ k, k = bs ∨ k = bh ∨ k = bn ∨ k = bk ∨ k = bg → ¬ tfoot sb b T2 k := fun k hk => o2.other (by rcases hk with rfl | rfl | rfl | rfl | rfl <;> omega) (unhide HNT k hk)
  have h2 := (h.still f1).call o2
  have md2 := md.st
  have cs2 : w2.cell? ⟨bs, 0, none⟩ = some (ptr sb) := o2.fr.cell' (f1.cell' cs (fun x => x)) (unhide HNT bs (by simp))
  have ch2 : w2.cell? ⟨bh, 0, none⟩ = some (ptr hb) := o2.fr.cell' (f1.cell' ch (fun x => x)) (unhide HNT bh (by simp))
  have Bn2 : Box w2 bn v1 := (Bn.kept f1 (fun x => x)).kept o2.fr (unhide HNT bn (by simp))
  have Bk2 : Box w2 bk v2 := (Bk.kept f1 (fun x => x)).kept o2.fr (unhide HNT bk (by simp))
  have Bg2 : Box w2 bg v3 := (Bg.kept f1 (fun x => x)).kept o2.fr (unhide HNT bg (by simp))
  have tu : ∀ w1, Fr (fun k => k = bn ∨ k = bk) w2 w1 → Hp nu sz w1 hb sb b T2 A P2 := fun w1 f => h2.turn f (fun k hk => nt2 k (by rcases hk with rfl | rfl <;> simp)) (by omega) (by omega)
  have LN : ∀ w1, Fr (fun k => k = bn ∨ k = bk) w2 w1 → Calls Tryz.prog 48 #[ptr sb, .int .i64 (fi nu + 8 * u : Nat)] w1 fun e w' => e = .returned (.int .i64 2) ∧ Still w1 w' := fun w1 f => r_len (tu w1 f) rc
  have HL : ∀ w1, Fr (fun k => k = bn ∨ k = bk) w2 w1 → Calls Tryz.prog 49 #[ptr sb, .int .i64 (fi nu + 8 * u : Nat)] w1 fun e w' => e = .returned (.int .i64 1) ∧ Still w1 w' := fun w1 f => r_held (tu w1 f) rc
  have DR : ∀ w1, Fr (fun k => k = bn ∨ k = bk) w2 w1 → Calls Tryz.prog 14 #[ptr sb, ptr hb, .int .i64 (fi nu + 8 * u : Nat)] w1 _ := fun w1 f => r_drop1 (tu w1 f) md2 (by have := unhide HHM; omega) rc
  have o02 : Onx w sb b T w2 T2 sz A P2 false := o2.after f1
  have ok2 : OnxX (fun k => k = bn ∨ k = bk ∨ k = bg) w sb b T w2 T2 sz A P2 false := OnxX.of o02
  have HLN := @hide _ LN; have HHL := @hide _ HL; have HDR := @hide _ DR
  have HY := hide (And.intro ok2 (And.intro md nt2)); have HB2 := hide (And.intro Bn2 (And.intro Bk2 (And.intro Bg2 (And.intro cs2 ch2))))
  have lz := o2.fr.size
  have HLZ := hide (show w.heap.size ≤ w2.heap.size by omega)
  clear LN HL DR h hW1 f1 cs ch Bn Bk Bg lW1 nt2 h2 md2 cs2 ch2 Bn2 Bk2 Bg2 tu o02 ok2 o2 md rc HX HB HNT cv lz
  obtain ⟨p0, hp0⟩ : ∃ p0 : Int, ((fi nu + 8 * u : Nat) : Int) = p0 := ⟨_, rfl⟩
  simp only [hp0] at HLN HHL HDR ⊢
  clear hp0
  go_upto_region 1 with fail
  obtain ⟨W, hW⟩ : ∃ W, w2.drew = W := ⟨_, rfl⟩
  have fW : Still w2 W := hW ▸ (Fr.refl _ w2).drewN 1
  have FW : Fr (fun k => k = bn ∨ k = bk) w2 W := fW.mono (G := fun k => k = bn ∨ k = bk) (fun _ hk => hk.elim)
  refine wp_region_held_drew (S := fun w' => w'.cell? ⟨bs, 0, none⟩ = some (ptr sb) ∧ Fr (fun k => k = bn ∨ k = bk) w2 w') (by kernel_rfl) ?_ (fun hHeld => ?_)
  · rw [hW]; exact ⟨fW.cell' (unhide HB2).2.2.2.1 (fun x => x), FW⟩
  rw [hW] at hHeld ⊢
  clear hW FW
  refine take_l 0 (v := ?_) rfl (by kernel_rfl) (by kernel_rfl) (by kernel_rfl) (fun _ _ _ h => h) (Or.inl ⟨by rfl, ?_⟩) hHeld ?_
  rotate_left
  · (intro w hSw; (try dsimp only at hSw); go_simp; (try with_reducible rfl))
  simp only [Act.put, List.setIfInBounds_toArray, List.set_cons_zero, List.set_cons_succ]
  refine take_l 1 (v := ?_) rfl (by kernel_rfl) (by kernel_rfl) (by kernel_rfl) (fun _ _ _ h => h) (Or.inl ⟨by rfl, ?_⟩) hHeld ?_
  rotate_left
  · (intro w hSw; (try dsimp only at hSw); go_simp; (try with_reducible rfl))
  simp only [Act.put, List.setIfInBounds_toArray, List.set_cons_zero, List.set_cons_succ]
  refine take_l 3 (v := ?_) rfl (by kernel_rfl) (by kernel_rfl) (by kernel_rfl) (fun _ _ _ h => h) (Or.inl ⟨by rfl, ?_⟩) hHeld ?_
  rotate_left
  · (intro w hSw; (try dsimp only at hSw); go_simp; (try with_reducible rfl))
  simp only [Act.put, List.setIfInBounds_toArray, List.set_cons_zero, List.set_cons_succ]
  refine take_l 4 (v := ?_) rfl (by kernel_rfl) (by kernel_rfl) (by kernel_rfl) (fun _ _ _ h => h) (Or.inl ⟨by rfl, ?_⟩) hHeld ?_
  rotate_left
  · (intro w hSw; (try dsimp only at hSw); go_simp; (try with_reducible rfl))
  simp only [Act.put, List.setIfInBounds_toArray, List.set_cons_zero, List.set_cons_succ]
  refine wpAnyH_ready (rs := [2]) (by kernel_rfl) (by simp) ?_
  refine AllReadyH.cons rfl (fun K hK => ?_) AllReadyH.nil
  go_simp
  go_wp2_with fail
  refine (unhide HLN W hHeld.2).mono ?_
  rintro e w3 ⟨rfl, f3⟩
  have hS3 : w3.cell? ⟨bs, 0, none⟩ = some (ptr sb) ∧ Fr (fun k => k = bn ∨ k = bk) w2 w3 := ⟨f3.cell' hHeld.1 (fun x => x), hHeld.2.trans (f3.mono (G := fun k => k = bn ∨ k = bk) (fun _ hk => hk.elim))⟩
  refine hK.out _ _ hS3 (fun _ => ?_)
  clear hK K
  refine wpAnyH_ready (rs := [5]) (by kernel_rfl) (by simp) ?_
  refine AllReadyH.cons rfl (fun K hK => ?_) AllReadyH.nil
  go_simp
  go_wp2_with fail
  refine (unhide HHL w3 hS3.2).mono ?_
  rintro e w4 ⟨rfl, f4⟩
  have hS4 : w4.cell? ⟨bs, 0, none⟩ = some (ptr sb) ∧ Fr (fun k => k = bn ∨ k = bk) w2 w4 := ⟨f4.cell' hS3.1 (fun x => x), hS3.2.trans (f4.mono (G := fun k => k = bn ∨ k = bk) (fun _ hk => hk.elim))⟩
  refine hK.out _ _ hS4 (fun _ => ?_)
  clear hK K
  clear HLN HHL hS3 hHeld
  have f24 : Still w2 w4 := (fW.trans' f3 (fun _ x => x.elim)).trans' f4 (fun _ x => x.elim)
  obtain ⟨Bn2, Bk2, Bg2, cs2, ch2⟩ := unhide HB2
  have Bn4 := Bn2.kept f24 (fun x => x); have Bk4 := Bk2.kept f24 (fun x => x); have Bg4 := Bg2.kept f24 (fun x => x)
  have ch4 := f24.cell' ch2 (fun x => x)
  have c4 := Bn4.c; have z4 := Bn4.z
  have HB4 := hide (And.intro Bn4 (And.intro Bk4 Bg4))
  clear Bn2 Bk2 Bg2 cs2 ch2 Bn4 Bk4 Bg4 fW f3 f4
  refine wpAnyH_ready (rs := [6]) (by kernel_rfl) (by simp) ?_
  refine AllReadyH.cons rfl (fun K hK => ?_) AllReadyH.nil
  go_simp
  obtain ⟨W5, hW5⟩ : ∃ W5, w4.setCell ⟨bn, 0, none⟩ (.int .i64 2) = W5 := ⟨_, rfl⟩
  have f5 : Fr (fun k => k = bn) w4 W5 := hW5 ▸ Fr.box w4 bn _
  have Bn5 : Box W5 bn (.int .i64 2) := hW5 ▸ (unhide HB4).1.set _
  have Bk5 : Box W5 bk v2 := (unhide HB4).2.1.kept f5 (fun e => ne.2.2.2.2.1 e.symm)
  have Bg5 : Box W5 bg v3 := (unhide HB4).2.2.kept f5 (fun e => ne.2.2.2.2.2.1 e.symm)
  have ch5 := f5.cell' ch4 ne.2.2.1
  have hS5 : W5.cell? ⟨bs, 0, none⟩ = some (ptr sb) ∧ Fr (fun k => k = bn ∨ k = bk) w2 W5 := ⟨f5.cell' hS4.1 ne.1, hS4.2.trans (f5.mono (G := fun k => k = bn ∨ k = bk) (fun _ hk => .inl (.inl hk)))⟩
  have c5 := Bk5.c; have z5 := Bk5.z
  rw [hW5]
  have HB5 := hide (And.intro Bn5 (And.intro Bk5 Bg5))
  refine hK.out _ _ hS5 (fun _ => ?_)
  clear hK K hW5 f5 Bn5 Bk5 Bg5 hS4 ch4 c4 z4
  refine wpAnyH_ready (rs := [7]) (by kernel_rfl) (by simp) ?_
  refine AllReadyH.cons rfl (fun K hK => ?_) AllReadyH.nil
  go_simp
  obtain ⟨W6, hW6⟩ : ∃ W6, W5.setCell ⟨bk, 0, none⟩ (.int .i64 1) = W6 := ⟨_, rfl⟩
  have f6 : Fr (fun k => k = bk) W5 W6 := hW6 ▸ Fr.box W5 bk _
  have Bk6 : Box W6 bk (.int .i64 1) := hW6 ▸ (unhide HB5).2.1.set _
  have Bn6 : Box W6 bn (.int .i64 2) := (unhide HB5).1.kept f6 ne.2.2.2.2.1
  have Bg6 : Box W6 bg v3 := (unhide HB5).2.2.kept f6 (fun e => ne.2.2.2.2.2.2.1 e.symm)
  have ch6 := f6.cell' ch5 ne.2.2.2.1
  have hS6 : W6.cell? ⟨bs, 0, none⟩ = some (ptr sb) ∧ Fr (fun k => k = bn ∨ k = bk) w2 W6 := ⟨f6.cell' hS5.1 ne.2.1, hS5.2.trans (f6.mono (G := fun k => k = bn ∨ k = bk) (fun _ hk => .inl (.inr hk)))⟩
  rw [hW6]
  refine hK.out _ _ hS6 (fun _ => ?_)
  obtain ⟨cs6, F6⟩ := hS6
  have DR6 := hide (unhide HDR W6 F6)
  have HB6 := hide (And.intro Bn6 (And.intro Bk6 (And.intro Bg6 F6)))
  clear hK K hW6 f6 Bn6 Bk6 Bg6 hS5 ch5 c5 z5 HDR F6
  refine wpAnyH_done (by kernel_rfl) ?_ _
  go_wp2_with fail
  refine (unhide DR6).mono ?_
  clear DR6
  rintro e w7 ⟨rfl, g', t7, dr⟩
  obtain ⟨Bn6, Bk6, Bg6, F6⟩ := unhide HB6
  obtain ⟨ok2, md, nt2⟩ := unhide HY
  obtain ⟨T7, P7, o7, e7, _⟩ := id t7
  have Bn7 : Box w7 bn (.int .i64 2) := Bn6.kept o7.fr (nt2 bn (by simp))
  have Bk7 : Box w7 bk (.int .i64 1) := Bk6.kept o7.fr (nt2 bk (by simp))
  have Bg7 : Box w7 bg v3 := Bg6.kept o7.fr (nt2 bg (by simp))
  have c7 := Bg7.c; have z7 := Bg7.z
  have lg6 := Bg6.lt
  have HX := hide (And.intro o7 (And.intro e7 (And.intro dr (And.intro Bn7 (And.intro Bk7 (And.intro Bg7 (And.intro F6 (And.intro ok2 (And.intro md nt2)))))))))
  clear t7 dr o7 e7 Bn7 Bk7 Bg7 F6 ok2 md nt2 Bn6 Bk6 Bg6 HY HB6 cs6 ch6
  go_wp2
  go_end0
  obtain ⟨o7, e7, dr, Bn7, Bk7, Bg7, F6, ok2, md, nt2⟩ := unhide HX
  subst e7
  have o6 := ok2.var F6 (fun k hk => hk.elim .inl (fun x => .inr (.inl x))) (fun k hk => nt2 k (by rcases hk with rfl | rfl <;> simp))
  have fb := Fr.box w7 bg (.bool true)
  refine ⟨rfl, T7, P7, (o6.trans o7).var fb (fun k hk => .inr (.inr hk)) (fun k hk => by have hk : k = bg := hk; subst hk; exact o7.other lg6 (nt2 _ (by simp))), Bn7.kept fb ne.2.2.2.2.2.1, Bk7.kept fb ne.2.2.2.2.2.2.1, Bg7.set _, dr.st, _, u, us, md, dr⟩
end
end
end Go.Proofs.YtflnaiijdpihcaaGreatDoor
