/- What a call leaves alone; rows of numbers in memory. -/
import Derived.WalkKit
import Derived.WalkSpells
import Derived.WalkLawsBesides
import Derived.Handy
import Derived.Laws.MakeOwn
import Derived.LoopTactic
import Derived.BigQuiet
import Derived.BigRegion
import Derived.StillTail
import Derived.Below
import Derived.OwnWalk
import Derived.Deep.OwnRows
import Derived.Maps.AppendAt
import Derived.Laws.AppendOwnNone
import Derived.Test.YtkdehhmmcchgfaaRows
namespace Go.Proofs.Ytkdehhmmcchgfaa
open Go.RowKit

theorem hide {p : Prop} (h : p) : Hid p := h
theorem unhide {p : Prop} (h : Hid p) : p := h

/-- Of the blocks that were there only those in F may have turned. -/
structure Fr (F : Nat → Prop) (w w' : World) : Prop where
  os : w'.os = w.os
  tape : w'.tape = w.tape
  output : w'.output = w.output
  size : w.heap.size ≤ w'.heap.size
  block : ∀ k, k < w.heap.size → ¬ F k → w'.heap[k]? = w.heap[k]?

theorem Fr.refl (F : Nat → Prop) (w : World) : Fr F w w := ⟨rfl, rfl, rfl, Nat.le_refl _, fun _ _ _ => rfl⟩

/-- A step whose own writes lie in G: each block of G is one of F or new. -/
theorem Fr.trans' {F G : Nat → Prop} {a b c : World} (h : Fr F a b) (k : Fr G b c) (hG : ∀ k, G k → F k ∨ a.heap.size ≤ k) : Fr F a c :=
  ⟨k.os.trans h.os, k.tape.trans h.tape, k.output.trans h.output, Nat.le_trans h.size k.size, fun i hi hF =>
    (k.block i (Nat.lt_of_lt_of_le hi h.size) (fun g => by rcases hG i g with h1 | h1; exact hF h1; omega)).trans (h.block i hi hF)⟩
theorem Fr.trans {F : Nat → Prop} {a b c : World} (h : Fr F a b) (k : Fr F b c) : Fr F a c := h.trans' k fun _ => .inl
theorem Fr.mono {F G : Nat → Prop} {a b : World} (h : Fr F a b) (hG : ∀ k, F k → G k ∨ a.heap.size ≤ k) : Fr G a b := (Fr.refl G a).trans' h hG
theorem Fr.alloc {F : Nat → Prop} {a w : World} (h : Fr F a w) (o : Obj) : Fr F a (w.alloc o) :=
  h.trans ⟨rfl, rfl, rfl, by simp, fun k hk _ => Below.heap_alloc _ _ _ (by omega)⟩
theorem Fr.setCell {F : Nat → Prop} {a w : World} (h : Fr F a w) {p : Addr} (hp : F p.block ∨ a.heap.size ≤ p.block) (u : Value) : Fr F a (w.setCell p u) :=
  h.trans' (G := fun k => k = p.block) ⟨rfl, rfl, rfl, by simp [World.setCell], fun k _ hk => Below.heap_setCell _ _ _ _ hk⟩ (fun k e => by subst e; exact hp)
theorem Fr.drew {F : Nat → Prop} {a w : World} (h : Fr F a w) : Fr F a w.drew := ⟨h.os, h.tape, h.output, h.size, h.block⟩
theorem Fr.drewN {F : Nat → Prop} {a w : World} (h : Fr F a w) (n : Nat) : Fr F a (w.drewN n) := ⟨h.os, h.tape, h.output, h.size, h.block⟩
theorem Fr.grown {F : Nat → Prop} {a w w' : World} {r : Option Nat} (h : Fr F a w) (hg : w.grownBy w' r) (hr : ∀ k, r = some k → F k ∨ a.heap.size ≤ k) : Fr F a w' :=
  h.trans' (G := fun k => some k = r) ⟨hg.os, hg.tape, hg.output, hg.size, fun k hk hn => hg.block k hk hn⟩ (fun k e => hr k e.symm)
theorem Fr.cell {F : Nat → Prop} {w w' : World} (h : Fr F w w') {p : Addr} (hp : p.block < w.heap.size) (hF : ¬ F p.block) : w'.cell? p = w.cell? p := World.cell?_of_block (h.block _ hp hF)
theorem Fr.cell' {F : Nat → Prop} {w w' : World} (h : Fr F w w') {p : Addr} {v : Value} (hv : w.cell? p = some v) (hF : ¬ F p.block) : w'.cell? p = some v :=
  (h.cell (World.block_lt_of_cell? w p hv) hF).trans hv
theorem Fr.frozen {F : Nat → Prop} {w w' : World} (h : Fr F w w') {p : Addr} (hp : p.block < w.heap.size) (hF : ¬ F p.block) : w'.frozen? p = w.frozen? p := World.frozen?_of_block (h.block _ hp hF)
theorem Fr.below {F : Nat → Prop} {w w' : World} (h : Fr F w w') {B : Nat} (hB : B ≤ w.heap.size) (hF : ∀ k, F k → B ≤ k) : Below B w w' :=
  ⟨h.os, h.tape, h.output, h.size, fun k hk => h.block k (by omega) (fun f => by have := hF k f; omega)⟩
theorem Fr.ofBelow {w w' : World} (h : Below w.heap.size w w') : Fr (fun _ => False) w w' := ⟨h.os, h.tape, h.output, h.size, fun k hk _ => h.block k hk⟩

abbrev Still (w w' : World) : Prop := Fr (fun _ => False) w w'
theorem Fr.obj {F : Nat → Prop} {w w' : World} (h : Fr F w w') {k : Nat} {o : Obj} (hv : w.heap[k]? = some o) (hF : ¬ F k) : w'.heap[k]? = some o :=
  (h.block k (by rcases Nat.lt_or_ge k w.heap.size with hk | hk; exact hk; rw [Array.getElem?_eq_none hk] at hv; cases hv) hF).trans hv
theorem cell_of_obj {w : World} {k : Nat} {cs : Array Value} {t : Nat} {z : Nat × Nat} (h : w.heap[k]? = some (.cells cs t z)) (i : Nat) : w.cell? ⟨k, i, none⟩ = cs[i]? := by
  simp [World.cell?, h]
theorem frozen_of_obj {w : World} {k : Nat} {cs : Array Value} {t : Nat} (h : w.heap[k]? = some (.cells cs t)) (i : Nat) : w.frozen? ⟨k, i, none⟩ = false := by
  simp [World.frozen?, h]
theorem owns_same {w w' : World} {base : Nat} {e : TypeId} {size : Nat} {v : Value} {n : Nat} {xs : List Value} (h : w.ownsRow base e size v n xs) (hb : ∀ k, v.ownBlock = some k → w'.heap[k]? = w.heap[k]?) : w'.ownsRow base e size v n xs := by
  refine ⟨h.1, ?_⟩
  rcases h.2 with hn | ⟨g, cap, cur, rfl, hg, hgg, rest⟩
  · exact .inl hn
  · exact .inr ⟨g, cap, cur, rfl, hg, by rw [hb g rfl]; exact hgg, rest⟩

theorem rows_form {t : TypeId} {w : World} {base n : Nat} {v : Value} {xs : List Value} (h : w.ownsRow base t 1 v n xs) : ∃ pa pc, v = .slice pa n pc := by
  rcases h.2 with ⟨hv, hn⟩ | ⟨g, cap, cur, hv, _⟩
  · exact ⟨none, 0, by rw [hn]; exact hv⟩
  · exact ⟨_, cap, hv⟩
theorem run_val {et st : TypeId} {z : Value} {bytes : Nat} (hinfo : (Try.prog.info? et).map (fun i => (i.zero, i.size, i.bytes)) = some (some z, 1, bytes)) (hz1 : z.cells.size = 1) (hbb : bytes ≤ 24) (hun : Try.prog.underlying st = some (.slice et))
    (w : World) (lo : Nat) (v : Value) (n : Nat) (xs : List Value) (hown : w.ownsRow lo et 1 v n xs) (y : Value) (hy : y.oneCell' = true) (hl : n ≤ 1000) (hlo : lo ≤ w.heap.size) :
    ∃ v' w', (Builtin.append_ #[st, st] st #[v, .slice (some ⟨w.heap.size, 0, none⟩) 1 1]).run Try.prog (w.alloc (.cells #[y] et)) = .ok v' w' ∧ w'.ownsRow lo et 1 v' (n + 1) (xs ++ [y]) ∧ Fr (fun k => v.ownBlock = some k) w w' ∧ (v'.ownBlock = v.ownBlock ∨ v'.ownBlock = some (w.heap.size + 1)) := by
  obtain ⟨i, hi, hzz⟩ := Option.map_eq_some_iff.1 hinfo
  simp only [Prod.mk.injEq] at hzz
  obtain ⟨hz, hsize, hby⟩ := hzz
  have hA : (w.alloc (.cells #[y] et)).heap.size = w.heap.size + 1 := by simp
  have own1 : (w.alloc (.cells #[y] et)).ownsRow lo et 1 v n xs := owns_same hown fun k hk => ((Fr.refl (fun _ => False) w).alloc _).block k (hown.lt k hk).2 (fun x => x)
  obtain ⟨v', w', hr, h2, h3, _, h5⟩ := run_append_own_at (P := Try.prog) (w.alloc (.cells #[y] et)) lo st st et i z 1 bytes hun hi hz hsize hby hz1 (by decide) v n xs own1 ⟨w.heap.size, 0, none⟩ 1 1 [y] rfl (cell_one_new w _ _) (by intro q hq; simp at hq; subst hq; exact hy) (by unfold maxLen; omega) (by have : (n + 1) * bytes ≤ 1001 * 24 := Nat.mul_le_mul (by omega) hbb; omega) (by rw [hA]; omega)
  exact ⟨v', w', hr, by simpa using h2, ((Fr.refl (fun k => v.ownBlock = some k) w).alloc _).grown h3 (fun r e => .inl e), by rw [hA] at h5; exact h5⟩

theorem infoN : (Try.prog.info? 3).map (fun i => (i.zero, i.size, i.bytes)) = some (some (.int .i64 0), 1, 8) := by kernel_rfl
abbrev ptr (b : Nat) : Value := .pointer (some ⟨b, 0, none⟩)
abbrev iv (x : Int) : Value := .int .i64 x
/-- A row that is read. -/
def Rd (w : World) (a : Option Addr) (l : List Int) : Prop := ∀ i, i < l.length → ∃ b o, a = some ⟨b, o, none⟩ ∧ w.cell? ⟨b, o + i, none⟩ = some (iv (l.getD i 0))
theorem Rd.on {w w' : World} {a : Option Addr} {l : List Int} {F : Nat → Prop} (h : Rd w a l) (f : Fr F w w') (hF : ∀ b o, a = some ⟨b, o, none⟩ → ¬ F b) : Rd w' a l := fun i hi => by
  obtain ⟨b, o, e, c⟩ := h i hi
  exact ⟨b, o, e, f.cell' c (hF b o e)⟩
theorem Rd.still {w w' : World} {a : Option Addr} {l : List Int} (h : Rd w a l) (f : Still w w') : Rd w' a l := h.on f fun _ _ _ x => x
theorem Rd.nil (w : World) (a : Option Addr) : Rd w a [] := fun i hi => by simp at hi
theorem Rd.tail {w : World} {b o : Nat} {x : Int} {l : List Int} (h : Rd w (some ⟨b, o, none⟩) (x :: l)) : Rd w (some ⟨b, o + 1, none⟩) l := fun i hi => by
  obtain ⟨b', o', e, c⟩ := h (i + 1) (by simpa using hi)
  cases e
  exact ⟨b, o + 1, rfl, by rw [show o + 1 + i = o + (i + 1) by omega]; simpa using c⟩

/-- A row of one's own. -/
def Own (w : World) (base : Nat) (v : Value) (l : List Int) : Prop := w.ownsRow base 3 1 v l.length (l.map iv)
theorem Own.nil (w : World) (base : Nat) : Own w base (.slice none 0 0) [] := World.ownsRow_nil _ _ _ _
theorem Own.still {w w' : World} {base : Nat} {v : Value} {l : List Int} {F : Nat → Prop} (h : Own w base v l) (f : Fr F w w') (hF : ∀ k, v.ownBlock = some k → ¬ F k) : Own w' base v l :=
  owns_same h fun k hk => f.block k (h.lt k hk).2 (hF k hk)
theorem Own.from {w : World} {base base' : Nat} {v : Value} {l : List Int} (h : Own w base v l) (hb : base' ≤ base) : Own w base' v l := by
  refine ⟨h.1, ?_⟩
  rcases h.2 with hn | ⟨g, cap, cur, hv, hg, rest⟩
  · exact .inl hn
  · exact .inr ⟨g, cap, cur, hv, Nat.le_trans hb hg, rest⟩
/-- What it is: nil, or a block. -/
theorem Own.form {w : World} {base : Nat} {v : Value} {l : List Int} (h : Own w base v l) : (v = .slice none 0 0 ∧ l = []) ∨
    ∃ g cap, v = .slice (some ⟨g, 0, none⟩) l.length cap ∧ l.length ≤ cap ∧ base ≤ g ∧ g < w.heap.size ∧ (∀ i, i < l.length → w.cell? ⟨g, i, none⟩ = some (iv (l.getD i 0))) ∧ ∀ i, w.frozen? ⟨g, i, none⟩ = false := by
  rcases h.2 with ⟨hv, hn⟩ | ⟨g, cap, cur, hv, hb, hg, hc, _, hs, hcur⟩
  · exact .inl ⟨hv, List.length_eq_zero_iff.1 hn⟩
  · refine .inr ⟨g, cap, hv, hc, hb, (Array.getElem?_eq_some_iff.1 hg).1, fun i hi => ?_, fun i => ?_⟩
    · have h1 : w.ownsRow base 3 1 (.slice (some ⟨g, 0, none⟩) l.length cap) l.length (l.map iv) := hv ▸ h
      rw [h1.cellAt i (by omega)]
      simp [hi]
    · simp [World.frozen?, hg]
theorem Own.rd {w : World} {base : Nat} {v : Value} {l : List Int} (h : Own w base v l) : ∃ a cap, v = .slice a l.length cap ∧ l.length ≤ cap ∧ Rd w a l ∧ ∀ b o, a = some ⟨b, o, none⟩ → base ≤ b ∧ v.ownBlock = some b ∧ o = 0 := by
  rcases h.form with ⟨hv, hn⟩ | ⟨g, cap, hv, hc, hb, _, hcell, _⟩
  · subst hn; exact ⟨none, 0, hv, Nat.le_refl _, Rd.nil _ _, fun b o e => by cases e⟩
  · exact ⟨some ⟨g, 0, none⟩, cap, hv, hc, fun i hi => ⟨g, 0, rfl, by rw [Nat.zero_add]; exact hcell i hi⟩, fun b o e => by cases e; exact ⟨hb, by rw [hv]; rfl, rfl⟩⟩
theorem Own.one (w : World) (x : Int) : Own (w.alloc (.cells #[iv x] 3)) w.heap.size (.slice (some ⟨w.heap.size, 0, none⟩) 1 1) [x] :=
  ⟨rfl, .inr ⟨w.heap.size, 1, #[iv x], rfl, Nat.le_refl _, heap_alloc_new w _, Nat.le_refl _, by unfold maxLen; omega, rfl, rfl⟩⟩
theorem Own.two (w : World) (x y : Int) : Own (w.alloc (.cells #[iv x, iv y] 3)) w.heap.size (.slice (some ⟨w.heap.size, 0, none⟩) 2 2) [x, y] :=
  ⟨rfl, .inr ⟨w.heap.size, 2, #[iv x, iv y], rfl, Nat.le_refl _, heap_alloc_new w _, Nat.le_refl _, by unfold maxLen; omega, rfl, rfl⟩⟩
/-- One of its numbers turned. -/
theorem Own.set {w : World} {base g n cap : Nat} {l : List Int} (h : Own w base (.slice (some ⟨g, 0, none⟩) n cap) l) (i : Nat) (x : Int) :
    Own (w.setCell ⟨g, i, none⟩ (iv x)) base (.slice (some ⟨g, 0, none⟩) n cap) (l.set i x) := by
  refine ⟨by simp, ?_⟩
  rcases h.2 with ⟨hv, hn⟩ | ⟨g', cap', cur, hv, hb, hg, hc, hm, hs, hcur⟩
  · cases hv
  · injection hv with hv1 hv2 hv3
    injection hv1 with hv1
    injection hv1 with hv1
    subst hv1; subst hv2; subst hv3
    refine .inr ⟨g, cap, cur.setIfInBounds i (iv x), by simp, hb, ?_, by simpa using hc, hm, by simpa using hs, ?_⟩
    · simp [World.setCell, Array.getElem?_modify, hg]
    · simp only [Nat.mul_one, List.length_set] at *
      rw [Array.toList_setIfInBounds, List.take_set, hcur]
      simp [List.map_set]
/-- Its first n. -/
theorem Own.take {w : World} {base g m cap : Nat} {l : List Int} (h : Own w base (.slice (some ⟨g, 0, none⟩) m cap) l) (n : Nat) (hn : n ≤ l.length) :
    Own w base (.slice (some ⟨g, 0, none⟩) n cap) (l.take n) := by
  refine ⟨by simp, ?_⟩
  rcases h.2 with ⟨hv, _⟩ | ⟨g', cap', cur, hv, hb, hg, hc, hm, hs, hcur⟩
  · cases hv
  · injection hv with hv1 hv2 hv3
    injection hv1 with hv1
    injection hv1 with hv1
    subst hv1; subst hv2; subst hv3
    refine .inr ⟨g, cap, cur, by simp [Nat.min_eq_left hn], hb, hg, by simp; omega, hm, hs, ?_⟩
    simp only [Nat.mul_one, List.length_take] at *
    rw [List.map_take, ← hcur, List.take_take, Nat.min_eq_left hn]
/-- One number more: how the append runs. -/
theorem Own.more {st : TypeId} (hun : Try.prog.underlying st = some (.slice 3)) (w : World) (lo : Nat) (v : Value) (l : List Int) (n : Nat) (hown : Own w lo v l) (hn : n = l.length) (x : Int) (hl : n ≤ 1000) (hlo : lo ≤ w.heap.size) :
    ∃ a c w', (Builtin.append_ #[st, st] st #[v, .slice (some ⟨w.heap.size, 0, none⟩) 1 1]).run Try.prog (w.alloc (.cells #[iv x] 3)) = .ok (.slice a (n + 1) c) w' ∧ Own w' lo (.slice a (n + 1) c) (l ++ [x]) ∧ Fr (fun k => v.ownBlock = some k) w w' ∧ (Value.ownBlock (.slice a (n + 1) c) = v.ownBlock ∨ Value.ownBlock (.slice a (n + 1) c) = some (w.heap.size + 1)) ∧ n + 1 = (l ++ [x]).length := by
  subst hn
  obtain ⟨v', w', h1, h2, h3, h4⟩ := run_val infoN rfl (by decide) hun w lo v l.length (l.map iv) hown (iv x) rfl hl hlo
  obtain ⟨a, c, rfl⟩ := rows_form h2
  refine ⟨a, c, w', h1, ?_, h3, h4, by simp⟩
  unfold Own
  simpa using h2
theorem wpList_append_run {P : Program} {w : World} {ops : Array Oper} {rest : List Oper} {o : Oper} {a : Act} {Q : Exit → Act → World → Prop} (hgd : o.guard = none) (s x : Operand) (t : TypeId)
    (ho : o.op = .call { callee := .builtin .append, args := #[s, x], argTypes := #[t, t] }) (vs vx : Value) (hs : a.eval s = vs) (hx : a.eval x = vx) (v' : Value) (w' : World) (hr : (Builtin.append_ #[t, t] o.type #[vs, vx]).run P w = .ok v' w')
    (h : wpList P ops Q rest (a.put o.dst v') w') : wpList P ops Q (o :: rest) a w := by
  refine wpList_plain hgd fun K hK => ?_
  unfold Oper.wp execOp
  simp only [ho, resolve, invoke, builtin, Sem.run_bind, Sem.run_pure, Result.andThen_ok, List.map_toArray, List.map_cons, List.map_nil, hs, hx, hr]
  exact hK _ _ h

/-- A slice that leaves out its first. -/
theorem slice_tail (b o len cap : Nat) (hl : 1 ≤ len) : ∃ o', (∀ w, (Instr.slice 22 (.slice (some ⟨b, o, none⟩) len cap) (some (.int .i64 1)) none none).run Try.prog w = .ok (.slice (some ⟨b, o', none⟩) (len - 1) (cap - 1)) w) ∧ (1 < cap → o' = o + 1) := by
  obtain ⟨i, hi, hzz⟩ := Option.map_eq_some_iff.1 infoN
  simp only [Prod.mk.injEq] at hzz
  have he : Try.prog.elem 22 = 3 := by kernel_rfl
  have hadd : (⟨b, o, none⟩ : Addr).add (1 * 1) = ⟨b, o + 1, none⟩ := by unfold Addr.add; split <;> simp_all
  refine ⟨if cap = 1 then o else o + 1, fun w => ?_, fun h => if_neg (by omega)⟩
  have hs : (sizeOf 3).run Try.prog w = .ok 1 w := by simp [sizeOf, typeInfo, hi, hzz.2.1]
  rw [run_slice_l (P := Try.prog) w 22 _ len cap (by rw [he]; exact Try.underlying22) .i64 1 (by omega) (by omega), he, hs]
  simp only [Result.andThen, sliced]
  by_cases h : cap = 1
  · subst h; simp
  · have h' : ¬ (cap = Int.toNat 1) := by simpa using h
    rw [if_neg h', if_neg h]
    simpa using hadd
end Go.Proofs.Ytkdehhmmcchgfaa
