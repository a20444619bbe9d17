/- Reply, told alone: rows of texts. -/
import Derived.Test.YticflknfkaoejaaDoorRl
namespace Go.Proofs.YticflknfkaoejaaDoor
open Go.RowKit

/-- A row of one's own made longer by one: how the append runs. -/
theorem row_more {et st : TypeId} {z : Value} {size bytes : Nat} (hinfo : (Tryd.prog.info? et).map (fun i => (i.zero, i.size, i.bytes)) = some (some z, size, bytes)) (hz1 : z.cells.size = size) (h0 : 0 < size) (hbb : bytes ≤ 64) (hun : Tryd.prog.underlying st = some (.slice et))
    (w : World) (lo : Nat) (v : Value) (n : Nat) (xs : List Value) (hown : w.ownsRow lo et size v n xs) (cs : List Value) (hcs : cs.length = size) (h1 : ∀ u ∈ cs, u.oneCell' = true) (hn : n ≤ 1000000) (hlo : lo ≤ w.heap.size) :
    ∃ a c w', (Builtin.append_ #[st, st] st #[v, .slice (some ⟨w.heap.size, 0, none⟩) 1 1]).run Tryd.prog (w.alloc (.cells cs.toArray et)) = .ok (.slice a (n + 1) c) w' ∧ w'.ownsRow lo et size (.slice a (n + 1) c) (n + 1) (xs ++ cs) ∧ Fr (fun k => v.ownBlock = some k) w w' ∧
      (Value.ownBlock (.slice a (n + 1) c) = v.ownBlock ∨ Value.ownBlock (.slice a (n + 1) c) = some (w.heap.size + 1)) := by
  obtain ⟨i, hi, hzz⟩ := Option.map_eq_some_iff.1 hinfo
  simp only [Prod.mk.injEq] at hzz
  obtain ⟨hz, hsize, hby⟩ := hzz
  have hk : (w.alloc (.cells cs.toArray et)).ownsRow lo et size v n xs := hown.alloc _
  obtain ⟨v', w', hr, h2, h3, h4, h5⟩ := run_append_own_at (P := Tryd.prog) (w.alloc (.cells cs.toArray et)) lo st st et i z size bytes hun hi hz hsize hby hz1 h0 v n xs hk ⟨w.heap.size, 0, none⟩ 1 1 cs (by omega)
    (fun j u hu => by
      have hadd : (⟨w.heap.size, 0, none⟩ : Addr).add j = ⟨w.heap.size, j, none⟩ := by unfold Addr.add; split <;> simp_all
      rw [hadd, cell_of_obj (heap_alloc_new w (.cells cs.toArray et)) j]
      simpa using hu)
    h1 (by unfold maxLen; omega) (by have : (n + 1) * bytes ≤ 1000001 * 64 := Nat.mul_le_mul (by omega) hbb; omega) (by simp; omega)
  have hs : ∃ a c, v' = .slice a (n + 1) c := by
    rcases h2.2 with ⟨_, hn0⟩ | ⟨g, cap, cur, hv, _⟩
    · omega
    · exact ⟨_, cap, hv⟩
  obtain ⟨a, c, rfl⟩ := hs
  refine ⟨a, c, w', hr, h2, ?_, ?_⟩
  · exact ((Fr.refl _ w).alloc _).grown h3 fun r e => .inl e
  · rcases h5 with e | e
    · exact .inl e
    · exact .inr (by rw [e]; simp)
theorem wpList_append_run {P : Program} {w : World} {ops : Array Oper} {rest : List Oper} {o : Oper} {a : Act} {Q : Exit → Act → World → Prop} (hgd : o.guard = none) (s x : Operand) (t : TypeId)
    (ho : o.op = .call { callee := .builtin .append, args := #[s, x], argTypes := #[t, t] }) (vs vx : Value) (hs : a.eval s = vs) (hx : a.eval x = vx) (v' : Value) (w' : World) (hr : (Builtin.append_ #[t, t] o.type #[vs, vx]).run P w = .ok v' w')
    (h : wpList P ops Q rest (a.put o.dst v') w') : wpList P ops Q (o :: rest) a w := by
  refine wpList_plain hgd fun K hK => ?_
  unfold Oper.wp execOp
  simp only [ho, resolve, invoke, builtin, Sem.run_bind, Sem.run_pure, Result.andThen_ok, List.map_toArray, List.map_cons, List.map_nil, hs, hx, hr]
  exact hK _ _ h
theorem infoS : (Tryd.prog.info? 9).map (fun i => (i.zero, i.size, i.bytes)) = some (some (.string ⟨#[]⟩), 1, 16) := by kernel_rfl
/-- A text as a value. -/
abbrev sv (l : List UInt8) : Value := .string (bs l)
/-- A row of texts of one's own. -/
def Txt (w : World) (lo : Nat) (v : Value) (l : List (List UInt8)) : Prop := w.ownsRow lo 9 1 v l.length (l.map sv)
theorem Txt.nil (w : World) (lo : Nat) : Txt w lo (.slice none 0 0) [] := World.ownsRow_nil _ _ _ _
theorem Txt.still {w w' : World} {lo : Nat} {v : Value} {l : List (List UInt8)} {F : Nat → Prop} (h : Txt w lo v l) (f : Fr F w w') (hF : ∀ k, v.ownBlock = some k → ¬ F k) : Txt w' lo v l :=
  owns_same h fun k hk => f.block k (h.lt k hk).2 (hF k hk)
theorem Txt.form {w : World} {lo : Nat} {v : Value} {l : List (List UInt8)} (h : Txt w lo v l) : (v = .slice none 0 0 ∧ l = []) ∨
    ∃ g cap, v = .slice (some ⟨g, 0, none⟩) l.length cap ∧ lo ≤ g ∧ g < w.heap.size ∧ l.length ≤ cap ∧ ∀ i x, l[i]? = some x → w.cell? ⟨g, i, none⟩ = some (sv x) := by
  rcases h.2 with ⟨hv, hn⟩ | ⟨g, cap, cur, hv, hb, hg, hc, _, hs, hcur⟩
  · exact .inl ⟨hv, List.length_eq_zero_iff.1 hn⟩
  · refine .inr ⟨g, cap, hv, hb, (Array.getElem?_eq_some_iff.1 hg).1, hc, fun i x hx => ?_⟩
    have h1 : w.ownsRow lo 9 1 (.slice (some ⟨g, 0, none⟩) l.length cap) l.length (l.map sv) := hv ▸ h
    have hi : i < l.length := (List.getElem?_eq_some_iff.1 hx).1
    rw [h1.cellAt i (by omega)]
    simp [hx]
theorem Txt.more (w : World) (lo : Nat) (v : Value) (l : List (List UInt8)) (h : Txt w lo v l) (x : List UInt8) (hn : l.length ≤ 1000000) (hlo : lo ≤ w.heap.size) :
    ∃ a c w', (Builtin.append_ #[24, 24] 24 #[v, .slice (some ⟨w.heap.size, 0, none⟩) 1 1]).run Tryd.prog (w.alloc (.cells #[sv x] 9)) = .ok (.slice a (l.length + 1) c) w' ∧ Txt w' lo (.slice a (l.length + 1) c) (l ++ [x]) ∧ Fr (fun k => v.ownBlock = some k) w w' ∧
      (Value.ownBlock (.slice a (l.length + 1) c) = v.ownBlock ∨ Value.ownBlock (.slice a (l.length + 1) c) = some (w.heap.size + 1)) := by
  obtain ⟨a, c, w', h1, h2, h3, h4⟩ := row_more infoS rfl (by decide) (by decide) Tryd.underlying24 w lo v l.length (l.map sv) h [sv x] rfl (by simp [Value.oneCell']) hn hlo
  refine ⟨a, c, w', h1, ?_, h3, h4⟩
  unfold Txt
  simpa using h2
end Go.Proofs.YticflknfkaoejaaDoor
