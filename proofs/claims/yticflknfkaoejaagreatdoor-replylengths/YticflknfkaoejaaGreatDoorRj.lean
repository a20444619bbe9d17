/- Reply: rows of texts; Parse. -/
import Derived.Test.YticflknfkaoejaaGreatDoorRi
namespace Go.Proofs.YticflknfkaoejaaGreatDoor
open Go.RowKit

/-- A row of one's own made longer by one: how the append runs. -/
theorem row_more {et st : TypeId} {z : Value} {size bytes : Nat} (hinfo : (Tryz.prog.info? et).map (fun i => (i.zero, i.size, i.bytes)) = some (some z, size, bytes)) (hz1 : z.cells.size = size) (h0 : 0 < size) (hbb : bytes ≤ 64) (hun : Tryz.prog.underlying st = some (.slice et))
    (w : World) (lo : Nat) (v : Value) (n : Nat) (xs : List Value) (hown : w.ownsRow lo et size v n xs) (cs : List Value) (hcs : cs.length = size) (h1 : ∀ u ∈ cs, u.oneCell' = true) (hn : n ≤ 1000000) (hlo : lo ≤ w.heap.size) :
    ∃ a c w', (Builtin.append_ #[st, st] st #[v, .slice (some ⟨w.heap.size, 0, none⟩) 1 1]).run Tryz.prog (w.alloc (.cells cs.toArray et)) = .ok (.slice a (n + 1) c) w' ∧ w'.ownsRow lo et size (.slice a (n + 1) c) (n + 1) (xs ++ cs) ∧ Fr (fun k => v.ownBlock = some k) w w' ∧
      (Value.ownBlock (.slice a (n + 1) c) = v.ownBlock ∨ Value.ownBlock (.slice a (n + 1) c) = some (w.heap.size + 1)) := by
  obtain ⟨i, hi, hzz⟩ := Option.map_eq_some_iff.1 hinfo
  simp only [Prod.mk.injEq] at hzz
  obtain ⟨hz, hsize, hby⟩ := hzz
  have hk : (w.alloc (.cells cs.toArray et)).ownsRow lo et size v n xs := hown.alloc _
  obtain ⟨v', w', hr, h2, h3, h4, h5⟩ := run_append_own_at (P := Tryz.prog) (w.alloc (.cells cs.toArray et)) lo st st et i z size bytes hun hi hz hsize hby hz1 h0 v n xs hk ⟨w.heap.size, 0, none⟩ 1 1 cs (by omega)
    (fun j u hu => by
      have hadd : (⟨w.heap.size, 0, none⟩ : Addr).add j = ⟨w.heap.size, j, none⟩ := by unfold Addr.add; split <;> simp_all
      rw [hadd, cell_of_obj (heap_alloc_new w (.cells cs.toArray et)) j]
      simpa using hu)
    h1 (by unfold maxLen; omega) (by have : (n + 1) * bytes ≤ 1000001 * 64 := Nat.mul_le_mul (by omega) hbb; omega) (by simp; omega)
  have hs : ∃ a c, v' = .slice a (n + 1) c := by
    rcases h2.2 with ⟨_, hn0⟩ | ⟨g, cap, cur, hv, _⟩
    · omega
    · exact ⟨_, cap, hv⟩
  obtain ⟨a, c, rfl⟩ := hs
  refine ⟨a, c, w', hr, h2, ?_, ?_⟩
  · exact ((Fr.refl _ w).alloc _).grown h3 fun r e => .inl e
  · rcases h5 with e | e
    · exact .inl e
    · exact .inr (by rw [e]; simp)
theorem wpList_append_run {P : Program} {w : World} {ops : Array Oper} {rest : List Oper} {o : Oper} {a : Act} {Q : Exit → Act → World → Prop} (hgd : o.guard = none) (s x : Operand) (t : TypeId)
    (ho : o.op = .call { callee := .builtin .append, args := #[s, x], argTypes := #[t, t] }) (vs vx : Value) (hs : a.eval s = vs) (hx : a.eval x = vx) (v' : Value) (w' : World) (hr : (Builtin.append_ #[t, t] o.type #[vs, vx]).run P w = .ok v' w')
    (h : wpList P ops Q rest (a.put o.dst v') w') : wpList P ops Q (o :: rest) a w := by
  refine wpList_plain hgd fun K hK => ?_
  unfold Oper.wp execOp
  simp only [ho, resolve, invoke, builtin, Sem.run_bind, Sem.run_pure, Result.andThen_ok, List.map_toArray, List.map_cons, List.map_nil, hs, hx, hr]
  exact hK _ _ h
theorem infoS : (Tryz.prog.info? 9).map (fun i => (i.zero, i.size, i.bytes)) = some (some (.string ⟨#[]⟩), 1, 16) := by kernel_rfl
/-- A text as a value. -/
abbrev sv (l : List UInt8) : Value := .string (bs l)
/-- A row of texts of one's own. -/
def Txt (w : World) (lo : Nat) (v : Value) (l : List (List UInt8)) : Prop := w.ownsRow lo 9 1 v l.length (l.map sv)
theorem Txt.nil (w : World) (lo : Nat) : Txt w lo (.slice none 0 0) [] := World.ownsRow_nil _ _ _ _
theorem Txt.still {w w' : World} {lo : Nat} {v : Value} {l : List (List UInt8)} {F : Nat → Prop} (h : Txt w lo v l) (f : Fr F w w') (hF : ∀ k, v.ownBlock = some k → ¬ F k) : Txt w' lo v l :=
  owns_same h fun k hk => f.block k (h.lt k hk).2 (hF k hk)
theorem Txt.form {w : World} {lo : Nat} {v : Value} {l : List (List UInt8)} (h : Txt w lo v l) : (v = .slice none 0 0 ∧ l = []) ∨
    ∃ g cap, v = .slice (some ⟨g, 0, none⟩) l.length cap ∧ lo ≤ g ∧ g < w.heap.size ∧ l.length ≤ cap ∧ ∀ i x, l[i]? = some x → w.cell? ⟨g, i, none⟩ = some (sv x) := by
  rcases h.2 with ⟨hv, hn⟩ | ⟨g, cap, cur, hv, hb, hg, hc, _, hs, hcur⟩
  · exact .inl ⟨hv, List.length_eq_zero_iff.1 hn⟩
  · refine .inr ⟨g, cap, hv, hb, (Array.getElem?_eq_some_iff.1 hg).1, hc, fun i x hx => ?_⟩
    have h1 : w.ownsRow lo 9 1 (.slice (some ⟨g, 0, none⟩) l.length cap) l.length (l.map sv) := hv ▸ h
    have hi : i < l.length := (List.getElem?_eq_some_iff.1 hx).1
    rw [h1.cellAt i (by omega)]
    simp [hx]
theorem Txt.more (w : World) (lo : Nat) (v : Value) (l : List (List UInt8)) (h : Txt w lo v l) (x : List UInt8) (hn : l.length ≤ 1000000) (hlo : lo ≤ w.heap.size) :
    ∃ a c w', (Builtin.append_ #[26, 26] 26 #[v, .slice (some ⟨w.heap.size, 0, none⟩) 1 1]).run Tryz.prog (w.alloc (.cells #[sv x] 9)) = .ok (.slice a (l.length + 1) c) w' ∧ Txt w' lo (.slice a (l.length + 1) c) (l ++ [x]) ∧ Fr (fun k => v.ownBlock = some k) w w' ∧
      (Value.ownBlock (.slice a (l.length + 1) c) = v.ownBlock ∨ Value.ownBlock (.slice a (l.length + 1) c) = some (w.heap.size + 1)) := by
  obtain ⟨a, c, w', h1, h2, h3, h4⟩ := row_more infoS rfl (by decide) (by decide) Tryz.underlying26 w lo v l.length (l.map sv) h [sv x] rfl (by simp [Value.oneCell']) hn hlo
  refine ⟨a, c, w', h1, ?_, h3, h4⟩
  unfold Txt
  simpa using h2

theorem clone_ok (l : List UInt8) (hl : Sm l) (w : World) : Calls Tryz.prog 24 #[.string (bs l)] w fun e w' => e = .returned (.string (bs l)) ∧ Still w w' := by
  have hC := Tryz.stringslite_Clone (bs l)
  have hs : (bs l).size ≤ 281474976710656 := by rw [bs_size]; omega
  go_enter Tryz.func24, Tryz.ntmps24
  go_wp2_with (first | (go_at_call 50; refine (hC _ hs).mono ?_; rintro e w2 ⟨rfl, hB⟩))
  go_ret
  exact ⟨rfl, Fr.ofBelow hB⟩

/-- Parse's answer, as a value: a row of one's own, or none and an error. -/
def PartsV (w : World) (lo : Nat) (o : Option (List (List UInt8))) (e : Ending) : Prop :=
  match o with
  | some l => ∃ v, e = .returned (.tuple #[v, iv 0]) ∧ Txt w lo v l
  | none => e = .returned (.tuple #[.slice none 0 0, iv 3])

set_option maxRecDepth 100000 in
set_option maxHeartbeats 4000000 in
theorem parse_ok {sc : List UInt8 → Bool} (hs : Scs sc) (l0 : List UInt8) (hl0 : l0.length ≤ 1000000) {W w : World} (hK : Kn W w) : Calls Tryz.prog 11 #[.string (bs l0)] w fun e w' => PartsV w' w.heap.size (ansL sc l0) e ∧ Still w w' := by
  have HK := hide hK
  clear hK
  go_enter Tryz.func11, Tryz.ntmps11
  go_wp2_with fail
  go_loopw [0, 4] (fun s v wr => ∃ (l : List UInt8) (a : List (List UInt8)) (p : Option Addr) (c : Nat), s = sv l ∧ v = .slice p a.length c ∧ Hid (Txt wr w.heap.size (.slice p a.length c) a ∧ Still w wr ∧ a.length + l.length ≤ l0.length ∧ ansL sc l0 = (ansL sc l).map fun m => a ++ m)) (fun s _ _ => match s with | .string b => b.size | _ => 0)
  case atStart => exact ⟨l0, [], none, 0, rfl, rfl, hide ⟨Txt.nil _ _, Fr.refl _ _, by simp, by simp⟩⟩
  case round =>
    obtain ⟨l, a, p, c, rfl, rfl, HI⟩ := hrel
    by_cases h0 : l = []
    · subst h0
      have hq : (bs ([] : List UInt8)).toList.isEmpty = true := by rw [bs_list]; rfl
      go_wp2
      go_ret2
      obtain ⟨i1, i2, i3, i4⟩ := unhide HI
      refine ⟨?_, i2⟩
      rw [i4, parts_nil]
      exact ⟨_, rfl, by simpa using i1⟩
    · have hq : (bs l).toList.isEmpty = false := by rw [bs_list]; simpa using h0
      have H0 := hide h0
      have hr : Rk W (wr.alloc (.cells #[sv l, .bool false] 57)) wr.heap.size ⟨l, false⟩ := ⟨(unhide HK).step ((unhide HI).2.1.alloc _) (fun _ x => x.elim), heap_alloc_new wr _, Nat.le_trans (unhide HK).size (unhide HI).2.1.size, by have := (unhide HI).2.2.1; simp only [Sm]; omega⟩
      have HA := hide (answer_ok hs hr)
      have hsz := bs_size l
      clear h0 hr
      go_wp2_with fail
      refine (unhide HA).mono ?_
      rintro e w2 ⟨rfl, k2, f2⟩
      have F2 := hide (show Still wr w2 from ((Fr.refl (fun _ => False) wr).alloc _).trans' f2 fun k e => .inr (by rw [e]; exact Nat.le_refl _))
      have K2 := hide k2
      obtain ⟨u, hu⟩ : ∃ u, RS.answer sc ⟨l, false⟩ = u := ⟨_, rfl⟩
      rw [hu] at K2 k2
      have HU := hide hu
      have c1 : w2.cell? ⟨wr.heap.size, 1, none⟩ = some (.bool u.b) := cell_of_obj k2.rd 1
      have c0 : w2.cell? ⟨wr.heap.size, 0, none⟩ = some (sv u.r) := cell_of_obj k2.rd 0
      obtain ⟨ub, hub⟩ : ∃ ub, u.b = ub := ⟨_, rfl⟩
      rw [hub] at c1
      have HB := hide hub
      clear k2 f2 HA hu hub
      cases ub
      · have hrs := bs_size u.r
        have hle : u.r.length < l.length := by
          have := answer_some (sc := sc) (s := l) (by rw [unhide HU]; exact unhide HB)
          rw [unhide HU] at this; exact this
        obtain ⟨n, hn⟩ : ∃ n, l.length - u.r.length = n := ⟨_, rfl⟩
        have hll : l.length ≤ 1000000 := by have := (unhide HI).2.2.1; omega
        have hwr : wrap64 ((l.length : Int) - u.r.length) = (n : Int) := by unfold wrap64; omega
        have hto := fun w => bs_to l n .i64 (by omega) w
        have HC := hide (fun w => clone_ok (l.take n) (by simp only [Sm, List.length_take]; omega) w)
        have HN := hide (And.intro hn hle)
        clear hn hle
        go_wp2_with fail
        refine (unhide HC _).mono ?_
        rintro e w3 ⟨rfl, s3⟩
        obtain ⟨i1, i2, i3, i4⟩ := unhide HI
        have F3 := hide ((unhide F2).trans s3)
        have t3 : Txt w3 w.heap.size (.slice p a.length c) a := i1.still (unhide F3) fun _ _ x => x
        obtain ⟨pa, pc, w4, hap, t4, f4, -⟩ := Txt.more w3 w.heap.size (.slice p a.length c) a t3 (l.take n) (by have := unhide HN; omega) (Nat.le_trans i2.size (unhide F3).size)
        have hne : ∀ k, Value.ownBlock (.slice p a.length c) = some k → w.heap.size ≤ k ∧ k < wr.heap.size := i1.lt
        have c4 : w4.cell? ⟨wr.heap.size, 0, none⟩ = some (sv u.r) := f4.cell' (s3.cell' (cell_of_obj (unhide K2).rd 0) (fun x => x)) fun e => by have := (hne _ e).2; simp at this
        have HS := hide (show Still w w4 from (i2.trans (unhide F3)).trans' f4 fun k e => .inr (hne k e).1)
        have HT := hide t4
        have HAP := hide hap
        clear i1 i2 i3 i4 t3 t4 f4 hap hne s3 c0 c1 hto hwr HC
        go_wp2_with (at_builtin; refine wpList_append_run rfl (.tmp 17) (.tmp 29) 26 rfl _ _ rfl rfl (.slice pa (a.length + 1) pc) w4 (unhide HAP) ?_)
        obtain ⟨i1, i2, i3, i4⟩ := unhide HI
        obtain ⟨hn, hle⟩ := unhide HN
        refine ⟨⟨u.r, a ++ [l.take n], pa, pc, rfl, by simp, hide ⟨by simpa using unhide HT, unhide HS, by simp; omega, ?_⟩⟩, by show (bs u.r).size < (bs l).size; rw [bs_size, bs_size]; exact hle⟩
        rw [i4, parts_more (unhide H0) (by rw [unhide HU]; exact unhide HB), unhide HU, hn]
        cases ansL sc u.r <;> simp
      · go_wp2
        go_ret2
        obtain ⟨i1, i2, i3, i4⟩ := unhide HI
        refine ⟨?_, i2.trans (unhide F2)⟩
        rw [i4, parts_bad (unhide H0) (by rw [unhide HU]; exact unhide HB)]
        rfl
end Go.Proofs.YticflknfkaoejaaGreatDoor
