/- Joined: Ze Zf Yw Yn. -/
import Derived.Test.YtkaplgmjdfmpmaaGreatDoorQ16
import Derived.Test.YtkaplgmjdfmpmaaGreatDoorQ18
import Derived.Test.YtkaplgmjdfmpmaaGreatDoorQ19
namespace Go.Proofs.YtkaplgmjdfmpmaaGreatDoor
open Go.RowKit

section
theorem part_lt : ∀ (n : Nat) (xs ys : List UInt8), xs < ys → n < ys.length → n ≤ xs.length → xs.take n = ys.take n → (n = xs.length ∨ n + 1 = ys.length ∨ xs[n]? ≠ ys[n]?) → xs < ys.take (n + 1)
  | _, _, [], _, h, _, _, _ => by simp at h
  | 0, [], b :: ys, _, _, _, _, _ => by simp
  | 0, a :: xs, b :: ys, hl, _, _, _, hd => by
    rcases hd with h | h | h
    · simp at h
    · have : ys = [] := by simpa using h
      subst this
      simpa using hl
    · rcases List.cons_lt_cons_iff.1 hl with h1 | ⟨h1, _⟩
      · exact List.cons_lt_cons_iff.2 (.inl h1)
      · exact absurd (by simp [h1]) h
  | n + 1, [], b :: ys, _, _, h, _, _ => by simp at h
  | n + 1, a :: xs, b :: ys, hl, h1, h2, ht, hd => by
    simp only [List.take_succ_cons, List.cons.injEq] at ht
    obtain ⟨rfl, ht⟩ := ht
    rcases List.cons_lt_cons_iff.1 hl with h3 | ⟨_, h3⟩
    · exact absurd h3 (UInt8.lt_irrefl a)
    · rw [List.take_succ_cons]
      refine List.cons_lt_cons_iff.2 (.inr ⟨rfl, part_lt n xs ys h3 (by simpa using h1) (by simpa using h2) ht ?_⟩)
      simpa using hd
theorem pre_le : ∀ (n : Nat) (ys : List UInt8), ¬ ys < ys.take n
  | 0, ys => by simp
  | n + 1, [] => by simp
  | n + 1, b :: ys => by
    rw [List.take_succ_cons]
    intro h
    rcases List.cons_lt_cons_iff.1 h with h | ⟨_, h⟩
    · exact UInt8.lt_irrefl b h
    · exact pre_le n ys h

structure Btw (a b x : ByteArray) : Prop where
  lo : ltK a x
  hi : ¬ ltK b x
  s1 : 1 ≤ x.size
  s2 : x.size ≤ b.size
theorem take_bytes (b : ByteArray) (n : Nat) : (b.extract 0 n).data.toList = b.data.toList.take n := by
  simp [ByteArray.data_extract, Array.toList_extract, List.extract]
theorem part_btw (a b : ByteArray) (n : Nat) (hl : ltK a b) (h1 : n < b.size) (h2 : n ≤ a.size) (he : ∀ i, i < n → a.data.toList[i]? = b.data.toList[i]?) (hd : n = a.size ∨ n + 1 = b.size ∨ a.data.toList[n]? ≠ b.data.toList[n]?) : Btw a b (b.extract 0 (n + 1)) := by
  have ea : a.data.toList.length = a.size := by simp
  have eb : b.data.toList.length = b.size := by simp
  have hx := take_bytes b (n + 1)
  have hs : (b.extract 0 (n + 1)).size = n + 1 := by
    have : (b.extract 0 (n + 1)).data.toList.length = n + 1 := by rw [hx, List.length_take, eb]; omega
    simpa using this
  refine ⟨?_, ?_, by omega, by omega⟩
  · show a.data.toList < (b.extract 0 (n + 1)).data.toList
    rw [hx]
    refine part_lt n _ _ hl (by omega) (by omega) ?_ (by rw [ea, eb]; exact hd)
    apply List.ext_getElem?
    intro i
    rw [List.getElem?_take, List.getElem?_take]
    split
    · next h => exact he i h
    · rfl
  · show ¬ b.data.toList < (b.extract 0 (n + 1)).data.toList
    rw [hx]
    exact pre_le _ _
theorem Btw.parts {l : List Pr} {i : Nat} {x : ByteArray} (ri : Rise l) (h1 : 1 ≤ i) (hi : i < l.length) (b : Btw (l.getD (i - 1) default).1 (l.getD i default).1 x) : Blw (l.take i) x ∧ Nbl (l.drop i) x := by
  have g : ∀ j (hj : j < l.length), l.getD j default = l[j] := fun j hj => by simp [List.getD, List.getElem?_eq_getElem hj]
  rw [g _ (by omega), g _ hi] at b
  have pw := List.pairwise_iff_getElem.1 ri
  refine ⟨fun p hp => ?_, fun p hp => ?_⟩
  · obtain ⟨j, hj, rfl⟩ := List.mem_iff_getElem.1 hp
    rw [List.getElem_take]
    rw [List.length_take] at hj
    by_cases e : j = i - 1
    · subst e; exact b.lo
    · exact ltK_trans (pw j (i - 1) (by omega) (by omega) (by omega)) b.lo
  · obtain ⟨j, hj, rfl⟩ := List.mem_iff_getElem.1 hp
    rw [List.getElem_drop]
    rw [List.length_drop] at hj
    by_cases e : j = 0
    · subst e; exact b.hi
    · exact fun h => b.hi (ltK_trans (pw i (i + j) (by omega) (by omega) (by omega)) h)
end

section
structure Fst (K : List ByteArray) (x : ByteArray) (k : Nat) : Prop where
  le : k ≤ K.length
  lo : ∀ t, t < k → ltK (K.getD t default) x
  hi : ∀ t, k ≤ t → t < K.length → ¬ ltK (K.getD t default) x
theorem fst_of (x : ByteArray) : ∀ (K : List ByteArray), K.Pairwise ltK → ∃ k, Fst K x k
  | [], _ => ⟨0, Nat.le_refl _, fun t ht => by omega, fun t _ ht => by simp at ht⟩
  | a :: K, h => by
    obtain ⟨h1, h2⟩ := List.pairwise_cons.1 h
    by_cases hx : ltK a x
    · obtain ⟨k, f⟩ := fst_of x K h2
      refine ⟨k + 1, by have := f.le; simp; omega, fun t ht => ?_, fun t h3 h4 => ?_⟩
      · cases t with
        | zero => exact hx
        | succ t => exact f.lo t (by omega)
      · cases t with
        | zero => omega
        | succ t => exact f.hi t (by omega) (by simpa using h4)
    · refine ⟨0, Nat.zero_le _, fun t ht => by omega, fun t _ h4 => ?_⟩
      cases t with
      | zero => exact hx
      | succ t =>
        have h4' : t < K.length := by simpa using h4
        have hm : (a :: K).getD (t + 1) default = K[t] := by simp [List.getD, List.getElem?_eq_getElem h4']
        rw [hm]
        exact fun hl => hx (ltK_trans (h1 _ (List.getElem_mem h4')) hl)
theorem way_of {B : List ByteArray} {x : ByteArray} {k : Nat} (h : B.Pairwise ltK) (f : Fst B x k) : Way B x (if k < B.length ∧ B.getD k default = x then k + 1 else k) := by
  have pw := List.pairwise_iff_getElem.1 h
  have g : ∀ j (hj : j < B.length), B.getD j default = B[j] := fun j hj => by simp [List.getD, List.getElem?_eq_getElem hj]
  have hle := f.le
  split
  · next hc =>
    refine ⟨by omega, fun t ht => ?_, fun t h1 h2 => ?_⟩
    · by_cases e : t = k
      · rw [e, hc.2]; exact ltK_irr x
      · exact ltK_asym (f.lo t (by omega))
    · rw [g t h2]
      have := pw k t hc.1 h2 (by omega)
      rw [← g k hc.1, hc.2] at this
      exact this
  · next hc =>
    refine ⟨hle, fun t ht => ltK_asym (f.lo t ht), fun t h1 h2 => ?_⟩
    have hk : k < B.length := by omega
    have hkx : ltK x (B.getD k default) := Decidable.byContradiction fun hn => hc ⟨hk, ltK_tri (f.hi k (Nat.le_refl _) hk) hn⟩
    by_cases e : t = k
    · rw [e]; exact hkx
    · refine ltK_trans hkx ?_
      rw [g t h2, g k hk]
      exact pw k t hk h2 (by omega)
theorem keys_getD (l : List Pr) (t : Nat) (ht : t < l.length) : (l.map (·.1)).getD t default = (l.getD t default).1 := by
  simp [List.getD, List.getElem?_eq_getElem ht]
theorem putL_putP {x : ByteArray} {v : Nat} : ∀ {l : List Pr} {k j : Nat}, Fst (l.map (·.1)) x k → (j = if k < l.length ∧ (l.getD k default).1 = x then k + 1 else k) → putL l k j x v = putP l x v
  | [], k, j, f, hj => by
    have : k = 0 := by have := f.le; simpa using this
    subst this
    simp at hj
    subst hj
    simp [putL, putP]
  | p :: l, 0, j, f, hj => by
    have h0 := f.hi 0 (Nat.le_refl _) (by simp)
    have h0' : ¬ ltK p.1 x := h0
    unfold putP
    rw [if_neg h0']
    by_cases e : p.1 = x
    · rw [if_pos ⟨by simp, e⟩] at hj
      subst hj
      rw [if_pos e]
      simp [putL]
    · rw [if_neg (fun hh => e hh.2)] at hj
      subst hj
      rw [if_neg e]
      simp [putL]
  | p :: l, k + 1, j, f, hj => by
    have h0 : ltK p.1 x := f.lo 0 (by omega)
    have f' : Fst (l.map (·.1)) x k := ⟨by have := f.le; simpa using this, fun t ht => f.lo (t + 1) (by omega), fun t h1 h2 => f.hi (t + 1) (by omega) (by simpa using h2)⟩
    unfold putP
    rw [if_pos h0, ← putL_putP (k := k) (j := j - 1) f' (by
      rw [hj]
      simp
      split <;> simp)]
    have hj1 : 1 ≤ j := by rw [hj]; split <;> omega
    obtain ⟨j', rfl⟩ : ∃ j', j = j' + 1 := ⟨j - 1, by omega⟩
    simp [putL]
end

section
set_option maxRecDepth 100000 in
set_option maxHeartbeats 2000000 in
theorem y_parting (a b : ByteArray) (w : World) (hl : ltK a b) (ha : a.size ≤ 1000) (hb : b.size ≤ 1000) :
    Calls Tryz.prog 237 #[.string a, .string b] w fun e w' => ∃ x, e = .returned (.string x) ∧ Btw a b x ∧ Still w w' := by
  have hb1 : 1 ≤ b.size := by
    refine Nat.pos_of_ne_zero fun h0 => ?_
    have : b.data.toList = [] := List.length_eq_zero_iff.1 (by simpa using h0)
    unfold ltK at hl
    rw [this] at hl
    simp at hl
  go_enter Tryz.func237, Tryz.ntmps237
  go_wp2_with fail
  go_loopw [5] (fun iv wr => ∃ n : Nat, iv = .int .i64 n ∧ n ≤ a.size ∧ n < b.size ∧ (∀ i, i < n → a.data.toList[i]? = b.data.toList[i]?) ∧ Still w wr) (fun iv _ => b.size - (intOf iv).toNat)
  case atStart => exact ⟨0, rfl, Nat.zero_le _, by omega, fun i hi => by omega, Fr.refl _ _⟩
  case round =>
    obtain ⟨n, rfl, h1, h2, h3, fr⟩ := hrel
    by_cases hc : n < a.size ∧ n + 1 < b.size
    · have q1 : (n : Int) < a.size := by omega
      have q2 : (n : Int) < (b.size : Int) - 1 := by omega
      have q3 : (n : Int) < b.size := by omega
      have wb : IntKind.i64.wrap ((b.size : Int) - 1) = (b.size : Int) - 1 := (wrap_small _ (by omega) (by omega)).1
      have q4 : (n : Int) < min (a.size : Int) ((b.size : Int) - 1) := by omega
      have ga : a.data.toList[n]? = some (a[n]'hc.1) := by
        rw [List.getElem?_eq_getElem (by simpa using hc.1)]
        rfl
      have gb : b.data.toList[n]? = some (b[n]'h2) := by
        rw [List.getElem?_eq_getElem (by simpa using h2)]
        rfl
      by_cases he : (a[n]'hc.1) = (b[n]'h2)
      · have hbe : (((a[n]'hc.1).toNat : Int) == ((b[n]'h2).toNat : Int)) = true := by rw [he]; simp
        have HH := hide (And.intro ga (And.intro gb he))
        clear ga gb he
        go_wp2_with fail
        go_quiet (fail)
        go_wp2_with fail
        obtain ⟨ga, gb, he⟩ := unhide HH
        refine ⟨⟨n + 1, by simp, by omega, by omega, fun i hi => ?_, fr.drewN _⟩, by simp [intOf]; omega⟩
        by_cases e : i = n
        · rw [e, ga, gb, he]
        · exact h3 i (by omega)
      · have hbe : (((a[n]'hc.1).toNat : Int) == ((b[n]'h2).toNat : Int)) = false := by
          simp only [beq_eq_false_iff_ne, ne_eq]
          exact fun e => he (UInt8.toNat_inj.1 (by omega))
        have HH := hide (And.intro ga (And.intro gb he))
        clear ga gb he
        go_wp2_with fail
        go_quiet (fail)
        go_wp2_with fail
        go_ret
        obtain ⟨ga, gb, he⟩ := unhide HH
        refine ⟨_, rfl, part_btw a b n hl h2 (by omega) h3 (.inr (.inr (by rw [ga, gb]; simpa using he))), fr.drewN _⟩
    · have q4 : ((n : Int) < min (a.size : Int) ((b.size : Int) - 1)) = False := eq_false (by omega)
      have q5 : (n : Int) + 1 ≤ b.size := by omega
      have wb : IntKind.i64.wrap ((b.size : Int) - 1) = (b.size : Int) - 1 := (wrap_small _ (by omega) (by omega)).1
      go_wp2_with fail
      go_quiet (fail)
      go_wp2_with fail
      go_ret
      refine ⟨_, rfl, part_btw a b n hl h2 h1 h3 (by omega), fr.drewN _⟩
end

section
theorem slice_bothZ {et st : TypeId} {sz : Nat} (E : ElT et st sz) (he : Tryz.prog.elem st = et) (a : Option Addr) (len cap l h : Nat) (w : World) (hl : l ≤ h) (hh : h ≤ cap) : (Instr.slice st (.slice a len cap) (some (.int .i64 (l : Nat))) (some (.int .i64 (h : Nat))) none).run Tryz.prog w = .ok (.slice (cutZ sz a cap l) (h - l) (cap - l)) w := by
  obtain ⟨hu, h0, i, z, hi, hz, hsize, hby, hzs⟩ := E
  have hs : (sizeOf et).run Tryz.prog w = .ok sz w := by simp [sizeOf, typeInfo, hi, hsize]
  rw [run_slice_lh (P := Tryz.prog) w st a len cap (by rw [he]; exact hu) .i64 .i64 (l : Nat) (h : Nat) (by omega) (by omega) (by omega), he, hs]
  simp [Result.andThen, sliced, cutZ]

theorem rowZ {w : World} {lo sz n : Nat} {t : TypeId} {v : Value} {xs : List Value} (h : w.ownsRow lo t sz v n xs) : ∃ a c, v = .slice a n c := by
  rcases h.2 with ⟨hv, hn⟩ | ⟨g, cap, cur, hv, _⟩
  · exact ⟨none, 0, by rw [hv, hn]⟩
  · exact ⟨_, cap, hv⟩
theorem stp_append {P : Program} {ops : Array Oper} {o : Oper} {a : Act} {w : World} {K : Act → World → Prop} {Q : Exit → Act → World → Prop} {E : Prop} (hgd : o.guard = none) (s x : Operand) (t : TypeId)
    (ho : o.op = .call { callee := .builtin .append, args := #[s, x], argTypes := #[t, t] }) (vs vx : Value) (hs : a.eval s = vs) (hx : a.eval x = vx) (v' : Value) (w' : World) (hr : (Builtin.append_ #[t, t] o.type #[vs, vx]).run P w = .ok v' w')
    (h : K (a.put o.dst v') w') : if Region.wanted o (yielded ops a.tmps) = true then Oper.wp P o a w K Q else E := by
  rw [if_pos (by simp [Region.wanted, hgd])]
  unfold Oper.wp execOp
  simp only [ho, resolve, invoke, builtin, Sem.run_bind, Sem.run_pure, Result.andThen_ok, List.map_toArray, List.map_cons, List.map_nil, hs, hx, hr]
  exact h
theorem sl_kid (w W : World) (p : Nat × Nat) (hW : w.alloc (.cells #[.int .u64 (p.1 : Nat), .int .i64 (p.2 : Nat)] 123) = W) : Sl W 2 (some ⟨w.heap.size, 0, none⟩) 1 1 (kcl [p]) := by
  have o : W.heap[w.heap.size]? = some (.cells #[.int .u64 (p.1 : Nat), .int .i64 (p.2 : Nat)] 123 (0, 0)) := hW ▸ heap_alloc_new w _
  exact ⟨rfl, Nat.le_refl _, (fun e => by cases e), kcl_one, (fun j u hu => ⟨w.heap.size, 0, rfl, by
    rw [Nat.zero_add, cell_of_obj o j, ← hu]
    simp [kcl]⟩), (fun x e => by cases e; rfl)⟩

set_option maxRecDepth 100000 in
set_option maxHeartbeats 2000000 in
theorem y_branchOf (h : Nat) (ka ia : Option Addr) (kc ic : Nat) (B : List ByteArray) (ks : List (Nat × Nat)) (w : World) (_hK : Kys w ka kc B) (hI : Sl w 1 ia ks.length ic (vals .u64 (ks.map fun k => itN k.1 k.2))) (h2 : 2 ≤ ks.length) (hl : ks.length ≤ 500) (hB : ks.length = B.length + 1) (hk : ∀ k ∈ ks, k.1 < 4294967296 ∧ k.2 < 2147483648) :
    Calls Tryz.prog 146 #[.int .i64 h, .slice ka B.length kc, .slice ia ks.length ic] w fun e w' => ∃ v c, e = .returned (brV h ka B.length kc v ks.length c) ∧ Kds w' v c ks ∧ (∀ x, v = some x → w.heap.size ≤ x.block ∧ x.block < w'.heap.size) ∧ Still w w' := by
  have h2' : (2 : Int) ≤ ks.length := by omega
  have e1 : IntKind.i64.wrap ((ks.length : Int) - 1) = B.length := by rw [IntKind.wrap_i64]; omega
  generalize hq : ks.length = q at *
  generalize hnb : B.length = nb at *
  obtain ⟨W, hW⟩ : ∃ W, (w.alloc (.cells #[.int .i64 0, .slice none 0 0, .slice none 0 0] 96)).alloc (.cells #[.int .i64 h, .slice ka nb kc, .slice none 0 0] 96) = W := ⟨_, rfl⟩
  have fW : Still w W := hW ▸ ((Fr.refl _ w).alloc _).alloc _
  have oW : W.heap[w.heap.size + 1]? = some (.cells #[.int .i64 h, .slice ka nb kc, .slice none 0 0] 96 (0, 0)) := by
    have := heap_alloc_new (w.alloc (.cells #[.int .i64 0, .slice none 0 0, .slice none 0 0] 96)) (.cells #[.int .i64 h, .slice ka nb kc, .slice none 0 0] 96)
    rw [hW] at this
    simpa using this
  have oR : W.heap[w.heap.size]? = some (.cells #[.int .i64 0, .slice none 0 0, .slice none 0 0] 96 (0, 0)) := by
    have := heap_alloc_new w (.cells #[.int .i64 0, .slice none 0 0, .slice none 0 0] 96)
    rw [← hW]
    exact ((Fr.refl (fun _ => False) _).alloc _).obj this (fun x => x)
  have HW := hide hW
  have HB := hide hB
  clear hW hB
  go_enter Tryz.func146, Tryz.ntmps146
  go_wp2_with (first | (go_at_call 69; refine (y_must _).mono ?_; rintro e w' ⟨rfl, hh⟩; replace hh := hh.symm; subst hh) | fail)
  rw [unhide HW]
  clear HW
  obtain ⟨g, hg⟩ : ∃ g, w.heap.size = g := ⟨_, rfl⟩
  rw [hg] at oW oR ⊢
  go_loopw [27] (fun i wr => ∃ (r : Nat) (v : Value), r ≤ q ∧ i = .int .i64 r ∧ wr.ownsRow (g + 2) 123 2 v r (kcl (ks.take r)) ∧ wr.heap[g + 1]? = some (.cells #[.int .i64 h, .slice ka nb kc, v] 96 (0, 0)) ∧ wr.heap[g]? = some (.cells #[.int .i64 0, .slice none 0 0, .slice none 0 0] 96 (0, 0)) ∧ Still w wr) (fun i _ => q - (RowKit.intOf i).toNat)
  case atStart => exact ⟨0, _, by omega, rfl, World.ownsRow_nil _ _ _ _, oW, oR, fW⟩
  case round =>
    obtain ⟨r, v, hrn, rfl, hrow, o1, o0, fr⟩ := hrel
    by_cases hlt : r < q
    · obtain ⟨p, hp⟩ : ∃ p, ks[r]? = some p := ⟨_, List.getElem?_eq_getElem (by omega)⟩
      obtain ⟨k1, k2⟩ := hk p (List.mem_of_getElem? hp)
      have KO := y_kidOf p.1 p.2 k1 k2
      obtain ⟨b2, o2, rfl, c2⟩ := hI.cells r (.int .u64 (itN p.1 p.2 : Nat)) (by simp [vals, hp])
      replace c2 := fr.cell' c2 (fun x => x)
      have hlt' : (r : Int) < q := by omega
      have d2 : wr.cell? ⟨g + 1, 2, none⟩ = some v := cell_of_obj o1 2
      have HQ := @hide _ (fun (w1 : World) (f1 : Still wr.drew w1) => show ∃ (W1 : World) (va : Option Addr) (vc : Nat) (w2 : World), w1.alloc (.cells #[.int .u64 (p.1 : Nat), .int .i64 (p.2 : Nat)] 123) = W1 ∧ (Builtin.append_ #[94, 94] 94 #[v, .slice (some ⟨w1.heap.size, 0, none⟩) 1 1]).run Tryz.prog W1 = .ok (.slice va (r + 1) vc) w2 ∧ w2.cell? ⟨g + 1, 2, none⟩ = some v ∧ w2.frozen? ⟨g + 1, 2, none⟩ = false ∧ (w2.setCell ⟨g + 1, 2, none⟩ (.slice va (r + 1) vc)).ownsRow (g + 2) 123 2 (.slice va (r + 1) vc) (r + 1) (kcl (ks.take (r + 1))) ∧ (w2.setCell ⟨g + 1, 2, none⟩ (.slice va (r + 1) vc)).heap[g + 1]? = some (.cells #[.int .i64 h, .slice ka nb kc, (.slice va (r + 1) vc)] 96 (0, 0)) ∧ (w2.setCell ⟨g + 1, 2, none⟩ (.slice va (r + 1) vc)).heap[g]? = some (.cells #[.int .i64 0, .slice none 0 0, .slice none 0 0] 96 (0, 0)) ∧ Still w (w2.setCell ⟨g + 1, 2, none⟩ (.slice va (r + 1) vc)) from by
        obtain ⟨W1, hW1⟩ : ∃ W1, w1.alloc (.cells #[.int .u64 (p.1 : Nat), .int .i64 (p.2 : Nat)] 123) = W1 := ⟨_, rfl⟩
        have fa : Still w1 W1 := hW1 ▸ (Fr.refl _ w1).alloc _
        have fd : Still wr wr.drew := (Fr.refl _ wr).drewN 1
        have f2 : Still wr W1 := (fd.trans' f1 (fun _ x => x.elim)).trans' fa (fun _ x => x.elim)
        have hro := own_still hrow f2
        have hsz : g + 2 ≤ W1.heap.size := by
          have : g + 1 < wr.heap.size := World.block_lt_of_cell? _ _ d2
          have := f2.size
          omega
        obtain ⟨v2, w2, hap, hw2, hgr, hloc⟩ := run_more elt_K 94 hro (sl_kid w1 W1 p hW1) (by omega) hsz
        obtain ⟨va, vc, rfl⟩ := rowZ hw2
        have f3 : Fr (fun k => g + 2 ≤ k) wr w2 := (f2.mono (fun _ x => x.elim)).grown hgr (fun k hk => .inl (hrow.lt k hk).1)
        have o1' := f3.obj o1 (by omega)
        have o0' := f3.obj o0 (by omega)
        have ht : kcl (ks.take (r + 1)) = kcl (ks.take r) ++ kcl [p] := by
          rw [List.take_add_one, hp, kcl_app]; rfl
        refine ⟨W1, va, vc, w2, hW1, hap, cell_of_obj o1' 2, by simp [World.frozen?, o1'], ?_, heap_setCell_same w2 (g + 1) 2 _ _ _ o1', ?_, ?_⟩
        · rw [ht]
          exact ownsRow_setCell_other hw2 (fun e => absurd (hw2.lt _ e).1 (by show ¬ g + 2 ≤ g + 1; omega)) _
        · rw [Below.heap_setCell _ _ _ _ (by simp)]
          exact o0'
        · refine (fr.trans' (G := fun k => g + 2 ≤ k) f3 (fun k hk => .inr (by omega))).setCell (.inr (by show w.heap.size ≤ g + 1; omega)) _)
      have z1 : ∀ o, wr.frozen? ⟨g + 1, o, none⟩ = false := fun o => by simp [World.frozen?, o1]
      clear hrow o1 o0 fr hI _hK hk k1 k2 hp oW oR fW
      go_wp2_with fail
      clear c2
      refine wp_region_held_drew (S := fun _ => True) (by kernel_rfl) trivial (fun hHeld => ?_)
      refine take_l 0 (v := ?_) rfl (by kernel_rfl) (by kernel_rfl) (by kernel_rfl) (fun _ _ _ h => h) (Or.inl ⟨by rfl, ?_⟩) hHeld ?_
      rotate_left
      · (intro w hSw; (try dsimp only at hSw); go_simp; (try with_reducible rfl))
      simp only [Act.put, List.setIfInBounds_toArray, List.set_cons_zero, List.set_cons_succ]
      refine take_l 2 (v := ?_) rfl (by kernel_rfl) (by kernel_rfl) (by kernel_rfl) (fun _ _ _ h => h) (Or.inl ⟨by rfl, ?_⟩) hHeld ?_
      rotate_left
      · (intro w hSw; (try dsimp only at hSw); go_simp; (try with_reducible rfl))
      simp only [Act.put, List.setIfInBounds_toArray, List.set_cons_zero, List.set_cons_succ]
      have d3 : wr.drew.cell? ⟨g + 1, 2, none⟩ = some v := d2
      replace d2 := d3
      refine wpAnyH_ready (rs := [1, 3]) (by kernel_rfl) (by simp) ?_
      refine AllReadyH.cons rfl (fun K hK => ?_) (AllReadyH.cons rfl (fun K hK => ?_) AllReadyH.nil)
      · go_simp
        refine hK.out _ _ trivial (fun _ => ?_)
        clear hK K
        refine wpAnyH_ready (rs := [3]) (by kernel_rfl) (by simp) ?_
        refine AllReadyH.cons rfl (fun K hK => ?_) AllReadyH.nil
        go_simp
        go_wp2_with fail
        refine (KO _).mono ?_
        rintro e w1 ⟨rfl, f1⟩
        have e1 := (f1.cell' d2 (fun x => x) : w1.cell? ⟨g + 1, 2, none⟩ = some v)
        refine hK.out _ _ trivial (fun _ => ?_)
        clear hK K
        refine wpAnyH_ready (rs := [4]) (by kernel_rfl) (by simp) ?_
        refine AllReadyH.cons rfl (fun K hK => ?_) AllReadyH.nil
        go_simp
        refine hK.out _ _ trivial (fun _ => ?_)
        clear hK K
        obtain ⟨W1, va, vc, w2, hW1, hap, FX⟩ := unhide HQ w1 f1
        rw [hW1]
        refine wpAnyH_ready (rs := [5]) (by kernel_rfl) (by simp) ?_
        refine AllReadyH.cons rfl (fun K hK => ?_) AllReadyH.nil
        refine stp_append rfl (.tmp 32) (.tmp 35) 94 rfl _ _ rfl rfl (.slice va (r + 1) vc) w2 hap ?_
        refine hK.out _ _ trivial (fun _ => ?_)
        clear hK K
        simp only [Act.put, List.setIfInBounds_toArray]
        refine take_l 6 (v := ?_) rfl (by kernel_rfl) (by kernel_rfl) (by kernel_rfl) (fun _ _ _ h => h) (Or.inl ⟨by rfl, ?_⟩) hHeld ?_
        rotate_left
        · (intro w hSw; (try dsimp only at hSw); go_simp; (try with_reducible rfl))
        simp only [Act.put]
        have e2 := FX.1
        have z2 := FX.2.1
        refine wpAnyH_ready (rs := [7]) (by kernel_rfl) (by simp) ?_
        refine AllReadyH.cons rfl (fun K hK => ?_) AllReadyH.nil
        go_simp
        refine hK.out _ _ trivial (fun _ => ?_)
        clear hK K
        refine wpAnyH_done (by kernel_rfl) ?_ _
        go_wp2_with fail
        exact ⟨⟨r + 1, .slice va (r + 1) vc, by omega, by simp, FX.2.2⟩, by simp [RowKit.intOf]; omega⟩
      · go_simp
        go_wp2_with fail
        refine (KO _).mono ?_
        rintro e w1 ⟨rfl, f1⟩
        have e1 := (f1.cell' d2 (fun x => x) : w1.cell? ⟨g + 1, 2, none⟩ = some v)
        refine hK.out _ _ trivial (fun _ => ?_)
        clear hK K
        refine wpAnyH_ready (rs := [1, 4]) (by kernel_rfl) (by simp) ?_
        refine AllReadyH.cons rfl (fun K hK => ?_) (AllReadyH.cons rfl (fun K hK => ?_) AllReadyH.nil)
        · go_simp
          refine hK.out _ _ trivial (fun _ => ?_)
          clear hK K
          refine wpAnyH_ready (rs := [4]) (by kernel_rfl) (by simp) ?_
          refine AllReadyH.cons rfl (fun K hK => ?_) AllReadyH.nil
          go_simp
          refine hK.out _ _ trivial (fun _ => ?_)
          clear hK K
          obtain ⟨W1, va, vc, w2, hW1, hap, FX⟩ := unhide HQ w1 f1
          rw [hW1]
          refine wpAnyH_ready (rs := [5]) (by kernel_rfl) (by simp) ?_
          refine AllReadyH.cons rfl (fun K hK => ?_) AllReadyH.nil
          refine stp_append rfl (.tmp 32) (.tmp 35) 94 rfl _ _ rfl rfl (.slice va (r + 1) vc) w2 hap ?_
          refine hK.out _ _ trivial (fun _ => ?_)
          clear hK K
          simp only [Act.put, List.setIfInBounds_toArray]
          refine take_l 6 (v := ?_) rfl (by kernel_rfl) (by kernel_rfl) (by kernel_rfl) (fun _ _ _ h => h) (Or.inl ⟨by rfl, ?_⟩) hHeld ?_
          rotate_left
          · (intro w hSw; (try dsimp only at hSw); go_simp; (try with_reducible rfl))
          simp only [Act.put]
          have e2 := FX.1
          have z2 := FX.2.1
          refine wpAnyH_ready (rs := [7]) (by kernel_rfl) (by simp) ?_
          refine AllReadyH.cons rfl (fun K hK => ?_) AllReadyH.nil
          go_simp
          refine hK.out _ _ trivial (fun _ => ?_)
          clear hK K
          refine wpAnyH_done (by kernel_rfl) ?_ _
          go_wp2_with fail
          exact ⟨⟨r + 1, .slice va (r + 1) vc, by omega, by simp, FX.2.2⟩, by simp [RowKit.intOf]; omega⟩
        · go_simp
          have e3 : (w1.alloc (.cells #[.int .u64 (p.1 : Nat), .int .i64 (p.2 : Nat)] 123)).cell? ⟨g + 1, 2, none⟩ = some v := ((Fr.refl (fun _ => False) w1).alloc _).cell' e1 (fun x => x)
          refine hK.out _ _ trivial (fun _ => ?_)
          clear hK K
          refine wpAnyH_ready (rs := [1]) (by kernel_rfl) (by simp) ?_
          refine AllReadyH.cons rfl (fun K hK => ?_) AllReadyH.nil
          go_simp
          refine hK.out _ _ trivial (fun _ => ?_)
          clear hK K
          obtain ⟨W1, va, vc, w2, hW1, hap, FX⟩ := unhide HQ w1 f1
          rw [hW1]
          refine wpAnyH_ready (rs := [5]) (by kernel_rfl) (by simp) ?_
          refine AllReadyH.cons rfl (fun K hK => ?_) AllReadyH.nil
          refine stp_append rfl (.tmp 32) (.tmp 35) 94 rfl _ _ rfl rfl (.slice va (r + 1) vc) w2 hap ?_
          refine hK.out _ _ trivial (fun _ => ?_)
          clear hK K
          simp only [Act.put, List.setIfInBounds_toArray]
          refine take_l 6 (v := ?_) rfl (by kernel_rfl) (by kernel_rfl) (by kernel_rfl) (fun _ _ _ h => h) (Or.inl ⟨by rfl, ?_⟩) hHeld ?_
          rotate_left
          · (intro w hSw; (try dsimp only at hSw); go_simp; (try with_reducible rfl))
          simp only [Act.put]
          have e2 := FX.1
          have z2 := FX.2.1
          refine wpAnyH_ready (rs := [7]) (by kernel_rfl) (by simp) ?_
          refine AllReadyH.cons rfl (fun K hK => ?_) AllReadyH.nil
          go_simp
          refine hK.out _ _ trivial (fun _ => ?_)
          clear hK K
          refine wpAnyH_done (by kernel_rfl) ?_ _
          go_wp2_with fail
          exact ⟨⟨r + 1, .slice va (r + 1) vc, by omega, by simp, FX.2.2⟩, by simp [RowKit.intOf]; omega⟩
    · have e : r = q := by omega
      subst e
      have hlt' : ¬ (r : Int) < r := by omega
      have d0 : wr.cell? ⟨g + 1, 0, none⟩ = some (.int .i64 h) := cell_of_obj o1 0
      have d1 : wr.cell? ⟨g + 1, 1, none⟩ = some (.slice ka nb kc) := cell_of_obj o1 1
      have d2 : wr.cell? ⟨g + 1, 2, none⟩ = some v := cell_of_obj o1 2
      have r0 : wr.cell? ⟨g, 0, none⟩ = some (.int .i64 0) := cell_of_obj o0 0
      have r1 : wr.cell? ⟨g, 1, none⟩ = some (.slice none 0 0) := cell_of_obj o0 1
      have r2 : wr.cell? ⟨g, 2, none⟩ = some (.slice none 0 0) := cell_of_obj o0 2
      have rz : ∀ o, wr.frozen? ⟨g, o, none⟩ = false := fun o => by simp [World.frozen?, o0]
      obtain ⟨va, vc, rfl⟩ := rowZ hrow
      go_wp2_with fail
      have oF := heap_setCell_same _ g 2 _ _ (.slice va r vc) (heap_setCell_same _ g 1 _ _ (.slice ka nb kc) (heap_setCell_same wr g 0 _ _ (.int .i64 (h : Nat)) o0))
      have f5 : Fr (fun k => k = g) wr (((wr.setCell ⟨g, 0, none⟩ (.int .i64 (h : Nat))).setCell ⟨g, 1, none⟩ (.slice ka nb kc)).setCell ⟨g, 2, none⟩ (.slice va r vc)) := (((Fr.refl (fun k => k = g) wr).setCell (.inl rfl) _).setCell (.inl rfl) _).setCell (.inl rfl) _
      refine bodyPost_ret (results_cell_row Tryz.results146 _ _ g 96 #[.int .i64 h, .slice ka nb kc, .slice va r vc] (0, 0) _ (by rfl) oF Tryz.underlying96 rfl (by kernel_rfl)) rfl ?_
      have hkr : ks.take r = ks := by rw [← hq, List.take_length]
      rw [hkr] at hrow
      have S := sl_of_row hrow kcl_one
      have ob := own_block hrow
      refine ⟨va, vc, rfl, ?_, fun x hx => ?_, fr.trans' f5 (fun k hk => .inr (by rw [hk, hg]; exact Nat.le_refl _))⟩
      · have := S.kept f5 (fun x hx e => by have := (ob x hx).1; omega)
        rw [← hq] at this ⊢
        exact this
      · have := ob x hx
        exact ⟨by omega, Nat.lt_of_lt_of_le this.2 f5.size⟩
end
end Go.Proofs.YtkaplgmjdfmpmaaGreatDoor
