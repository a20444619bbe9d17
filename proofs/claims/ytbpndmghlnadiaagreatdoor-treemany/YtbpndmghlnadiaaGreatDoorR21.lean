/- Joined: Ze Zf Yw Yn Yp. -/
import Derived.Test.YtbpndmghlnadiaaGreatDoorR15
import Derived.Test.YtbpndmghlnadiaaGreatDoorR17
import Derived.Test.YtbpndmghlnadiaaGreatDoorR19
import Derived.Test.YtbpndmghlnadiaaGreatDoorR20
namespace Go.Proofs.YtbpndmghlnadiaaGreatDoor
open Go.RowKit
set_option maxHeartbeats 4000000
theorem part_lt : ∀ (n : Nat) (xs ys : List UInt8), xs < ys -> n < ys.length -> n <= xs.length -> xs.take n = ys.take n -> (n = xs.length \/ n + 1 = ys.length \/ xs[n]? ≠ ys[n]?) -> xs < ys.take (n + 1)
 | _, _, [], _, h, _, _, _ => by simp at h
 | 0, [], b :: ys, _, _, _, _, _ => by simp
 | 0, a :: xs, b :: ys, hl, _, _, _, hd => by
  rcases hd with h | h | h
  ·simp at h
  ·have : ys = [] := by simpa using h
   subst this
   simpa using hl
  ·rcases List.cons_lt_cons_iff.1 hl with h1 | ⟨h1, _⟩
   ·exact List.cons_lt_cons_iff.2 (.inl h1)
   ·exact absurd (by simp [h1]) h
 | n + 1, [], b :: ys, _, _, h, _, _ => by simp at h
 | n + 1, a :: xs, b :: ys, hl, h1, h2, ht, hd => by
  simp only [List.take_succ_cons, List.cons.injEq] at ht
  obtain ⟨rfl, ht⟩ := ht
  rcases List.cons_lt_cons_iff.1 hl with h3 | ⟨_, h3⟩
  ·exact absurd h3 (UInt8.lt_irrefl a)
  ·rw [List.take_succ_cons]
   refine List.cons_lt_cons_iff.2 (.inr ⟨rfl, part_lt n xs ys h3 (by simpa using h1) (by simpa using h2) ht ?_⟩)
   simpa using hd
theorem pre_le : ∀ (n : Nat) (ys : List UInt8), ¬ ys < ys.take n
 | 0, ys => by simp
 | n + 1, [] => by simp
 | n + 1, b :: ys => by
  rw [List.take_succ_cons]
  intro h
  rcases List.cons_lt_cons_iff.1 h with h | ⟨_, h⟩
  ·exact UInt8.lt_irrefl b h
  ·exact pre_le n ys h
structure Btw (a b x : ByteArray) : Prop where
 lo : ltK a x
 hi : ¬ ltK b x
 s1 : 1 <= x.size
 s2 : x.size <= b.size
theorem take_bytes (b : ByteArray) (n : Nat) : (b.extract 0 n).data.toList = b.data.toList.take n := by
 simp [ByteArray.data_extract, Array.toList_extract, List.extract]
theorem part_btw (a b : ByteArray) (n : Nat) (hl : ltK a b) (h1 : n < b.size) (h2 : n <= a.size) (he : ∀ i, i < n -> a.data.toList[i]? = b.data.toList[i]?) (hd : n = a.size \/ n + 1 = b.size \/ a.data.toList[n]? ≠ b.data.toList[n]?) : Btw a b (b.extract 0 (n + 1)) := by
 have ea : a.data.toList.length = a.size := by simp
 have eb : b.data.toList.length = b.size := by simp
 have hx := take_bytes b (n + 1)
 have hs : (b.extract 0 (n + 1)).size = n + 1 := by
  have : (b.extract 0 (n + 1)).data.toList.length = n + 1 := by rw [hx, List.length_take, eb]; omega
  simpa using this
 refine ⟨?_, ?_, by omega, by omega⟩
 ·show a.data.toList < (b.extract 0 (n + 1)).data.toList
  rw [hx]
  refine part_lt n _ _ hl (by omega) (by omega) ?_ (by rw [ea, eb]; exact hd)
  apply List.ext_getElem?
  intro i
  rw [List.getElem?_take, List.getElem?_take]
  split
  ·next h => exact he i h
  ·rfl
 ·show ¬ b.data.toList < (b.extract 0 (n + 1)).data.toList
  rw [hx]
  exact pre_le _ _
theorem Btw.parts {l : List Pr} {i : Nat} {x : ByteArray} (ri : Rise l) (h1 : 1 <= i) (hi : i < l.length) (b : Btw (l.getD (i - 1) default).1 (l.getD i default).1 x) : Blw (l.take i) x /\ Nbl (l.drop i) x := by
 have g : ∀ j (hj : j < l.length), l.getD j default = l[j] := fun j hj => by simp [List.getD, List.getElem?_eq_getElem hj]
 rw [g _ (by omega), g _ hi] at b
 have pw := List.pairwise_iff_getElem.1 ri
 refine ⟨fun p hp => ?_, fun p hp => ?_⟩
 ·obtain ⟨j, hj, rfl⟩ := List.mem_iff_getElem.1 hp
  rw [List.getElem_take]
  rw [List.length_take] at hj
  by_cases e : j = i - 1
  ·subst e; exact b.lo
  ·exact ltK_trans (pw j (i - 1) (by omega) (by omega) (by omega)) b.lo
 ·obtain ⟨j, hj, rfl⟩ := List.mem_iff_getElem.1 hp
  rw [List.getElem_drop]
  rw [List.length_drop] at hj
  by_cases e : j = 0
  ·subst e; exact b.hi
  ·exact fun h => b.hi (ltK_trans (pw i (i + j) (by omega) (by omega) (by omega)) h)
structure Fst (K : List ByteArray) (x : ByteArray) (k : Nat) : Prop where
 le : k <= K.length
 lo : ∀ t, t < k -> ltK (K.getD t default) x
 hi : ∀ t, k <= t -> t < K.length -> ¬ ltK (K.getD t default) x
theorem fst_of (x : ByteArray) : ∀ (K : List ByteArray), K.Pairwise ltK -> ∃ k, Fst K x k
 | [], _ => ⟨0, Nat.le_refl _, fun t ht => by omega, fun t _ ht => by simp at ht⟩
 | a :: K, h => by
  obtain ⟨h1, h2⟩ := List.pairwise_cons.1 h
  by_cases hx : ltK a x
  ·obtain ⟨k, f⟩ := fst_of x K h2
   refine ⟨k + 1, by have := f.le; simp; omega, fun t ht => ?_, fun t h3 h4 => ?_⟩
   ·cases t with
    | zero => exact hx
    | succ t => exact f.lo t (by omega)
   ·cases t with
    | zero => omega
    | succ t => exact f.hi t (by omega) (by simpa using h4)
  ·refine ⟨0, Nat.zero_le _, fun t ht => by omega, fun t _ h4 => ?_⟩
   cases t with
   | zero => exact hx
   | succ t =>
    have h4' : t < K.length := by simpa using h4
    have hm : (a :: K).getD (t + 1) default = K[t] := by simp [List.getD, List.getElem?_eq_getElem h4']
    rw [hm]
    exact fun hl => hx (ltK_trans (h1 _ (List.getElem_mem h4')) hl)
theorem way_of {B : List ByteArray} {x : ByteArray} {k : Nat} (h : B.Pairwise ltK) (f : Fst B x k) : Way B x (if k < B.length /\ B.getD k default = x then k + 1 else k) := by
 have pw := List.pairwise_iff_getElem.1 h
 have g : ∀ j (hj : j < B.length), B.getD j default = B[j] := fun j hj => by simp [List.getD, List.getElem?_eq_getElem hj]
 have hle := f.le
 split
 ·next hc =>
  refine ⟨by omega, fun t ht => ?_, fun t h1 h2 => ?_⟩
  ·by_cases e : t = k
   ·rw [e, hc.2]; exact ltK_irr x
   ·exact ltK_asym (f.lo t (by omega))
  ·rw [g t h2]
   have := pw k t hc.1 h2 (by omega)
   rw [<- g k hc.1, hc.2] at this
   exact this
 ·next hc =>
  refine ⟨hle, fun t ht => ltK_asym (f.lo t ht), fun t h1 h2 => ?_⟩
  have hk : k < B.length := by omega
  have hkx : ltK x (B.getD k default) := Decidable.byContradiction fun hn => hc ⟨hk, ltK_tri (f.hi k (Nat.le_refl _) hk) hn⟩
  by_cases e : t = k
  ·rw [e]; exact hkx
  ·refine ltK_trans hkx ?_
   rw [g t h2, g k hk]
   exact pw k t hk h2 (by omega)
theorem keys_getD (l : List Pr) (t : Nat) (ht : t < l.length) : (l.map (·.1)).getD t default = (l.getD t default).1 := by
 simp [List.getD, List.getElem?_eq_getElem ht]
theorem putL_putP {x : ByteArray} {v : Nat} : ∀ {l : List Pr} {k j : Nat}, Fst (l.map (·.1)) x k -> (j = if k < l.length /\ (l.getD k default).1 = x then k + 1 else k) -> putL l k j x v = putP l x v
 | [], k, j, f, hj => by
  have : k = 0 := by have := f.le; simpa using this
  subst this
  simp at hj
  subst hj
  simp [putL, putP]
 | p :: l, 0, j, f, hj => by
  have h0 := f.hi 0 (Nat.le_refl _) (by simp)
  have h0' : ¬ ltK p.1 x := h0
  unfold putP
  rw [if_neg h0']
  by_cases e : p.1 = x
  ·rw [if_pos ⟨by simp, e⟩] at hj
   subst hj
   rw [if_pos e]
   simp [putL]
  ·rw [if_neg (fun hh => e hh.2)] at hj
   subst hj
   rw [if_neg e]
   simp [putL]
 | p :: l, k + 1, j, f, hj => by
  have h0 : ltK p.1 x := f.lo 0 (by omega)
  have f' : Fst (l.map (·.1)) x k := ⟨by have := f.le; simpa using this, fun t ht => f.lo (t + 1) (by omega), fun t h1 h2 => f.hi (t + 1) (by omega) (by simpa using h2)⟩
  unfold putP
  rw [if_pos h0, <- putL_putP (k := k) (j := j - 1) f' (by
   rw [hj]
   simp
   split <;> simp)]
  have hj1 : 1 <= j := by rw [hj]; split <;> omega
  obtain ⟨j', rfl⟩ : ∃ j', j = j' + 1 := ⟨j - 1, by omega⟩
  simp [putL]
set_option maxRecDepth 100000 in
theorem y_parting (a b : ByteArray) (w : World) (hl : ltK a b) (ha : a.size <= 1000) (hb : b.size <= 1000) :
  Calls Tryz.prog 228 #[.string a, .string b] w fun e w' => ∃ x, e = .returned (.string x) /\ Btw a b x /\ St w w' := by
 have hb1 : 1 <= b.size := by
  refine Nat.pos_of_ne_zero fun h0 => ?_
  have : b.data.toList = [] := List.length_eq_zero_iff.1 (by simpa using h0)
  unfold ltK at hl
  rw [this] at hl
  simp at hl
 go_enter Tryz.func228, Tryz.ntmps228
 go_wp2_with fail
 go_loopw [5] (fun iv wr => ∃ n : Nat, iv = .int .i64 n /\ n <= a.size /\ n < b.size /\ (∀ i, i < n -> a.data.toList[i]? = b.data.toList[i]?) /\ St w wr) (fun iv _ => b.size - (intOf iv).toNat)
 case atStart => exact ⟨0, rfl, Nat.zero_le _, by omega, fun i hi => by omega, Fr.refl _ _⟩
 case round =>
  obtain ⟨n, rfl, h1, h2, h3, fr⟩ := hrel
  by_cases hc : n < a.size /\ n + 1 < b.size
  ·have q1 : (n : Int) < a.size := by omega
   have q2 : (n : Int) < (b.size : Int) - 1 := by omega
   have q3 : (n : Int) < b.size := by omega
   have wb : IntKind.i64.wrap ((b.size : Int) - 1) = (b.size : Int) - 1 := (wrap_small _ (by omega) (by omega)).1
   have q4 : (n : Int) < min (a.size : Int) ((b.size : Int) - 1) := by omega
   have ga : a.data.toList[n]? = some (a[n]'hc.1) := by
    rw [List.getElem?_eq_getElem (by simpa using hc.1)]
    rfl
   have gb : b.data.toList[n]? = some (b[n]'h2) := by
    rw [List.getElem?_eq_getElem (by simpa using h2)]
    rfl
   by_cases he : (a[n]'hc.1) = (b[n]'h2)
   ·have hbe : (((a[n]'hc.1).toNat : Int) == ((b[n]'h2).toNat : Int)) = true := by rw [he]; simp
    have HH := Hd (ai ga (ai gb he))
    clear ga gb he
    go_wp2_with fail
    go_quiet (fail)
    go_wp2_with fail
    obtain ⟨ga, gb, he⟩ := uh HH
    refine ⟨⟨n + 1, by simp, by omega, by omega, fun i hi => ?_, fr.drewN _⟩, by simp [intOf]; omega⟩
    by_cases e : i = n
    ·rw [e, ga, gb, he]
    ·exact h3 i (by omega)
   ·have hbe : (((a[n]'hc.1).toNat : Int) == ((b[n]'h2).toNat : Int)) = false := by
     simp only [beq_eq_false_iff_ne, ne_eq]
     exact fun e => he (UInt8.toNat_inj.1 (by omega))
    have HH := Hd (ai ga (ai gb he))
    clear ga gb he
    go_wp2_with fail
    go_quiet (fail)
    go_wp2_with fail
    go_ret
    obtain ⟨ga, gb, he⟩ := uh HH
    refine ⟨_, rfl, part_btw a b n hl h2 (by omega) h3 (.inr (.inr (by rw [ga, gb]; simpa using he))), fr.drewN _⟩
  ·have q4 : ((n : Int) < min (a.size : Int) ((b.size : Int) - 1)) = False := eq_false (by omega)
   have q5 : (n : Int) + 1 <= b.size := by omega
   have wb : IntKind.i64.wrap ((b.size : Int) - 1) = (b.size : Int) - 1 := (wrap_small _ (by omega) (by omega)).1
   go_wp2_with fail
   go_quiet (fail)
   go_wp2_with fail
   go_ret
   refine ⟨_, rfl, part_btw a b n hl h2 h1 h3 (by omega), fr.drewN _⟩
theorem slice_bothZ {et st : TypeId} {sz : Nat} (E : ElT et st sz) (he : Tryz.prog.elem st = et) (a : Option Addr) (len cap l h : Nat) (w : World) (hl : l <= h) (hh : h <= cap) : (Instr.slice st (.slice a len cap) (some (.int .i64 (l : Nat))) (some (.int .i64 (h : Nat))) none).run Tryz.prog w = .ok (.slice (cutZ sz a cap l) (h - l) (cap - l)) w := by
 obtain ⟨hu, h0, i, z, hi, hz, hsize, hby, hzs⟩ := E
 have hs : (sizeOf et).run Tryz.prog w = .ok sz w := by simp [sizeOf, typeInfo, hi, hsize]
 rw [run_slice_lh (P := Tryz.prog) w st a len cap (by rw [he]; exact hu) .i64 .i64 (l : Nat) (h : Nat) (by omega) (by omega) (by omega), he, hs]
 simp [Result.andThen, sliced, cutZ]
theorem rowZ {w : World} {lo sz n : Nat} {t : TypeId} {v : Value} {xs : List Value} (h : w.ownsRow lo t sz v n xs) : ∃ a c, v = .slice a n c := by
 rcases h.2 with ⟨hv, hn⟩ | ⟨g, cap, cur, hv, _⟩
 ·exact ⟨none, 0, by rw [hv, hn]⟩
 ·exact ⟨_, cap, hv⟩
theorem stp_append {P : Program} {ops : Array Oper} {o : Oper} {a : Act} {w : World} {K : Act -> World -> Prop} {Q : Exit -> Act -> World -> Prop} {E : Prop} (hgd : o.guard = none) (s x : Operand) (t : TypeId)
  (ho : o.op = .call { callee := .builtin .append, args := #[s, x], argTypes := #[t, t] }) (vs vx : Value) (hs : a.eval s = vs) (hx : a.eval x = vx) (v' : Value) (w' : World) (hr : (Builtin.append_ #[t, t] o.type #[vs, vx]).run P w = .ok v' w')
  (h : K (a.put o.dst v') w') : if Region.wanted o (yielded ops a.tmps) = true then Oper.wp P o a w K Q else E := by
 rw [if_pos (by simp [Region.wanted, hgd])]
 unfold Oper.wp execOp
 simp only [ho, resolve, invoke, builtin, Sem.run_bind, Sem.run_pure, Result.andThen_ok, List.map_toArray, List.map_cons, List.map_nil, hs, hx, hr]
 exact h
theorem sl_kid (w W : World) (p : Nat × Nat) (hW : w.alloc (.cells #[.int .u64 (p.1 : Nat), .int .i64 (p.2 : Nat)] 131) = W) : Sl W 2 (some ⟨w.heap.size, 0, none⟩) 1 1 (kcl [p]) := by
 have o : W.heap[w.heap.size]? = some (.cells #[.int .u64 (p.1 : Nat), .int .i64 (p.2 : Nat)] 131 (0, 0)) := hW ▸ heap_alloc_new w _
 exact ⟨rfl, Nat.le_refl _, (fun e => by cases e), kcl_one, (fun j u hu => ⟨w.heap.size, 0, rfl, by
  rw [Nat.zero_add, cOo o j, <- hu]
  simp [kcl]⟩), (fun x e => by cases e; rfl)⟩
set_option maxRecDepth 100000 in
theorem y_branchOf (h : Nat) (ka ia : Option Addr) (kc ic : Nat) (B : List ByteArray) (ks : List (Nat × Nat)) (w : World) (_hK : Kys w ka kc B) (hI : Sl w 1 ia ks.length ic (vals .u64 (ks.map fun k => itN k.1 k.2))) (h2 : 2 <= ks.length) (hl : ks.length <= 500) (hB : ks.length = B.length + 1) (hk : ∀ k ∈ ks, k.1 < 4294967296 /\ k.2 < 2147483648) :
  Calls Tryz.prog 133 #[.int .i64 h, .slice ka B.length kc, .slice ia ks.length ic] w fun e w' => ∃ v c, e = .returned (brV h ka B.length kc v ks.length c) /\ Kds w' v c ks /\ (∀ x, v = some x -> w.heap.size <= x.block /\ x.block < w'.heap.size) /\ St w w' := by
 have h2' : (2 : Int) <= ks.length := by omega
 have e1 : IntKind.i64.wrap ((ks.length : Int) - 1) = B.length := by rw [IntKind.wrap_i64]; omega
 generalize hq : ks.length = q at *
 generalize hnb : B.length = nb at *
 obtain ⟨W, hW⟩ : ∃ W, (w.alloc (.cells #[.int .i64 0, .slice none 0 0, .slice none 0 0] 92)).alloc (.cells #[.int .i64 h, .slice ka nb kc, .slice none 0 0] 92) = W := ⟨_, rfl⟩
 have fW : St w W := hW ▸ ((Fr.refl _ w).alloc _).alloc _
 have oW : W.heap[w.heap.size + 1]? = some (.cells #[.int .i64 h, .slice ka nb kc, .slice none 0 0] 92 (0, 0)) := by
  have := heap_alloc_new (w.alloc (.cells #[.int .i64 0, .slice none 0 0, .slice none 0 0] 92)) (.cells #[.int .i64 h, .slice ka nb kc, .slice none 0 0] 92)
  rw [hW] at this
  simpa using this
 have oR : W.heap[w.heap.size]? = some (.cells #[.int .i64 0, .slice none 0 0, .slice none 0 0] 92 (0, 0)) := by
  have := heap_alloc_new w (.cells #[.int .i64 0, .slice none 0 0, .slice none 0 0] 92)
  rw [<- hW]
  exact ((Fr.refl (fun _ => False) _).alloc _).obj this id
 have HW := Hd hW
 have HB := Hd hB
 clear hW hB
 go_enter Tryz.func133, Tryz.ntmps133
 go_wp2_with (first | (go_at_call 75; refine (y_must _).mono ?_; rintro e w' ⟨rfl, hh⟩; replace hh := hh.symm; subst hh) | fail)
 rw [uh HW]
 clear HW
 obtain ⟨g, hg⟩ : ∃ g, w.heap.size = g := ⟨_, rfl⟩
 rw [hg] at oW oR ⊢
 go_loopw [27] (fun i wr => ∃ (r : Nat) (v : Value), r <= q /\ i = .int .i64 r /\ wr.ownsRow (g + 2) 131 2 v r (kcl (ks.take r)) /\ wr.heap[g + 1]? = some (.cells #[.int .i64 h, .slice ka nb kc, v] 92 (0, 0)) /\ wr.heap[g]? = some (.cells #[.int .i64 0, .slice none 0 0, .slice none 0 0] 92 (0, 0)) /\ St w wr) (fun i _ => q - (RowKit.intOf i).toNat)
 case atStart => exact ⟨0, _, by omega, rfl, World.ownsRow_nil _ _ _ _, oW, oR, fW⟩
 case round =>
  obtain ⟨r, v, hrn, rfl, hrow, o1, o0, fr⟩ := hrel
  by_cases hlt : r < q
  ·obtain ⟨p, hp⟩ : ∃ p, ks[r]? = some p := ⟨_, List.getElem?_eq_getElem (by omega)⟩
   obtain ⟨k1, k2⟩ := hk p (List.mem_of_getElem? hp)
   have KO := y_kidOf p.1 p.2 k1 k2
   obtain ⟨b2, o2, rfl, c2⟩ := hI.cells r (.int .u64 (itN p.1 p.2 : Nat)) (by simp [vals, hp])
   replace c2 := fr.cell' c2 id
   have hlt' : (r : Int) < q := by omega
   have d2 : wr.cell? ⟨g + 1, 2, none⟩ = some v := cOo o1 2
   have HQ := @Hd _ (fun (w1 : World) (f1 : St wr.drew w1) => show ∃ (W1 : World) (va : Option Addr) (vc : Nat) (w2 : World), w1.alloc (.cells #[.int .u64 (p.1 : Nat), .int .i64 (p.2 : Nat)] 131) = W1 /\ (Builtin.append_ #[90, 90] 90 #[v, .slice (some ⟨w1.heap.size, 0, none⟩) 1 1]).run Tryz.prog W1 = .ok (.slice va (r + 1) vc) w2 /\ w2.cell? ⟨g + 1, 2, none⟩ = some v /\ w2.frozen? ⟨g + 1, 2, none⟩ = false /\ (w2.setCell ⟨g + 1, 2, none⟩ (.slice va (r + 1) vc)).ownsRow (g + 2) 131 2 (.slice va (r + 1) vc) (r + 1) (kcl (ks.take (r + 1))) /\ (w2.setCell ⟨g + 1, 2, none⟩ (.slice va (r + 1) vc)).heap[g + 1]? = some (.cells #[.int .i64 h, .slice ka nb kc, (.slice va (r + 1) vc)] 92 (0, 0)) /\ (w2.setCell ⟨g + 1, 2, none⟩ (.slice va (r + 1) vc)).heap[g]? = some (.cells #[.int .i64 0, .slice none 0 0, .slice none 0 0] 92 (0, 0)) /\ St w (w2.setCell ⟨g + 1, 2, none⟩ (.slice va (r + 1) vc)) from by
    obtain ⟨W1, hW1⟩ : ∃ W1, w1.alloc (.cells #[.int .u64 (p.1 : Nat), .int .i64 (p.2 : Nat)] 131) = W1 := ⟨_, rfl⟩
    have fa : St w1 W1 := hW1 ▸ (Fr.refl _ w1).alloc _
    have fd : St wr wr.drew := (Fr.refl _ wr).drewN 1
    have f2 : St wr W1 := (fd.trans' f1 nE).trans' fa nE
    have hro := own_still hrow f2
    have hsz : g + 2 <= W1.heap.size := by
     have : g + 1 < wr.heap.size := World.block_lt_of_cell? _ _ d2
     have := f2.size
     omega
    obtain ⟨v2, w2, hap, hw2, hgr, hloc⟩ := run_more elt_K 90 hro (sl_kid w1 W1 p hW1) (by omega) hsz
    obtain ⟨va, vc, rfl⟩ := rowZ hw2
    have f3 : Fr (fun k => g + 2 <= k) wr w2 := (f2.mono nE).grown hgr (fun k hk => .inl (hrow.lt k hk).1)
    have o1' := f3.obj o1 (by omega)
    have o0' := f3.obj o0 (by omega)
    have ht : kcl (ks.take (r + 1)) = kcl (ks.take r) ++ kcl [p] := by
     rw [List.take_add_one, hp, kcl_app]; rfl
    refine ⟨W1, va, vc, w2, hW1, hap, cOo o1' 2, by simp [World.frozen?, o1'], ?_, heap_setCell_same w2 (g + 1) 2 _ _ _ o1', ?_, ?_⟩
    ·rw [ht]
     exact ownsRow_setCell_other hw2 (fun e => absurd (hw2.lt _ e).1 (by show ¬ g + 2 <= g + 1; omega)) _
    ·rw [Below.heap_setCell _ _ _ _ (by simp)]
     exact o0'
    ·refine (fr.trans' (G := fun k => g + 2 <= k) f3 (fun k hk => .inr (by omega))).setCell (.inr (by show w.heap.size <= g + 1; omega)) _)
   have z1 : ∀ o, wr.frozen? ⟨g + 1, o, none⟩ = false := fun o => by simp [World.frozen?, o1]
   clear hrow o1 o0 fr hI _hK hk k1 k2 hp oW oR fW
   go_wp2_with fail
   clear c2
   refine wp_region_held_drew (S := fun _ => True) (by kernel_rfl) trivial (fun hHeld => ?_)
   refine tkO 0 ?_ hHeld rfl ?_ ?_
   rotate_left
   ·intro w q;go_simp;try with_reducible rfl
   simp only [apt, List.set]
   refine tkO 2 ?_ hHeld rfl ?_ ?_
   rotate_left
   ·intro w q;go_simp;try with_reducible rfl
   simp only [apt, List.set]
   have d3 : wr.drew.cell? ⟨g + 1, 2, none⟩ = some v := d2
   replace d2 := d3
   refine wpAnyH_ready (rs := [1, 3]) (by kernel_rfl) (by simp) ?_
   refine AllReadyH.cons rfl (fun K hK => ?_) (AllReadyH.cons rfl (fun K hK => ?_) AllReadyH.nil)
   ·go_simp
    refine hK.out _ _ trivial (fun _ => ?_)
    clear hK K
    refine rdO 3 rfl (fun K hK => ?_)
    go_simp
    go_wp2_with fail
    refine (KO _).mono ?_
    rintro e w1 ⟨rfl, f1⟩
    have e1 := (f1.cell' d2 id : w1.cell? ⟨g + 1, 2, none⟩ = some v)
    refine hK.out _ _ trivial (fun _ => ?_)
    clear hK K
    refine rdO 4 rfl (fun K hK => ?_)
    go_simp
    refine hK.out _ _ trivial (fun _ => ?_)
    clear hK K
    obtain ⟨W1, va, vc, w2, hW1, hap, FX⟩ := uh HQ w1 f1
    rw [hW1]
    refine rdO 5 rfl (fun K hK => ?_)
    refine stp_append rfl (.tmp 32) (.tmp 35) 90 rfl _ _ rfl rfl (.slice va (r + 1) vc) w2 hap ?_
    refine hK.out _ _ trivial (fun _ => ?_)
    clear hK K
    simp only [Act.put, List.setIfInBounds_toArray]
    refine tkO 6 ?_ hHeld rfl ?_ ?_
    rotate_left
    ·intro w q;go_simp;try with_reducible rfl
    simp only [Act.put]
    have e2 := FX.1
    have z2 := FX.2.1
    refine rdO 7 rfl (fun K hK => ?_)
    go_simp
    refine hK.out _ _ trivial (fun _ => ?_)
    clear hK K
    refine wpAnyH_done (by kernel_rfl) ?_ _
    go_wp2_with fail
    exact ⟨⟨r + 1, .slice va (r + 1) vc, by omega, by simp, FX.2.2⟩, by simp [RowKit.intOf]; omega⟩
   ·go_simp
    go_wp2_with fail
    refine (KO _).mono ?_
    rintro e w1 ⟨rfl, f1⟩
    have e1 := (f1.cell' d2 id : w1.cell? ⟨g + 1, 2, none⟩ = some v)
    refine hK.out _ _ trivial (fun _ => ?_)
    clear hK K
    refine wpAnyH_ready (rs := [1, 4]) (by kernel_rfl) (by simp) ?_
    refine AllReadyH.cons rfl (fun K hK => ?_) (AllReadyH.cons rfl (fun K hK => ?_) AllReadyH.nil)
    ·go_simp
     refine hK.out _ _ trivial (fun _ => ?_)
     clear hK K
     refine rdO 4 rfl (fun K hK => ?_)
     go_simp
     refine hK.out _ _ trivial (fun _ => ?_)
     clear hK K
     obtain ⟨W1, va, vc, w2, hW1, hap, FX⟩ := uh HQ w1 f1
     rw [hW1]
     refine rdO 5 rfl (fun K hK => ?_)
     refine stp_append rfl (.tmp 32) (.tmp 35) 90 rfl _ _ rfl rfl (.slice va (r + 1) vc) w2 hap ?_
     refine hK.out _ _ trivial (fun _ => ?_)
     clear hK K
     simp only [Act.put, List.setIfInBounds_toArray]
     refine tkO 6 ?_ hHeld rfl ?_ ?_
     rotate_left
     ·intro w q;go_simp;try with_reducible rfl
     simp only [Act.put]
     have e2 := FX.1
     have z2 := FX.2.1
     refine rdO 7 rfl (fun K hK => ?_)
     go_simp
     refine hK.out _ _ trivial (fun _ => ?_)
     clear hK K
     refine wpAnyH_done (by kernel_rfl) ?_ _
     go_wp2_with fail
     exact ⟨⟨r + 1, .slice va (r + 1) vc, by omega, by simp, FX.2.2⟩, by simp [RowKit.intOf]; omega⟩
    ·go_simp
     have e3 : (w1.alloc (.cells #[.int .u64 (p.1 : Nat), .int .i64 (p.2 : Nat)] 131)).cell? ⟨g + 1, 2, none⟩ = some v := ((Fr.refl (fun _ => False) w1).alloc _).cell' e1 id
     refine hK.out _ _ trivial (fun _ => ?_)
     clear hK K
     refine rdO 1 rfl (fun K hK => ?_)
     go_simp
     refine hK.out _ _ trivial (fun _ => ?_)
     clear hK K
     obtain ⟨W1, va, vc, w2, hW1, hap, FX⟩ := uh HQ w1 f1
     rw [hW1]
     refine rdO 5 rfl (fun K hK => ?_)
     refine stp_append rfl (.tmp 32) (.tmp 35) 90 rfl _ _ rfl rfl (.slice va (r + 1) vc) w2 hap ?_
     refine hK.out _ _ trivial (fun _ => ?_)
     clear hK K
     simp only [Act.put, List.setIfInBounds_toArray]
     refine tkO 6 ?_ hHeld rfl ?_ ?_
     rotate_left
     ·intro w q;go_simp;try with_reducible rfl
     simp only [Act.put]
     have e2 := FX.1
     have z2 := FX.2.1
     refine rdO 7 rfl (fun K hK => ?_)
     go_simp
     refine hK.out _ _ trivial (fun _ => ?_)
     clear hK K
     refine wpAnyH_done (by kernel_rfl) ?_ _
     go_wp2_with fail
     exact ⟨⟨r + 1, .slice va (r + 1) vc, by omega, by simp, FX.2.2⟩, by simp [RowKit.intOf]; omega⟩
  ·have e : r = q := by omega
   subst e
   have hlt' : ¬ (r : Int) < r := by omega
   have d0 : wr.cell? ⟨g + 1, 0, none⟩ = some (.int .i64 h) := cOo o1 0
   have d1 : wr.cell? ⟨g + 1, 1, none⟩ = some (.slice ka nb kc) := cOo o1 1
   have d2 : wr.cell? ⟨g + 1, 2, none⟩ = some v := cOo o1 2
   have r0 : wr.cell? ⟨g, 0, none⟩ = some (.int .i64 0) := cOo o0 0
   have r1 : wr.cell? ⟨g, 1, none⟩ = some (.slice none 0 0) := cOo o0 1
   have r2 : wr.cell? ⟨g, 2, none⟩ = some (.slice none 0 0) := cOo o0 2
   have rz : ∀ o, wr.frozen? ⟨g, o, none⟩ = false := fun o => by simp [World.frozen?, o0]
   obtain ⟨va, vc, rfl⟩ := rowZ hrow
   go_wp2_with fail
   have oF := heap_setCell_same _ g 2 _ _ (.slice va r vc) (heap_setCell_same _ g 1 _ _ (.slice ka nb kc) (heap_setCell_same wr g 0 _ _ (.int .i64 (h : Nat)) o0))
   have f5 : Fr (fun k => k = g) wr (((wr.setCell ⟨g, 0, none⟩ (.int .i64 (h : Nat))).setCell ⟨g, 1, none⟩ (.slice ka nb kc)).setCell ⟨g, 2, none⟩ (.slice va r vc)) := (((Fr.refl (fun k => k = g) wr).setCell (.inl rfl) _).setCell (.inl rfl) _).setCell (.inl rfl) _
   refine bodyPost_ret (results_cell_row Tryz.results133 _ _ g 92 #[.int .i64 h, .slice ka nb kc, .slice va r vc] (0, 0) _ (by rfl) oF Tryz.underlying92 rfl (by kernel_rfl)) rfl ?_
   have hkr : ks.take r = ks := by rw [<- hq, List.take_length]
   rw [hkr] at hrow
   have S := sl_of_row hrow kcl_one
   have ob := own_block hrow
   refine ⟨va, vc, rfl, ?_, fun x hx => ?_, fr.trans' f5 (fun k hk => .inr (by rw [hk, hg]; exact Nat.le_refl _))⟩
   ·have := S.kept f5 (fun x hx e => by have := (ob x hx).1; omega)
    rw [<- hq] at this ⊢
    exact this
   ·have := ob x hx
    exact ⟨by omega, Nat.lt_of_lt_of_le this.2 f5.size⟩

section
section
variable {nu sz : Nat} {w : World} {hb sb b : Nat} {T : Tay} {A : Ab} {P : List (Int × Int)}
theorem fi_eight (nu : Nat) : fi nu % 8 = 0 := by
 unfold fi
 omega
set_option maxRecDepth 100000 in
theorem y_nodeAt (h : Hp nu sz w hb sb b T A P) (u : Nat) (n : Nd) (s : Std nu sz (says P A) u n) :
  Calls Tryz.prog 79 #[ptr sb, .int .u64 (fi nu + 8 * u : Nat), .int .i64 n.high] w fun e w' => ∃ v, e = .returned v /\ NdO (fun k => w.heap.size <= k /\ k < w'.heap.size) w' v n /\ St w w' := by
 obtain ⟨g1, g2, g3, g4, g5, g6⟩ := h.hp.geo.b
 have f0 := fi_eight nu
 have f8 : 8 <= fi nu := by omega
 have kok := s.ok.kok
 have hsz32 := s.le
 have hfit := s.fit
 have hl : n.wds.length = n.size := n.wds_len kok
 have hsd : n.size = hsz n.items.length (kb n.keys) := rfl
 have hr : n.items.length <= 32 /\ kb n.keys <= 300 := by rw [hsd] at hsz32; unfold hsz need at hsz32; omega
 have HA := y_headAt h (fi nu + 8 * u) n.high n.items.length (kb n.keys) (by omega) (by omega) (by rw [<- hsd]; exact hfit) s.ok.h1 s.ok.h16 (by omega) (by omega) (by rw [<- hsd]; exact hsz32) (s.wd 0 _ rfl)
 have LD : ∀ w1, St w w1 -> ∀ i, i < n.size -> Calls Tryz.prog 48 #[ptr sb, .int .i64 ((fi nu + 8 * u : Nat) + (i : Int))] w1 fun e w' => e = .returned (.int .u64 ((n.wds.getD i 0 : Nat) : Int)) /\ w' = w1 := fun w1 f1 i hi => by
  have := (h.still f1).load (fi nu + 8 * u + i) (by omega)
  rw [s.wd i (n.wds.getD i 0) (by rw [List.getD, List.getElem?_eq_getElem (by omega)]; rfl)] at this
  rw [show ((fi nu + 8 * u : Nat) + (i : Int)) = ((fi nu + 8 * u + i : Nat) : Int) by omega]
  exact this
 have SZ := y_size n.high n.items.length (kb n.keys) (by omega) (by omega)
 rw [<- hsd] at SZ
 have hpz : fi nu + 8 * u < 60000 := by omega
 have HLD := @Hd _ LD
 have HS := Hd s
 have HL := Hd (ai hl hsd)
 clear LD h s hfit hl hsd f8 f0 g1 g2 g3 g4 g5 g6 kok
 generalize fi nu + 8 * u = p at *
 have hn1 := n.size_pos
 generalize hrs : n.size = rs at *
 have wp : IntKind.i64.wrap (p : Int) = p := (wrap_small _ (by omega) (by omega)).1
 have wi : ∀ i : Nat, i < rs -> IntKind.i64.wrap ((p : Int) + i) = (p : Int) + i := fun i hi => (wrap_small _ (by omega) (by omega)).1
 obtain ⟨ht, hht⟩ : ∃ ht, n.high = ht := ⟨_, rfl⟩
 obtain ⟨it, hit⟩ : ∃ it, n.items.length = it := ⟨_, rfl⟩
 obtain ⟨bt, hbt⟩ : ∃ bt, kb n.keys = bt := ⟨_, rfl⟩
 rw [hht, hit, hbt] at HA SZ
 rw [hit, hbt] at hr
 rw [hht]
 have HE := Hd (ai hht (ai hit (ai hbt hrs)))
 clear hht hit hbt hrs
 unfold hdV at HA SZ
 go_enter Tryz.func79, Tryz.ntmps79
 go_wp2_with fail
 refine HA.mono ?_
 rintro e w1 ⟨rfl, f1⟩
 clear HA
 obtain ⟨W2, hW2⟩ : ∃ W2, w1.alloc (.cells #[.int .i64 ht, .int .i64 it, .int .i64 bt] 101) = W2 := ⟨_, rfl⟩
 have f2 : St w1 W2 := hW2 ▸ (Fr.refl _ w1).alloc _
 have oP : W2.heap[w1.heap.size]? = some (.cells #[.int .i64 ht, .int .i64 it, .int .i64 bt] 101 (0, 0)) := hW2 ▸ heap_alloc_new w1 _
 have d0 : W2.cell? ⟨w1.heap.size, 0, none⟩ = some (.int .i64 ht) := cOo oP 0
 have d1 : W2.cell? ⟨w1.heap.size, 1, none⟩ = some (.int .i64 it) := cOo oP 1
 have d2 : W2.cell? ⟨w1.heap.size, 2, none⟩ = some (.int .i64 bt) := cOo oP 2
 have HW2 := Hd hW2
 have HX := Hd (ai (f1.trans' f2 nE) oP)
 clear hW2 f1 f2 oP
 go_wp2_with (first | (rw [uh HW2]; go_at_call 75; refine (y_must _).mono ?_; rintro e w' ⟨rfl, hh⟩; replace hh := hh.symm; subst hh) | fail)
 refine (SZ _).mono ?_
 rintro e w3 ⟨rfl, f3⟩
 generalize w1.heap.size = q at *
 clear HW2 d0 d1 d2 SZ
 obtain ⟨f02, oP⟩ := uh HX
 have f03 : St w w3 := f02.trans' f3 nE
 obtain ⟨w4, hm, hM⟩ := make_u64s rs (by omega) w3
 have f4 : St w3 w4 := Fr.ofBelow hM.bel
 have HY := Hd (ai f03 (ai (f3.obj oP id) hM))
 clear f02 oP f03 f3 hM f4 HX
 generalize hg : w3.heap.size = g at *
 go_wp2_with fail
 clear hm
 have HG := Hd hg
 go_loopw [24] (fun vi wr => ∃ k : Nat, vi = .int .i64 k /\ k <= rs /\ Mem .u64 w3 g rs (fun j => if j < k then n.wds.getD j 0 else 0) wr) (fun vi _ => rs - (RowKit.intOf vi).toNat)
 case atStart => exact ⟨0, rfl, Nat.zero_le _, (uh HY).2.2.ext fun i _ => by simp⟩
 case round =>
  obtain ⟨k, rfl, hk, hM⟩ := hrel
  have fr : St w wr := (uh HY).1.trans' (Fr.ofBelow hM.bel) nE
  by_cases hlt : k < rs
  ·have hlt' : (k : Int) < rs := by omega
   have c1 := hM.cell k hlt
   have z1 := hM.fz k
   have LD := uh HLD wr fr k hlt
   have wk := wi k hlt
   have HM := Hd (hM.set k (n.wds.getD k 0) hlt)
   clear hM fr
   generalize hv : n.wds.getD k 0 = v at *
   generalize (if k < k then v else 0) = z0 at *
   go_wp2_with (first | (go_at_call 48; refine LD.mono ?_; rintro e w' ⟨rfl, hh⟩; replace hh := hh.symm; subst hh) | fail)
   refine ⟨⟨k + 1, by simp, by omega, (uh HM).ext fun i _ => ?_⟩, by simp [RowKit.intOf]; omega⟩
   by_cases h1 : i = k
   ·subst h1
    rw [if_pos rfl, if_pos (by omega), hv]
   ·rw [if_neg h1]
    by_cases h2 : i < k
    ·rw [if_pos h2, if_pos (by omega)]
    ·rw [if_neg h2, if_neg (by omega)]
  ·have e : k = rs := by omega
   subst e
   have hlt' : ¬ (k : Int) < k := by omega
   obtain ⟨hwl, hks⟩ := uh HL
   obtain ⟨E1, E2, E3, E4⟩ := uh HE
   have ok := (uh HS).ok
   have hit : 1 + it <= k := by rw [hks, E2]; unfold hsz need; omega
   have S0 : Sl wr 1 (some ⟨g, 0, none⟩) k k (vals .u64 n.wds) := ⟨by simp [vals, hwl], Nat.le_refl _, (fun e => by cases e), vals_one _ _, (fun j u hu => ⟨g, 0, rfl, by
    have hj : j < n.wds.length := by simpa [vals] using (List.getElem?_eq_some_iff.1 hu).1
    rw [Nat.zero_add, hM.cell j (by omega), if_pos (by omega), <- hu]
    simp [vals, List.getD, List.getElem?_eq_getElem hj]⟩), (fun x e => by cases e; rfl)⟩
   have SK := S0.drop (1 + it) hit
   have SI := (S0.take hit).drop 1 (by omega)
   have eK : (vals .u64 n.wds).drop ((1 + it) * 1) = vals .u64 (pkW (jk n.keys)) := by
    unfold Nd.wds vals
    rw [Nat.mul_one, Nat.add_comm, <- List.map_drop, List.drop_succ_cons, <- E2, List.drop_left]
   have eI : ((vals .u64 n.wds).take ((1 + it) * 1)).drop (1 * 1) = vals .u64 n.items := by
    unfold Nd.wds vals
    simp only [Nat.mul_one]
    rw [Nat.add_comm, <- List.map_take, <- List.map_drop, List.take_succ_cons, List.drop_succ_cons, List.drop_zero, <- E2, List.take_left]
   have ePl : (pkW (jk n.keys)).length = k - (1 + it) := by
    rw [pkW_len, jk_len ok.kok, hks, E2]
    unfold hsz need
    omega
   rw [eK] at SK
   replace SK : Sl wr 1 (cutZ 1 (some ⟨g, 0, none⟩) k (1 + it)) (pkW (jk n.keys)).length (k - (1 + it)) (vals .u64 (pkW (jk n.keys))) := by
    rw [ePl]
    exact SK
   rw [eI] at SI
   have s1 : ∀ w, (Instr.slice 128 (.slice (some ⟨g, 0, none⟩) k k) (some (.int .i64 (1 + (it : Int)))) none none).run Tryz.prog w = .ok (.slice (cutZ 1 (some ⟨g, 0, none⟩) k (1 + it)) (pkW (jk n.keys)).length (k - (1 + it))) w := fun w => by
    have := slice_fromZ elt_W elem_u64s (some ⟨g, 0, none⟩) k k (1 + it) w hit
    rw [show ((1 + it : Nat) : Int) = 1 + (it : Int) by omega] at this
    rw [this, ePl]
   have s2 : ∀ w, (Instr.slice 128 (.slice (some ⟨g, 0, none⟩) k k) (some (.int .i64 1)) (some (.int .i64 (1 + (it : Int)))) none).run Tryz.prog w = .ok (.slice (cutZ 1 (some ⟨g, 0, none⟩) k 1) it (k - 1)) w := fun w => by
    have := slice_bothZ elt_W elem_u64s (some ⟨g, 0, none⟩) k k 1 (1 + it) w (by omega) hit
    rw [show ((1 + it : Nat) : Int) = 1 + (it : Int) by omega] at this
    rw [show 1 + it - 1 = it by omega] at this
    exact this
   rw [show 1 + it - 1 = it by omega] at SI
   generalize cutZ 1 (some ⟨g, 0, none⟩) k (1 + it) = ka at *
   generalize k - (1 + it) = kc at *
   generalize cutZ 1 (some ⟨g, 0, none⟩) k 1 = ia at *
   generalize k - 1 = ic at *
   have hjl : (jk n.keys).length = bt := by rw [jk_len ok.kok]; exact E3
   have hKl : n.keys.length <= 100 := by
    have := Nd.klen ok.form
    omega
   have KO : ∀ w', St wr w' -> Calls Tryz.prog 131 #[.agg #[.int .i64 ht, .int .i64 it, .int .i64 bt], .slice ka (pkW (jk n.keys)).length kc] w' fun e w'' => ∃ v, e = .returned v /\ w''.ownsRow w'.heap.size 9 1 v n.keys.length (n.keys.map Value.string) /\ St w' w'' := fun w' f' => by
    have := y_keysOf n.keys ht it ka kc w' (SK.still f') hKl (fun t ht => kL_at ok.kok t ht) (fun t ht => by
     have pw := List.pairwise_iff_getElem.1 ok.rise t (t + 1) (by omega) ht (by omega)
     simpa [List.getD, List.getElem?_eq_getElem ht, List.getElem?_eq_getElem (show t < n.keys.length by omega)] using pw) (by omega)
    rw [hjl] at this
    exact this
   have oP := (Fr.ofBelow hM.bel : St w3 wr).obj (uh HY).2.1 id
   have d0 : wr.cell? ⟨q, 0, none⟩ = some (.int .i64 ht) := cOo oP 0
   have d1 : wr.cell? ⟨q, 1, none⟩ = some (.int .i64 it) := cOo oP 1
   have d2 : wr.cell? ⟨q, 2, none⟩ = some (.int .i64 bt) := cOo oP 2
   have HKO := @Hd _ KO; have HSI := Hd SI; have HFR := Hd fr; have HM9 := Hd hM
   have i33 : it <= 32 := hr.1
   have wit : IntKind.i64.wrap (1 + (it : Int)) = 1 + (it : Int) := (wrap_small _ (by omega) (by omega)).1
   clear KO SI SK S0 oP hM eK eI ePl hjl hKl hwl hks E1 E2 E3 E4 ok hit fr HLD wi
   generalize (pkW (jk n.keys)).length = kn at *
   go_wp2_with fail
   have fD : St wr wr.drew := (Fr.refl _ wr).drewN 1
   refine wp_region_held_drew (S := fun w' => w'.cell? ⟨q, 0, none⟩ = some (.int .i64 ht) /\ w'.cell? ⟨q, 1, none⟩ = some (.int .i64 it) /\ w'.cell? ⟨q, 2, none⟩ = some (.int .i64 bt)) (by kernel_rfl) ⟨d0, d1, d2⟩ (fun hHeld => ?_)
   refine tkO 0 (.agg #[.int .i64 ht, .int .i64 it, .int .i64 bt]) hHeld rfl ?_ ?_
   ·rintro w ⟨x0, x1, x2⟩;go_simp;try with_reducible rfl
   simp only [apt, List.set]
   refine tkO 1 ?_ hHeld rfl ?_ ?_
   rotate_left
   ·intro w q;go_simp;try with_reducible rfl
   simp only [apt, List.set]
   refine tkO 2 ?_ hHeld rfl ?_ ?_
   rotate_left
   ·intro w q;go_simp;try with_reducible rfl
   simp only [apt, List.set]
   refine tkO 3 ?_ hHeld rfl ?_ ?_
   rotate_left
   ·intro w q;go_simp;try with_reducible rfl
   simp only [apt, List.set]
   refine tkO 4 (.int .i64 (1 + (it : Int))) hHeld rfl ?_ ?_
   ·(intro w q; go_simp; first | done | (rw [wit]) | (simp [wit]))
   simp only [apt, List.set]
   refine tkO 5 (.slice ka kn kc) hHeld rfl ?_ ?_
   ·(intro w q; go_simp; first | done | (rw [s1 w]; rfl) | (simp [s1 w]; try rfl))
   simp only [apt, List.set]
   refine rdO 6 rfl (fun K hK => ?_)
   go_simp
   go_wp2_with fail
   refine (uh HKO _ fD).mono ?_
   rintro e w5 ⟨kv, rfl, hkv, f5⟩
   clear HKO d0 d1 d2 hHeld s1
   have f05 : St wr w5 := fD.trans' f5 nE
   obtain ⟨kva, kvc, rfl⟩ := rows_form hkv
   have oP := ((Fr.ofBelow (uh HM9).bel : St w3 wr).trans' f05 nE).obj (uh HY).2.1 id
   have d0 : w5.cell? ⟨q, 0, none⟩ = some (.int .i64 ht) := cOo oP 0
   have d1 : w5.cell? ⟨q, 1, none⟩ = some (.int .i64 it) := cOo oP 1
   have d2 : w5.cell? ⟨q, 2, none⟩ = some (.int .i64 bt) := cOo oP 2
   refine hK.out _ _ ⟨d0, d1, d2⟩ (fun _ => ?_)
   clear hK K
   refine rdO 7 rfl (fun K hK => ?_)
   go_simp
   refine hK.out _ _ ⟨d0, d1, d2⟩ (fun _ => ?_)
   clear hK K
   refine wpAnyH_done (by kernel_rfl) ?_ _
   have HSI5 := Hd ((uh HSI).still f05)
   have HF5 := Hd ((uh HFR).trans' f05 nE)
   have HKV := Hd hkv
   have HFW := Hd ((uh HFR).trans' fD nE)
   clear HSI HFR hkv f05 f5 fD oP
   have HWR := Hd (show w.heap.size <= wr.drew.heap.size from (uh HFW).size)
   clear HFW
   cases n using Nd.cs with
   | lf l =>
    obtain ⟨E1, E2, E3, E4⟩ := uh HE
    have e1 : ht = 1 := E1.symm
    subst e1
    have ek : (Nd.lf l).keys.length = l.length := by simp [Nd.keys]
    have ei : it = l.length := by rw [<- E2]; simp [Nd.items]
    subst ei
    have hne : l ≠ [] := (uh HS).ok.form
    have hkv := uh HKV
    have ekm : (Nd.lf l).keys.map Value.string = l.map fun p => .string p.1 := by simp [Nd.keys]
    have eim : vals .u64 (Nd.lf l).items = l.map fun p => .int .u64 (p.2 : Nat) := by simp [Nd.items, vals]
    rw [ek, ekm] at hkv
    have hsi := uh HSI5
    rw [eim] at hsi
    have LO := y_leafOf kva ia kvc ic l w5 (sl_of_row hkv (fun u hu => by
     obtain ⟨t, _, rfl⟩ := List.mem_map.1 hu
     rfl)) hsi (by have := List.length_pos_iff.2 hne; omega) (by omega)
    rw [ek]
    clear hkv hsi HKV HSI5 HE HS HL HM9 HY E1 E2 E3 E4 ekm eim hne ek
    go_wp2_with fail
    refine LO.mono ?_
    rintro e w6 ⟨v, rfl, hv, f6⟩
    obtain ⟨va, vc, rfl⟩ := rowZ hv
    go_wp2_with fail
    go_ret
    have ob := own_block hv
    have f5 := uh HF5
    exact ⟨_, rfl, ⟨va, vc, rfl, sl_of_row hv pcl_one, fun x hx => ⟨Nat.le_trans f5.size (ob x hx).1, (ob x hx).2⟩⟩, f5.trans' f6 nE⟩
   | br hh B ks =>
    obtain ⟨E1, E2, E3, E4⟩ := uh HE
    have e1 : ht = hh := E1.symm
    subst e1
    obtain ⟨m1, m2, m3, m4⟩ := (uh HS).ok.form
    have ei : it = ks.length := by rw [<- E2]; simp [Nd.items]
    subst ei
    have hkv := uh HKV
    have hsi := uh HSI5
    have ek : (Nd.br ht B ks).keys = B := rfl
    have eim : (Nd.br ht B ks).items = ks.map fun k => itN k.1 k.2 := rfl
    rw [ek] at hkv ⊢
    rw [eim] at hsi
    have SB := sl_of_row hkv (str_one B)
    have BO : ∀ w', St w5 w' -> Calls Tryz.prog 133 #[.int .i64 ht, .slice kva B.length kvc, .slice ia ks.length ic] w' fun e w'' => ∃ v c, e = .returned (brV ht kva B.length kvc v ks.length c) /\ Kds w'' v c ks /\ (∀ x, v = some x -> w'.heap.size <= x.block /\ x.block < w''.heap.size) /\ St w' w'' := fun w' f' => y_branchOf ht kva ia kvc ic B ks w' (SB.still f') (hsi.still f') m3 (by omega) m2 m4
    have h1 : ((ht : Int) == 1) = false := by simp; omega
    have HBO := @Hd _ BO
    have HOB := Hd (ai SB (own_block hkv))
    clear BO SB hkv hsi HKV HSI5 HE HS HL HM9 HY E1 E2 E3 E4 ek eim m1 m2 m3 m4
    generalize hbn : B.length = bn at *
    generalize hkn : ks.length = kq at *
    go_wp2_with fail
    have fD : St w5 w5.drew := (Fr.refl _ w5).drewN 1
    refine wp_region_held_drew (S := fun w' => w'.cell? ⟨q, 0, none⟩ = some (.int .i64 ht) /\ w'.cell? ⟨q, 1, none⟩ = some (.int .i64 kq)) (by kernel_rfl) ⟨d0, d1⟩ (fun hHeld => ?_)
    refine tkO 0 ?_ hHeld rfl ?_ ?_
    rotate_left
    ·intro w q;go_simp;try with_reducible rfl
    simp only [apt, List.set]
    refine tkO 1 (.int .i64 ht) hHeld rfl ?_ ?_
    ·rintro w ⟨x0, x1⟩;go_simp;try with_reducible rfl
    simp only [apt, List.set]
    refine tkO 2 ?_ hHeld rfl ?_ ?_
    rotate_left
    ·intro w q;go_simp;try with_reducible rfl
    simp only [apt, List.set]
    refine tkO 3 ?_ hHeld rfl ?_ ?_
    rotate_left
    ·intro w q;go_simp;try with_reducible rfl
    simp only [apt, List.set]
    refine tkO 4 ?_ hHeld rfl ?_ ?_
    rotate_left
    ·intro w q;go_simp;try with_reducible rfl
    simp only [apt, List.set]
    refine tkO 5 (.int .i64 kq) hHeld rfl ?_ ?_
    ·rintro w ⟨x0, x1⟩;go_simp;try with_reducible rfl
    simp only [apt, List.set]
    refine tkO 6 (.int .i64 (1 + (kq : Int))) hHeld rfl ?_ ?_
    ·(intro w q; go_simp; first | done | (rw [wit]) | (simp [wit]))
    simp only [apt, List.set]
    refine tkO 7 (.slice ia kq ic) hHeld rfl ?_ ?_
    ·(intro w q; go_simp; first | done | (rw [s2 w]; rfl) | (simp [s2 w]; try rfl))
    simp only [apt, List.set]
    refine rdO 8 rfl (fun K hK => ?_)
    go_simp
    go_wp2_with fail
    refine (uh HBO _ fD).mono ?_
    rintro e w6 ⟨v, c, rfl, hv, hvb, f6⟩
    have f56 : St w5 w6 := fD.trans' f6 nE
    have e0 := f56.cell' d0 id
    have e1 := f56.cell' d1 id
    refine hK.out _ _ ⟨e0, e1⟩ (fun _ => ?_)
    clear hK K
    refine rdO 9 rfl (fun K hK => ?_)
    go_simp
    refine hK.out _ _ ⟨e0, e1⟩ (fun _ => ?_)
    clear hK K
    refine rdO 10 rfl (fun K hK => ?_)
    go_simp
    refine hK.out _ _ ⟨e0, e1⟩ (fun _ => ?_)
    clear hK K
    refine wpAnyH_done (by kernel_rfl) ?_ _
    go_wp2_with fail
    go_ret
    obtain ⟨SB, ob⟩ := uh HOB
    have f5 := uh HF5
    have hwr := uh HWR
    subst hbn
    subst hkn
    refine ⟨_, rfl, ⟨kva, kvc, v, c, rfl, SB.still f56, hv, fun x hx => ?_, fun x hx => ?_⟩, f5.trans' f56 nE⟩
    ·exact ⟨Nat.le_trans hwr (ob x hx).1, Nat.lt_of_lt_of_le (ob x hx).2 f56.size⟩
    ·exact ⟨Nat.le_trans f5.size (hvb x hx).1, (hvb x hx).2⟩
end
end
end Go.Proofs.YtbpndmghlnadiaaGreatDoor
