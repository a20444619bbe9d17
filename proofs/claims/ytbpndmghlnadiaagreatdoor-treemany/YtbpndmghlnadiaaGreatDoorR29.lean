/- Joined: Vc Vd. -/
import Derived.Test.YtbpndmghlnadiaaGreatDoorR25
import Derived.Test.YtbpndmghlnadiaaGreatDoorR28
namespace Go.Proofs.YtbpndmghlnadiaaGreatDoor
open Go.RowKit
set_option maxHeartbeats 4000000
theorem geP_no {x : ByteArray} {p : Pr} (h : ltK p.1 x) : geP x [p] = [] := by
 unfold geP
 rw [List.filter_cons_of_neg (by rw [decide_eq_true h]; decide)]
 rfl
theorem geP_yes {x : ByteArray} {p : Pr} (h : ¬ ltK p.1 x) : geP x [p] = [p] := by
 unfold geP
 rw [List.filter_cons_of_pos (by rw [decide_eq_false h]; rfl)]
 rfl
abbrev pvV (p : Pr) : Value := .agg #[.string p.1, .int .u64 (p.2 : Nat)]
def wkE (L : List Pr) (k : Nat) : Array Value := #[pvV (L.getD k default)]
structure Wv (w : World) (x : ByteArray) (bLo bT bS bL bY l sb : Nat) : Prop where
 lo : w.cell? ⟨bLo, 0, none⟩ = some (.string x)
 t : w.cell? ⟨bT, 0, none⟩ = some (.func (.func 86) #[] #[ptr bLo, ptr bT, ptr bS, ptr bL, ptr bY])
 s : w.cell? ⟨bS, 0, none⟩ = some (ptr sb)
 y : w.cell? ⟨bY, 0, none⟩ = some (.func (.yield l) #[] #[])
theorem Wv.kept {w w' : World} {x : ByteArray} {bLo bT bS bL bY l sb : Nat} (h : Wv w x bLo bT bS bL bY l sb) {F : Nat -> Prop} (f : Fr F w w') (h1 : ¬ F bLo) (h2 : ¬ F bT) (h3 : ¬ F bS) (h4 : ¬ F bY) : Wv w' x bLo bT bS bL bY l sb :=
 ⟨f.cell' h.lo h1, f.cell' h.t h2, f.cell' h.s h3, f.cell' h.y h4⟩
structure Wkj (L : List Pr) (l : Nat) (J' : Nat -> (Nat -> Prop) -> World -> Prop) (Jx : World -> Prop) (Jp : List PanicEntry -> World -> Prop) : Prop where
 lt : ∀ k G W, J' k G W -> ∀ b, G b -> b < W.heap.size
 off : ∀ k G O W W', J' k G W -> Fr O W W' -> (∀ b, O b -> ¬ G b) -> J' k G W'
 y : ∀ k G W, k < L.length -> J' k G W -> YieldAt Fence.wide (0 - 1) Tryz.prog l (wkE L k) W fun e W' => (e = .returned (.bool true) /\ ∃ G', J' (k + 1) G' W' /\ Fr G W W' /\ (∀ b, G b -> G' b) /\ ∀ b, G' b -> G b \/ W.heap.size <= b) \/ (e = .returned (.bool false) /\ Jx W' /\ Fr G W W') \/ ∃ ch, e = .panicked ch /\ Jp ch W'
structure Wnt (J' : Nat -> (Nat -> Prop) -> World -> Prop) (k : Nat) (G : Nat -> Prop) (bL : Nat) (W : World) (z : ByteArray) (G' : Nat -> Prop) (W' : World) : Prop where
 j : J' k G' W'
 fr : Fr (fun b => G b \/ b = bL) W W'
 up : ∀ b, G b -> G' b
 new : ∀ b, G' b -> G b \/ W.heap.size <= b
 la : W'.heap[bL]? = some (.cells #[.string z] 9 (0, 0))
def WkE (J' : Nat -> (Nat -> Prop) -> World -> Prop) (Jx : World -> Prop) (Jp : List PanicEntry -> World -> Prop) (k : Nat) (G : Nat -> Prop) (bL : Nat) (W : World) (l : List Pr) (e : Ending) (W' : World) : Prop :=
 (e = .returned (.bool true) /\ ∃ G' p, p ∈ l /\ Wnt J' k G bL W p.1 G' W') \/ (e = .returned (.bool false) /\ Jx W' /\ Fr (fun b => G b \/ b = bL) W W') \/ ∃ ch, e = .panicked ch /\ Jp ch W'
set_option maxRecDepth 100000 in
theorem w_leaf {x : ByteArray} {bLo bT bS bL bY l sb : Nat} {L : List Pr} {J' : Nat -> (Nat -> Prop) -> World -> Prop} {Jx : World -> Prop} {Jp : List PanicEntry -> World -> Prop} (wk : Wkj L l J' Jx Jp) (W : World) (G : Nat -> Prop) (k0 : Nat) (z : ByteArray) (m : List Pr) (a : Option Addr) (c : Nat)
  (wv : Wv W x bLo bT bS bL bY l sb) (hL : Lf W a c m) (hm : m ≠ []) (hm32 : m.length <= 32) (ri : Rise m) (hz : ∀ p ∈ m, ltK z p.1) (hj : J' k0 G W) (hla : W.heap[bL]? = some (.cells #[.string z] 9 (0, 0)))
  (hG : ∀ b, G b -> b < W.heap.size /\ b ≠ bLo /\ b ≠ bT /\ b ≠ bS /\ b ≠ bL /\ b ≠ bY /\ ∀ y, a = some y -> b ≠ y.block) (hn : bL ≠ bLo /\ bL ≠ bT /\ bL ≠ bS /\ bL ≠ bY /\ ∀ y, a = some y -> bL ≠ y.block)
  (hix : ∀ i p, (geP x m)[i]? = some p -> L[k0 + i]? = some p) :
  Calls Tryz.prog 86 #[.iface 96 (.slice a m.length c), ptr bLo, ptr bT, ptr bS, ptr bL, ptr bY] W fun e W' => WkE J' Jx Jp (k0 + (geP x m).length) G bL W m e W' := by
 have hwd : Fence.wide.depth = none := rfl
 have hwf : ∀ f, Fence.wide.fn f := fun _ => trivial
 have t1 := fun w => taB_leaf (.slice a m.length c) w
 have t2 := fun w => taL_leaf (.slice a m.length c) w
 have hbl : bL < W.heap.size := (Array.getElem?_eq_some_iff.1 hla).1
 obtain ⟨W1, hW1⟩ : ∃ W1, W.alloc (.cells #[.int .i64 0, .slice none 0 0, .slice none 0 0] 92) = W1 := ⟨_, rfl⟩
 have f1 : St W W1 := hW1 ▸ (Fr.refl _ W).alloc _
 have HH := Hd (ai wk (ai wv (ai hL (ai ri (ai hz (ai hj (ai hla (ai hG (ai hn (ai hix (ai hbl (ai hm hm32))))))))))))
 have HW1 := Hd hW1
 have HF1 := Hd f1
 clear wk wv hL hz hj hla hG hn hix hbl hm hW1 f1 ri
 refine (callsIn_wide (n := 0)).1 ?_
 refine callsIn_of_wp Tryz.func86 rfl trivial ?_ rfl
 simp only [Tryz.ntmps86, List.size_toArray, List.length_cons, List.length_nil, Nat.reduceAdd, Nat.reduceSub, Array.replicate_succ, Array.replicate_zero, List.push_toArray, List.append_toArray, List.nil_append, List.cons_append]
 gi_wp2_with fail
 rw [uh HW1]
 gi_loopw [39] (fun c wr => ∃ (i : Nat) (G' : Nat -> Prop) (z' : ByteArray), c = .int .i64 (i : Nat) /\ Hid (i <= m.length /\ Wnt J' (k0 + (geP x (m.take i)).length) G bL W1 z' G' wr /\ (i = 0 -> z' = z) /\ ∀ j, i = j + 1 -> ∃ p, m[j]? = some p /\ z' = p.1)) (fun c wr => m.length - (intOf c).toNat)
 case atStart =>
  obtain ⟨wk, wv, hL, ri, hz, hj, hla, hG, hn, hix, hbl, hm, _⟩ := uh HH
  have f1 := uh HF1
  refine ⟨0, G, z, rfl, Hd ⟨Nat.zero_le _, ⟨?_, Fr.refl _ _, fun _ h => h, fun b h => .inl h, f1.obj hla id⟩, fun _ => rfl, fun j hj => by omega⟩⟩
  have : geP x (m.take 0) = [] := rfl
  rw [this]
  exact wk.off _ _ _ _ _ hj f1 nE
 case round =>
  obtain ⟨i, G', z', rfl, HI⟩ := hrel
  obtain ⟨hi, wt, hz0, hzs⟩ := uh HI
  obtain ⟨wk, wv, hL, ri, hz, hj, hla, hG, hn, hix, hbl, hm, _⟩ := uh HH
  have f1 := uh HF1
  have hs1 : W.heap.size <= W1.heap.size := f1.size
  by_cases hlt : i < m.length
  ·obtain ⟨p, hp⟩ : ∃ p, m[i]? = some p := ⟨_, List.getElem?_eq_getElem hlt⟩
   have hpm := List.mem_of_getElem? hp
   obtain ⟨ab, ao, ea, c1, c2⟩ := hL.pair hp
   have na : ¬ (G ab \/ ab = bL) := by
    rintro (h | h)
    ·exact (hG _ h).2.2.2.2.2.2 _ ea rfl
    ·exact hn.2.2.2.2 _ ea h.symm
   have nv : ∀ k, (k = bLo \/ k = bT \/ k = bS \/ k = bY) -> ¬ (G k \/ k = bL) := by
    rintro k hk (h | h)
    ·obtain ⟨_, q1, q2, q3, q4, q5, _⟩ := hG k h
     rcases hk with e | e | e | e
     ·exact q1 e
     ·exact q2 e
     ·exact q3 e
     ·exact q5 e
    ·obtain ⟨q1, q2, q3, q4, _⟩ := hn
     rcases hk with e | e | e | e
     ·exact q1 (h.symm.trans e)
     ·exact q2 (h.symm.trans e)
     ·exact q3 (h.symm.trans e)
     ·exact q4 (h.symm.trans e)
   have fWr : Fr (fun k => G k \/ k = bL) W wr := (f1.mono nE).trans' wt.fr (fun k hk => .inl hk)
   replace c1 := fWr.cell' c1 na
   replace c2 := fWr.cell' c2 na
   have wvr := wv.kept fWr (nv _ (.inl rfl)) (nv _ (.inr (.inl rfl))) (nv _ (.inr (.inr (.inl rfl)))) (nv _ (.inr (.inr (.inr rfl))))
   obtain ⟨W2, hW2⟩ : ∃ W2, wr.alloc (.cells #[.string p.1, .int .u64 (p.2 : Nat)] 43) = W2 := ⟨_, rfl⟩
   have f2 : St wr W2 := hW2 ▸ (Fr.refl _ wr).alloc _
   have o2 : W2.heap[wr.heap.size]? = some (.cells #[.string p.1, .int .u64 (p.2 : Nat)] 43 (0, 0)) := hW2 ▸ heap_alloc_new wr _
   have la2 := f2.obj wt.la id
   obtain ⟨W3, hW3⟩ : ∃ W3, W2.setCell ⟨bL, 0, none⟩ (.string p.1) = W3 := ⟨_, rfl⟩
   have f3 : Fr (fun k => k = bL) W2 W3 := hW3 ▸ (Fr.refl (fun k => k = bL) W2).setCell (.inl rfl) _
   have la3 : W3.heap[bL]? = some (.cells #[.string p.1] 9 (0, 0)) := hW3 ▸ heap_setCell_same W2 bL 0 _ _ (.string p.1) la2
   have hbr : bL < wr.heap.size := (Array.getElem?_eq_some_iff.1 wt.la).1
   have nG' : ¬ G' bL := fun h => by
    rcases wt.new _ h with h | h
    ·exact (hG _ h).2.2.2.2.1 rfl
    ·omega
   have f23 : Fr (fun k => k = bL) wr W3 := (f2.mono nE).trans' f3 (fun k hk => .inl hk)
   have j3 : J' (k0 + (geP x (m.take i)).length) G' W3 := wk.off _ _ _ _ _ wt.j f23 (fun k hk h => nG' (hk ▸ h))
   have fr3 : Fr (fun k => G k \/ k = bL) W1 W3 := wt.fr.trans' f23 (fun k hk => .inl (.inr hk))
   have etk : m.take (i + 1) = m.take i ++ [p] := by rw [List.take_add_one, hp]; rfl
   have dl2 : W2.cell? ⟨bL, 0, none⟩ = some (.string z') := cOo la2 0
   have zl2 : W2.frozen? ⟨bL, 0, none⟩ = false := by simp [World.frozen?, la2]
   have e0 : W2.cell? ⟨wr.heap.size, 0, none⟩ = some (.string p.1) := cOo o2 0
   have e1 : W2.cell? ⟨wr.heap.size, 1, none⟩ = some (.int .u64 (p.2 : Nat)) := cOo o2 1
   have g0 : W3.cell? ⟨wr.heap.size, 0, none⟩ = some (.string p.1) := f3.cell' e0 (by show ¬ wr.heap.size = bL; omega)
   have g1 : W3.cell? ⟨wr.heap.size, 1, none⟩ = some (.int .u64 (p.2 : Nat)) := f3.cell' e1 (by show ¬ wr.heap.size = bL; omega)
   have wv3 := wvr.kept f23 (fun e => hn.1 e.symm) (fun e => hn.2.1 e.symm) (fun e => hn.2.2.1 e.symm) (fun e => hn.2.2.2.1 e.symm)
   have l3 := wv3.lo
   have y3 := wv3.y
   have lx := less_eq p.1 x
   have lz := less_eq p.1 z'
   have lzf : i = 0 -> Op.bytesLess p.1.toList z'.toList = false /\ (p.1.toList == z'.toList) = false := fun h0 => by
    have hlt := hz p hpm
    rw [<- hz0 h0] at hlt
    refine ⟨by rw [lz]; exact decide_eq_false (ltK_asym hlt), ?_⟩
    rw [beq_eq_false_iff_ne]
    intro e
    rw [Lib.toList_data, Lib.toList_data] at e
    rw [bytes_ext e] at hlt
    exact ltK_irr _ hlt
   have hcase : (((i : Int) == 0) = true /\ Op.bytesLess p.1.toList z'.toList = false /\ (p.1.toList == z'.toList) = false) \/ ((i : Int) == 0) = false := by
    by_cases h0 : i = 0
    ·exact .inl ⟨by simp [h0], lzf h0⟩
    ·exact .inr (by simp; omega)
   have hin : ((i : Int) < (m.length : Int)) := by omega
   have hin' : ((i : Int) < (m.length : Int)) = True := by simp; omega
   have h32 := (uh HH).2.2.2.2.2.2.2.2.2.2.2.2
   have HZ := Hd (ai wt (ai hix (ai fr3 (ai j3 (ai la3 (ai etk (ai hp (ai wk (ai hlt hs1)))))))))
   have HW2 := Hd hW2; have HW3 := Hd hW3; have HNB := Hd nG'; have HFA := Hd f1
   rw [<- hW2] at dl2 zl2 e0 e1
   rw [<- hW3, <- hW2] at g0 g1 l3 y3
   subst ea
   clear HI hi wt hz0 hzs wk wv hL ri hz hj hla hG hn hix hbl hm f1 hs1 hpm na nv fWr wvr f2 o2 la2 f3 la3 nG' f23 j3 fr3 etk wv3 lz lzf hp hlt hW2 hW3 HF1 hbr
   generalize m.length = ml at *
   by_cases hk : ltK p.1 x
   ·rw [decide_eq_true hk] at lx
    have HK := Hd hk
    clear hk
    rcases hcase with ⟨hc1, hc2, hc3⟩ | hc1
    all_goals
     gi_wp2
     obtain ⟨wt, hix, fr3, j3, la3, etk, hp, wk, hlt, hs1⟩ := uh HZ
     rw [uh HW2, uh HW3]
     refine ⟨⟨i + 1, G', p.1, by go_num, Hd ⟨hlt, ⟨?_, fr3, wt.up, wt.new, la3⟩, fun h => by omega, fun j hj => ⟨p, by rw [show j = i by omega]; exact hp, rfl⟩⟩⟩, by simp [intOf]; omega⟩
     have e : geP x [p] = [] := geP_no (uh HK)
     rw [etk, geP_app, e, List.append_nil]
     exact j3
   ·rw [decide_eq_false hk] at lx
    obtain ⟨fn, tmps, assign, body, hy, hR⟩ : YieldAt Fence.wide (0 - 1) Tryz.prog l #[pvV p] W3 fun e W' => (e = .returned (.bool true) /\ ∃ G2, J' (k0 + (geP x (m.take (i + 1))).length) G2 W' /\ Fr G' W3 W' /\ (∀ b, G' b -> G2 b) /\ ∀ b, G2 b -> G' b \/ W3.heap.size <= b) \/ (e = .returned (.bool false) /\ Jx W' /\ Fr G' W3 W') \/ ∃ ch, e = .panicked ch /\ Jp ch W' := by
     obtain ⟨wt, hix, fr3, j3, la3, etk, hp, wk, hlt, hs1⟩ := uh HZ
     have e : geP x [p] = [p] := geP_yes hk
     have hL := hix (geP x (m.take i)).length p (by
      have e2 : geP x m = geP x (m.take i) ++ (p :: geP x (m.drop (i + 1))) := by
       conv => lhs; rw [<- List.take_append_drop (i + 1) m, etk, geP_app, geP_app, e]
       simp
      rw [e2]
      simp)
     have hkL := (List.getElem?_eq_some_iff.1 hL).1
     have hy := wk.y _ G' W3 hkL j3
     have ew : wkE L (k0 + (geP x (m.take i)).length) = #[pvV p] := by unfold wkE; simp only [List.getD, hL, Option.getD_some]
     rw [ew] at hy
     have el : k0 + (geP x (m.take (i + 1))).length = k0 + (geP x (m.take i)).length + 1 := by rw [etk, geP_app, e, List.length_append]; rfl
     rw [el]
     exact hy
    rw [<- uh HW3, <- uh HW2] at hy
    have HR := Hd hR
    rw [<- uh HW3, <- uh HW2] at HR
    clear hR hk
    rcases hcase with ⟨hc1, hc2, hc3⟩ | hc1
    all_goals
     gi_wp2
     refine (uh HR).mono ?_
     clear hy HR dl2 zl2 e0 e1 g0 g1 l3 y3 c1 c2
     rintro e W4 (⟨rfl, G2, hj4, f4, up4, new4⟩ | ⟨rfl, hx4, f4⟩ | ⟨ch, rfl, hp4⟩)
     ·rw [uh HW2, uh HW3] at f4 new4
      have HN := Hd (ai hj4 (ai f4 (ai up4 new4)))
      clear hj4 f4 up4 new4
      gi_wp2
      obtain ⟨wt, hix, fr3, j3, la3, etk, hp, wk, hlt, hs1⟩ := uh HZ
      obtain ⟨hj4, f4, up4, new4⟩ := uh HN
      have hG' : ∀ k, G' k -> (G k \/ k = bL) \/ W1.heap.size <= k := fun k hk => (wt.new k hk).imp .inl id
      have hnb : ¬ G' bL := uh HNB
      refine ⟨⟨i + 1, G2, p.1, by go_num, Hd ⟨hlt, ⟨hj4, fr3.trans' f4 hG', fun b hb => up4 b (wt.up b hb), fun b hb => ?_, f4.obj la3 hnb⟩, fun h => by omega, fun j hj => ⟨p, by rw [show j = i by omega]; exact hp, rfl⟩⟩⟩, by simp [intOf]; omega⟩
      rcases new4 b hb with h | h
      ·exact wt.new b h
      ·exact .inr (Nat.le_trans fr3.size h)
     ·rw [uh HW2, uh HW3] at f4
      have HX := Hd (ai hx4 f4)
      clear hx4 f4
      gi_wp2
      go_ret
      obtain ⟨wt, hix, fr3, j3, la3, etk, hp, wk, hlt, hs1⟩ := uh HZ
      obtain ⟨hx4, f4⟩ := uh HX
      have hG' : ∀ k, G' k -> (G k \/ k = bL) \/ W1.heap.size <= k := fun k hk => (wt.new k hk).imp .inl id
      exact .inr (.inl ⟨rfl, hx4, ((uh HFA).mono nE).trans' (fr3.trans' f4 hG') (fun k hk => .inl hk)⟩)
     ·exact ⟨rfl, .inr (.inr ⟨ch, rfl, hp4⟩)⟩
  ·have hin' : ((i : Int) < (m.length : Int)) = False := by simp; omega
   obtain ⟨j, hj⟩ : ∃ j, i = j + 1 := ⟨i - 1, by have : m.length ≠ 0 := fun e => hm (List.length_eq_zero_iff.1 e); omega⟩
   obtain ⟨p, hp, ez⟩ := hzs j hj
   have e : m.take i = m := List.take_of_length_le (by omega)
   rw [e, ez] at wt
   have HT := Hd (show Wnt J' (k0 + (geP x m).length) G bL W p.1 G' wr from ⟨wt.j, (f1.mono nE).trans' wt.fr (fun k hk => .inl hk), wt.up, fun b hb => (wt.new b hb).imp id (fun h => Nat.le_trans hs1 h), wt.la⟩)
   have HP := Hd (List.mem_of_getElem? hp)
   clear HI hi wt hz0 hzs wk wv hL ri hz hj hla hG hn hix hbl hm f1 hs1 hlt hp ez e HF1 HH
   gi_wp2
   go_ret
   exact .inl ⟨rfl, G', p, uh HP, uh HT⟩

section
def wkP (x : ByteArray) (M : List (List Pr)) (i0 i : Nat) : List Pr := (((M.drop i0).take (i - i0)).map (geP x)).flatten
theorem wkP_zero (x : ByteArray) (M : List (List Pr)) (i0 : Nat) : wkP x M i0 i0 = [] := by simp [wkP]
theorem wkP_succ {x : ByteArray} {M : List (List Pr)} {i0 i : Nat} {m : List Pr} (h0 : i0 <= i) (hm : M[i]? = some m) : wkP x M i0 (i + 1) = wkP x M i0 i ++ geP x m := by
 unfold wkP
 rw [show i + 1 - i0 = (i - i0) + 1 by omega, List.take_add_one, List.getElem?_drop, show i0 + (i - i0) = i by omega, hm]
 simp
theorem wkP_all {x : ByteArray} {M : List (List Pr)} {i0 : Nat} (_h0 : i0 <= M.length) : wkP x M i0 M.length = ((M.drop i0).map (geP x)).flatten := by
 unfold wkP
 rw [List.take_of_length_le (by rw [List.length_drop]; exact Nat.le_refl _)]
theorem wkP_pre {x : ByteArray} {M : List (List Pr)} {i0 i : Nat} (_h1 : i <= M.length) : ∃ r, wkP x M i0 M.length = wkP x M i0 i ++ r := by
 unfold wkP
 refine ⟨(((M.drop i0).drop (i - i0)).map (geP x)).flatten, ?_⟩
 rw [List.take_of_length_le (i := M.length - i0) (by rw [List.length_drop]; exact Nat.le_refl _), <- List.flatten_append, <- List.map_append, List.take_append_drop]
theorem parts_lt {M : List (List Pr)} {i : Nat} {m : List Pr} (ri : Rise M.flatten) (hm : M[i]? = some m) {p q : Pr} (hp : p ∈ m) (hq : q ∈ (M.drop (i + 1)).flatten) : ltK p.1 q.1 := by
 obtain ⟨h1, h2⟩ := List.getElem?_eq_some_iff.1 hm
 have e : M.flatten = (M.take i).flatten ++ (m ++ (M.drop (i + 1)).flatten) := by
  conv => lhs; rw [<- List.take_append_drop i M, List.flatten_append, List.drop_eq_getElem_cons h1, h2, List.flatten_cons]
 unfold Rise at ri
 rw [e] at ri
 exact (List.pairwise_append.1 (List.pairwise_append.1 ri).2.1).2.2 p hp q hq
section
variable {nu sz : Nat} {hb sb b : Nat} {T : Tay} {A : Ab} {P : List (Int × Int)}
def Wks (hb sb b : Nat) (T : Tay) (bLo bT bS bL bY : Nat) (k : Nat) : Prop := tfoot sb b T k \/ k = hb \/ k = 0 \/ k = bLo \/ k = bT \/ k = bS \/ k = bL \/ k = bY
theorem Wks_lt {x : ByteArray} {W : World} {bLo bT bS bL bY l : Nat} {z : ByteArray} {k : Nat} (hp : Hp nu sz W hb sb b T A P) (wv : Wv W x bLo bT bS bL bY l sb) (hla : W.heap[bL]? = some (.cells #[.string z] 9 (0, 0))) (h : Wks hb sb b T bLo bT bS bL bY k) : k < W.heap.size := by
 rcases h with h | h | h | h | h | h | h | h
 ·exact hp.st.lt _ h
 ·exact h ▸ hp.lth
 ·exact h ▸ hp.lt0
 ·exact h ▸ World.block_lt_of_cell? _ _ wv.lo
 ·exact h ▸ World.block_lt_of_cell? _ _ wv.t
 ·exact h ▸ World.block_lt_of_cell? _ _ wv.s
 ·exact h ▸ (Array.getElem?_eq_some_iff.1 hla).1
 ·exact h ▸ World.block_lt_of_cell? _ _ wv.y
set_option maxRecDepth 100000 in
theorem w_through {x : ByteArray} {bLo bT bS bL bY l : Nat} {L : List Pr} {J' : Nat -> (Nat -> Prop) -> World -> Prop} {Jx : World -> Prop} {Jp : List PanicEntry -> World -> Prop} (wk : Wkj L l J' Jx Jp)
  (hnn : bL ≠ bLo /\ bL ≠ bT /\ bL ≠ bS /\ bL ≠ bY /\ ¬ tfoot sb b T bL /\ bL ≠ hb /\ bL ≠ 0) :
  ∀ (h : Nat) (W : World) (G F : Nat -> Prop) (k0 : Nat) (z : ByteArray) (v : Value) (n : Nd) (m : List Pr) (Q : List Nat), Hp nu sz W hb sb b T A P -> Wv W x bLo bT bS bL bY l sb -> NdO F W v n -> (∀ k, F k -> k < W.heap.size /\ k ≠ bL) ->
   Un nu (Tr nu sz (says P A) h) (h + 1) n m Q -> n.size <= 32 -> Rise m -> (∀ p ∈ m, ltK z p.1) -> J' k0 G W -> W.heap[bL]? = some (.cells #[.string z] 9 (0, 0)) -> (∀ k, G k -> k < W.heap.size /\ ¬ Wks hb sb b T bLo bT bS bL bY k /\ ¬ F k) -> (∀ i p, (geP x m)[i]? = some p -> L[k0 + i]? = some p) ->
   Calls Tryz.prog 86 #[v, ptr bLo, ptr bT, ptr bS, ptr bL, ptr bY] W fun e W' => WkE J' Jx Jp (k0 + (geP x m).length) G bL W m e W' := by
 have leaf : ∀ (W : World) (G F : Nat -> Prop) (k0 : Nat) (z : ByteArray) (v : Value) (m : List Pr), Wv W x bLo bT bS bL bY l sb -> NdO F W v (.lf m) -> (∀ k, F k -> k < W.heap.size /\ k ≠ bL) -> m ≠ [] -> (Nd.lf m).size <= 32 -> Rise m -> (∀ p ∈ m, ltK z p.1) -> J' k0 G W -> W.heap[bL]? = some (.cells #[.string z] 9 (0, 0)) -> (∀ k, G k -> k < W.heap.size /\ ¬ Wks hb sb b T bLo bT bS bL bY k /\ ¬ F k) -> (∀ i p, (geP x m)[i]? = some p -> L[k0 + i]? = some p) ->
   Calls Tryz.prog 86 #[v, ptr bLo, ptr bT, ptr bS, ptr bL, ptr bY] W fun e W' => WkE J' Jx Jp (k0 + (geP x m).length) G bL W m e W' := by
  intro W G F k0 z v m wv nd hF hm hs ri hz hj hla hG hix
  obtain ⟨a, c, rfl, hL, hf⟩ := nd
  have h32 : m.length <= 32 := by rw [lf_size] at hs; unfold hsz need at hs; omega
  refine w_leaf wk W G k0 z m a c wv hL hm h32 ri hz hj hla (fun k hk => ?_) ⟨hnn.1, hnn.2.1, hnn.2.2.1, hnn.2.2.2.1, fun y hy => (hF _ (hf y hy)).2.symm⟩ hix
  obtain ⟨g1, g2, g3⟩ := hG k hk
  unfold Wks at g2
  exact ⟨g1, fun e => g2 (by simp [e]), fun e => g2 (by simp [e]), fun e => g2 (by simp [e]), fun e => g2 (by simp [e]), fun e => g2 (by simp [e]), fun y hy e => g3 (e ▸ hf y hy)⟩
 intro h
 induction h with
 | zero =>
  intro W G F k0 z v n m Q hp wv nd hF un hs ri hz hj hla hG hix
  rcases un with ⟨_, rfl, hm, _⟩ | ⟨h2, _⟩
  ·exact leaf W G F k0 z v m wv nd hF hm hs ri hz hj hla hG hix
  ·omega
 | succ h ih =>
  intro W G F k0 z v n m Q hp wv nd hF un hs ri hz hj hla hG hix
  rcases un with ⟨h1, _⟩ | ⟨h2, B, ks, rfl, fo⟩
  ·omega
  obtain ⟨ba, bc, ka, kc, rfl, hB, hK, hfb, hfk⟩ := nd
  have hmk : (ks.map (kidN nu)).length = ks.length := List.length_map _
  have hlen : ks.length = B.length + 1 := by have := fo.2.2.2.1.len; simpa using this
  have hks : ks.length <= 32 := by rw [br_size, hmk] at hs; unfold hsz need at hs; omega
  obtain ⟨k, fk⟩ := fst_of x B fo.2.2.2.1.rise
  have way := way_of fo.2.2.2.1.rise fk
  obtain ⟨i0, hi0⟩ : ∃ i, (if k < B.length /\ B.getD k default = x then k + 1 else k) = i := ⟨_, rfl⟩
  rw [hi0] at way
  have hil : i0 < ks.length := by have := way.le; omega
  have TW : ∀ w1, St W w1 -> Calls Tryz.prog 43 #[brV (h + 1 + 1) ba B.length bc ka (ks.map (kidN nu)).length kc, .string x] w1 fun e w' => e = .returned (.int .i64 (i0 : Nat)) /\ St w1 w' := fun w1 f1 => by
   have := b_towards (h + 1 + 1) ba bc B ka (ks.map (kidN nu)).length kc x k w1 (hB.still f1) fk (by omega)
   rw [hi0] at this
   exact this
  have KD : ∀ (w1 : World) (i : Nat) (kk : Nat × List Pr × List Nat), Fr (fun k => G k \/ k = bL \/ W.heap.size < k) W w1 -> ks[i]? = some kk -> ∀ n1, Std nu sz (says P A) kk.1 n1 -> h + 1 = n1.high -> Hp nu sz w1 hb sb b T A P -> Calls Tryz.prog 42 #[brV (h + 1 + 1) ba B.length bc ka (ks.map (kidN nu)).length kc, ptr sb, .int .i64 i] w1 fun e w' => ∃ v, e = .returned v /\ NdO (fun k => w1.heap.size <= k /\ k < w'.heap.size) w' v n1 /\ St w1 w' := fun w1 i kk f1 hkk n1 st1 hh hp1 => by
   refine b_kid hp1 (h + 1 + 1) ba B.length bc ka kc (ks.map (kidN nu)) i kk.1 n1 ?_ (by omega) kk.2.1.length (by rw [List.getElem?_map, hkk]; rfl) st1 (by omega)
   refine hK.same fun y hy => ?_
   have hy2 := hF _ (hfk y hy)
   refine f1.block _ hy2.1 fun e => ?_
   rcases e with e | e | e
   ·exact (hG _ e).2.2 (hfk y hy)
   ·exact hy2.2 e
   ·omega
  obtain ⟨W1, hW1⟩ : ∃ W1, W.alloc (.cells #[.int .i64 ((h + 1 + 1 : Nat) : Int), .slice ba B.length bc, .slice ka (ks.map (kidN nu)).length kc] 92) = W1 := ⟨_, rfl⟩
  have f1 : St W W1 := hW1 ▸ (Fr.refl _ W).alloc _
  have o1 : W1.heap[W.heap.size]? = some (.cells #[.int .i64 ((h + 1 + 1 : Nat) : Int), .slice ba B.length bc, .slice ka (ks.map (kidN nu)).length kc] 92 (0, 0)) := hW1 ▸ heap_alloc_new W _
  have HTW := @Hd _ TW; have HKD := @Hd _ KD; have HW1 := Hd hW1
  have HC := Hd (ai hp (ai wv (ai hF (ai fo (ai ri (ai hz (ai hj (ai hla (ai hG (ai hix (ai f1 (ai o1 (ai way (ai hil (ai hlen hks)))))))))))))))
  have ih' := fun (W : World) (G F : Nat -> Prop) (k0 : Nat) (z : ByteArray) (v : Value) (n : Nd) (m : List Pr) (Q : List Nat) => ih W G F k0 z v n m Q
  have HIH := @Hd _ ih'
  have HNN := Hd hnn; have HWK := Hd wk; have HNK := Hd hmk
  have t1 := fun w => taB_br (brV (h + 1 + 1) ba B.length bc ka (ks.map (kidN nu)).length kc) w
  have hgb : bL < W.heap.size := (Array.getElem?_eq_some_iff.1 hla).1
  have d0 : W1.cell? ⟨W.heap.size, 0, none⟩ = some (.int .i64 ((h + 1 + 1 : Nat) : Int)) := cOo o1 0
  have d1 : W1.cell? ⟨W.heap.size, 1, none⟩ = some (.slice ba B.length bc) := cOo o1 1
  have d2 : W1.cell? ⟨W.heap.size, 2, none⟩ = some (.slice ka (ks.map (kidN nu)).length kc) := cOo o1 2
  have dl := f1.cell' wv.lo id
  clear leaf TW KD ih ih' hp wv hF fo ri hz hj hla hG hix f1 o1 way hil hlen hB hK hfb hfk hs hnn wk fk hi0 h2 hW1 hmk hks
  generalize (ks.map (kidN nu)).length = nk at *
  generalize B.length = nb at *
  generalize hhq : h + 1 + 1 = hh at *
  have HHQ := Hd hhq
  clear hhq
  rw [<- uh HW1] at dl
  go_enter Tryz.func86, Tryz.ntmps86
  go_wp2_with fail
  rw [uh HW1] at dl ⊢
  have f1 := (uh HC).2.2.2.2.2.2.2.2.2.2.1
  refine (uh HTW _ f1).mono ?_
  rintro e w2 ⟨rfl, f2⟩
  have d2' := f2.cell' d2 id
  have HF2 := Hd f2
  clear HTW f1 f2 dl d0 d1 d2 HW1 t1
  go_wp2_with fail
  go_loopw [10] (fun c wr => ∃ (i : Nat) (G' : Nat -> Prop) (z' : ByteArray), c = .int .i64 (i : Nat) /\ Hid (i0 <= i /\ i <= ks.length /\ Wnt J' (k0 + (wkP x (ks.map (·.2.1)) i0 i).length) G bL w2 z' G' wr /\ (∀ p ∈ ((ks.map (·.2.1)).drop i).flatten, ltK z' p.1) /\ (i0 < i -> ∃ p ∈ m, z' = p.1))) (fun c _ => nk - (intOf c).toNat)
  case atStart =>
   obtain ⟨hp, wv, hF, fo, ri, hz, hj, hla, hG, hix, f1, o1, way, hil, hlen, hks⟩ := uh HC
   have f12 : St W w2 := f1.trans' (uh HF2) nE
   refine ⟨i0, G, z, rfl, Hd ⟨Nat.le_refl _, by omega, ⟨?_, Fr.refl _ _, fun _ h => h, fun b h => .inl h, f12.obj hla id⟩, fun p hp => hz p ?_, fun h => by omega⟩⟩
   ·rw [wkP_zero]
    exact (uh HWK).off _ _ _ _ _ hj f12 nE
   ·rw [fo.2.1]
    obtain ⟨q, hq, hpq⟩ := List.mem_flatten.1 hp
    exact List.mem_flatten.2 ⟨q, List.mem_of_mem_drop hq, hpq⟩
  case round =>
   obtain ⟨i, G', z', rfl, HI⟩ := hrel
   obtain ⟨hi0, hin, wt, hzz, hzm⟩ := uh HI
   obtain ⟨hp, wv, hF, fo, ri, hz, hj, hla, hG, hix, f1, o1, way, hil, hlen, hks⟩ := uh HC
   have f12 : St W w2 := f1.trans' (uh HF2) nE
   have hnk : nk = ks.length := uh HNK
   have hng : ∀ k, W.heap.size <= k -> ¬ (G k \/ k = bL) := by
    rintro k hk (h | h)
    ·have := (hG k h).1; omega
    ·omega
   have hs12 : W.heap.size < w2.heap.size := by
    have e1 := (uh HF2).size
    have e2 := (Array.getElem?_eq_some_iff.1 o1).1
    omega
   have fWr : Fr (fun k => G k \/ k = bL) W wr := (f12.mono nE).trans' wt.fr (fun k hk => .inl hk)
   have dk := wt.fr.cell' d2' (hng _ (Nat.le_refl _))
   by_cases hlt : i < ks.length
   ·have hlt' : ((i : Int) < (nk : Int)) = True := by simp; omega
    obtain ⟨kk, hkk⟩ : ∃ kk, ks[i]? = some kk := ⟨_, List.getElem?_eq_getElem hlt⟩
    have hkm := List.mem_of_getElem? hkk
    have hmm : (ks.map (·.2.1))[i]? = some kk.2.1 := by rw [List.getElem?_map, hkk]; rfl
    obtain ⟨h1, eh, n1, Q1, st1, un1, hn1⟩ := (fo.1 kk hkm).node
    obtain rfl : h1 = h := by omega
    obtain ⟨nn1, nn2, nn3, nn4, nn5, nn6, nn7⟩ := uh HNN
    have hpr : Hp nu sz wr hb sb b T A P := hp.turn fWr (fun k hk => by
     rcases hk with h | h
     ·exact fun t => (hG k h).2.1 (.inl t)
     ·rw [h]; exact nn5) (fun h => by
     rcases h with h | h
     ·exact (hG _ h).2.1 (.inr (.inl rfl))
     ·exact nn6 h.symm) (fun h => by
     rcases h with h | h
     ·exact (hG _ h).2.1 (.inr (.inr (.inl rfl)))
     ·exact nn7 h.symm)
    have nv : ∀ k, (k = bLo \/ k = bT \/ k = bS \/ k = bY) -> ¬ (G k \/ k = bL) := by
     rintro k hk (h | h)
     ·have q := (hG k h).2.1
      unfold Wks at q
      rcases hk with e | e | e | e <;> exact q (by simp [e])
     ·rcases hk with e | e | e | e
      ·exact nn1 (h.symm.trans e)
      ·exact nn2 (h.symm.trans e)
      ·exact nn3 (h.symm.trans e)
      ·exact nn4 (h.symm.trans e)
    have wvr := wv.kept fWr (nv _ (.inl rfl)) (nv _ (.inr (.inl rfl))) (nv _ (.inr (.inr (.inl rfl)))) (nv _ (.inr (.inr (.inr rfl))))
    have ob : wr.heap[W.heap.size]? = some (.cells #[.int .i64 (hh : Nat), .slice ba nb bc, .slice ka nk kc] 92 (0, 0)) := by
     exact wt.fr.obj ((uh HF2).obj o1 id) (hng _ (Nat.le_refl _))
    have b0 : wr.cell? ⟨W.heap.size, 0, none⟩ = some (.int .i64 (hh : Nat)) := cOo ob 0
    have b1 : wr.cell? ⟨W.heap.size, 1, none⟩ = some (.slice ba nb bc) := cOo ob 1
    have b2 : wr.cell? ⟨W.heap.size, 2, none⟩ = some (.slice ka nk kc) := cOo ob 2
    have v1 := wvr.t
    have v2 := wvr.s
    have KD1 := uh HKD wr.drew i kk ((fWr.mono (fun k hk => .inl (hk.imp id .inl))).drewN 1) hkk n1 st1 (by omega) (hpr.still ((Fr.refl _ wr).drewN 1))
    have sub := fo.sub hkm
    have hsx : ∀ p ∈ kk.2.1, ltK z' p.1 := fun p hpk => hzz p (by
     obtain ⟨q1, q2⟩ := List.getElem?_eq_some_iff.1 hmm
     rw [List.drop_eq_getElem_cons q1, q2, List.flatten_cons]
     exact List.mem_append_left _ hpk)
    have hxx : ∀ j p, (geP x kk.2.1)[j]? = some p -> L[k0 + (wkP x (ks.map (·.2.1)) i0 i).length + j]? = some p := fun j p hjp => by
     rw [Nat.add_assoc]
     refine hix _ p ?_
     have e1 : geP x m = wkP x (ks.map (·.2.1)) i0 (ks.map (·.2.1)).length := by
      rw [wkP_all (by simp; omega), fo.2.1, geP_way fo.2.2.2.1 way]
     obtain ⟨r, er⟩ := wkP_pre (x := x) (M := ks.map (·.2.1)) (i0 := i0) (i := i + 1) (by simp; omega)
     rw [e1, er, wkP_succ hi0 hmm, List.append_assoc, List.getElem?_append_right (by omega), show (wkP x (ks.map (·.2.1)) i0 i).length + j - (wkP x (ks.map (·.2.1)) i0 i).length = j by omega, List.getElem?_append_left (List.getElem?_eq_some_iff.1 hjp).1]
     exact hjp
    have HIK := Hd (uh HIH)
    have HZ := Hd (ai wt (ai hpr (ai wvr (ai un1 (ai st1 (ai hsx (ai hxx (ai (ri.sub sub.1) (ai hng (ai fWr (ai hmm (ai hi0 (ai hlt hkm)))))))))))))
    have HK1 := Hd KD1
    have i5 : i <= 32 := by omega
    clear HI hin wt hzz hzm hp wv hF fo ri hz hj hla hG hix f1 o1 way hil hlen hks f12 hnk hng hs12 fWr hkk hkm hmm st1 un1 hn1 nn1 nn2 nn3 nn4 nn5 nn6 nn7 hpr nv wvr ob KD1 sub hsx hxx eh d2' hi0 hlt HKD
    go_wp2_with fail
    have fD : St wr wr.drew := (Fr.refl _ wr).drewN 1
    refine wp_region_held_drew (S := fun w' => w'.cell? ⟨bT, 0, none⟩ = some (.func (.func 86) #[] #[ptr bLo, ptr bT, ptr bS, ptr bL, ptr bY]) /\ w'.cell? ⟨W.heap.size, 0, none⟩ = some (.int .i64 (hh : Nat)) /\ w'.cell? ⟨W.heap.size, 1, none⟩ = some (.slice ba nb bc) /\ w'.cell? ⟨W.heap.size, 2, none⟩ = some (.slice ka nk kc) /\ w'.cell? ⟨bS, 0, none⟩ = some (ptr sb)) (by kernel_rfl) ⟨v1, b0, b1, b2, v2⟩ (fun hHeld => ?_)
    refine tkO 0 (.func (.func 86) #[] #[ptr bLo, ptr bT, ptr bS, ptr bL, ptr bY]) hHeld rfl ?_ ?_
    ·rintro w ⟨x0, x1, x2, x3, x4⟩;go_simp;try with_reducible rfl
    simp only [apt, List.set]
    refine tkO 1 (brV hh ba nb bc ka nk kc) hHeld rfl ?_ ?_
    ·rintro w ⟨x0, x1, x2, x3, x4⟩;go_simp;try with_reducible rfl
    simp only [apt, List.set]
    refine tkO 2 (ptr sb) hHeld rfl ?_ ?_
    ·rintro w ⟨x0, x1, x2, x3, x4⟩;go_simp;try with_reducible rfl
    simp only [apt, List.set]
    refine tkO 3 ?_ hHeld rfl ?_ ?_
    rotate_left
    ·intro w q;go_simp;try with_reducible rfl
    simp only [apt, List.set]
    refine rdO 4 rfl (fun K hK => ?_)
    go_simp
    go_wp2_with fail
    refine (uh HK1).mono ?_
    rintro e w5 ⟨v5, rfl, nd5, f5⟩
    have fr5 : St wr w5 := fD.trans' f5 nE
    refine hK.out _ _ ⟨fr5.cell' v1 id, fr5.cell' b0 id, fr5.cell' b1 id, fr5.cell' b2 id, fr5.cell' v2 id⟩ (fun _ => ?_)
    clear hK K hHeld
    have CC : Calls Tryz.prog 86 #[v5, ptr bLo, ptr bT, ptr bS, ptr bL, ptr bY] w5 fun e W' => WkE J' Jx Jp (k0 + (wkP x (ks.map (·.2.1)) i0 i).length + (geP x kk.2.1).length) G' bL w5 kk.2.1 e W' := by
     obtain ⟨wt, hpr, wvr, un1, st1, hsx, hxx, rik, hng, fWr, hmm, hi0, hlt, hkm⟩ := uh HZ
     obtain ⟨hp, wv, hF, fo, ri, hz, hj, hla, hG, hix, f1, o1, way, hil, hlen, hks⟩ := uh HC
     have hbr : bL < wr.heap.size := (Array.getElem?_eq_some_iff.1 wt.la).1
     have hsd : wr.drew.heap.size = wr.heap.size := rfl
     have hs5 := fr5.size
     have hsw : W.heap.size <= w2.heap.size := (f1.trans' (uh HF2) nE).size
     refine uh HIK w5 G' _ _ z' v5 n1 kk.2.1 Q1 (hpr.still fr5) (wvr.kept fr5 id id id id) nd5 (fun k hk => ⟨hk.2, fun e => ?_⟩) un1 st1.le rik hsx ((uh HWK).off _ _ _ _ _ wt.j fr5 nE) (fr5.obj wt.la id) (fun k hk => ?_) hxx
     ·have := hk.1; omega
     ·have hkr := (uh HWK).lt _ _ _ wt.j k hk
      refine ⟨by omega, fun hw => ?_, fun h => by have := h.1; omega⟩
      rcases wt.new k hk with h | h
      ·exact (hG k h).2.1 hw
      ·have := Wks_lt hp wv hla hw
       omega
    have HC5 := Hd CC
    have HF5 := Hd fr5
    clear CC HIK HK1 f5 fD nd5
    refine rdO 5 rfl (fun K hK => ?_)
    go_simp
    go_wp2_with fail
    refine (uh HC5).mono ?_
    clear HC5
    have hfr : ∀ w6, Fr (fun k => G' k \/ k = bL) w5 w6 -> Fr (fun k => G k \/ k = bL) W w6 /\ Fr (fun k => G k \/ k = bL) w2 w6 := fun w6 f6 => by
     obtain ⟨wt, hpr, wvr, un1, st1, hsx, hxx, rik, hng, fWr, hmm, hi0, hlt, hkm⟩ := uh HZ
     obtain ⟨hp, wv, hF, fo, ri, hz, hj, hla, hG, hix, f1, o1, way, hil, hlen, hks⟩ := uh HC
     have hsw : W.heap.size <= w2.heap.size := (f1.trans' (uh HF2) nE).size
     have f56 := ((uh HF5).mono nE).trans' f6 (fun k hk => .inl hk)
     have q : ∀ k, G' k \/ k = bL -> (G k \/ k = bL) \/ w2.heap.size <= k := fun k hk => by
      rcases hk with h | h
      ·exact (wt.new k h).imp .inl id
      ·exact .inl (.inr h)
     exact ⟨fWr.trans' f56 (fun k hk => (q k hk).imp id (fun h => Nat.le_trans hsw h)), wt.fr.trans' f56 q⟩
    have hcl : ∀ w6, Fr (fun k => G' k \/ k = bL) w5 w6 -> w6.cell? ⟨bT, 0, none⟩ = some (.func (.func 86) #[] #[ptr bLo, ptr bT, ptr bS, ptr bL, ptr bY]) /\ w6.cell? ⟨W.heap.size, 0, none⟩ = some (.int .i64 (hh : Nat)) /\ w6.cell? ⟨W.heap.size, 1, none⟩ = some (.slice ba nb bc) /\ w6.cell? ⟨W.heap.size, 2, none⟩ = some (.slice ka nk kc) /\ w6.cell? ⟨bS, 0, none⟩ = some (ptr sb) := fun w6 f6 => by
     have fr5 := uh HF5
     obtain ⟨wt, hpr, wvr, un1, st1, hsx, hxx, rik, hng, fWr, hmm, hi0, hlt, hkm⟩ := uh HZ
     obtain ⟨hp, wv, hF, fo, ri, hz, hj, hla, hG, hix, f1, o1, way, hil, hlen, hks⟩ := uh HC
     obtain ⟨nn1, nn2, nn3, nn4, nn5, nn6, nn7⟩ := uh HNN
     have hsw : W.heap.size <= w2.heap.size := (f1.trans' (uh HF2) nE).size
     have hs12 : W.heap.size < w2.heap.size := by
      have e1 := (uh HF2).size
      have e2 := (Array.getElem?_eq_some_iff.1 o1).1
      omega
     have lT := World.block_lt_of_cell? _ _ wv.t
     have lS := World.block_lt_of_cell? _ _ wv.s
     have nT : ¬ (G' bT \/ bT = bL) := by
      rintro (h | h)
      ·rcases wt.new _ h with h | h
       ·exact (hG _ h).2.1 (by unfold Wks; simp)
       ·simp only at lT; omega
      ·exact nn2 h.symm
     have nS : ¬ (G' bS \/ bS = bL) := by
      rintro (h | h)
      ·rcases wt.new _ h with h | h
       ·exact (hG _ h).2.1 (by unfold Wks; simp)
       ·simp only at lS; omega
      ·exact nn3 h.symm
     have nW : ¬ (G' W.heap.size \/ W.heap.size = bL) := by
      rintro (h | h)
      ·rcases wt.new _ h with h | h
       ·exact hng _ (Nat.le_refl _) (.inl h)
       ·omega
      ·exact hng _ (Nat.le_refl _) (.inr h)
     exact ⟨f6.cell' (fr5.cell' v1 id) nT, f6.cell' (fr5.cell' b0 id) nW, f6.cell' (fr5.cell' b1 id) nW, f6.cell' (fr5.cell' b2 id) nW, f6.cell' (fr5.cell' v2 id) nS⟩
    have HFR := Hd hfr
    have HCL := Hd hcl
    clear hfr hcl v1 b0 b1 b2 v2 fr5
    rintro e w6 (⟨rfl, G2, p, hpk, wnt⟩ | ⟨rfl, hx6, f6⟩ | ⟨ch, rfl, hp6⟩)
    ·have hS6 := uh HCL w6 wnt.fr
     have HN := Hd (ai hpk wnt)
     clear hpk wnt
     refine hK.out _ _ hS6 (fun _ => ?_)
     clear hK K
     refine rdO 6 rfl (fun K hK => ?_)
     go_simp
     refine hK.out _ _ hS6 (fun _ => ?_)
     clear hK K hS6
     refine wpAnyH_done (by kernel_rfl) ?_ _
     go_wp2_with fail
     obtain ⟨hpk, wnt⟩ := uh HN
     obtain ⟨wt, hpr, wvr, un1, st1, hsx, hxx, rik, hng, fWr, hmm, hi0, hlt, hkm⟩ := uh HZ
     obtain ⟨hp, wv, hF, fo, ri, hz, hj, hla, hG, hix, f1, o1, way, hil, hlen, hks⟩ := uh HC
     have hnk : nk = ks.length := uh HNK
     refine ⟨⟨i + 1, G2, p.1, by go_num, Hd ⟨by omega, by omega, ⟨?_, ((uh HFR) _ wnt.fr).2, fun b hb => wnt.up b (wt.up b hb), fun b hb => ?_, wnt.la⟩, fun q hq => ?_, fun _ => ⟨p, ?_, rfl⟩⟩⟩, by simp [intOf]; omega⟩
     ·rw [wkP_succ hi0 hmm, List.length_append, <- Nat.add_assoc]
      exact wnt.j
     ·rcases wnt.new b hb with h | h
      ·exact wt.new b h
      ·exact .inr (Nat.le_trans wt.fr.size (Nat.le_trans (uh HF5).size h))
     ·refine parts_lt ?_ hmm hpk hq
      rw [<- fo.2.1]
      exact ri
     ·rw [fo.2.1]
      exact List.mem_flatten.2 ⟨_, List.mem_of_getElem? hmm, hpk⟩
    ·have hS6 := uh HCL w6 f6
     have HN := Hd (ai hx6 (uh HFR w6 f6).1)
     clear hx6 f6
     refine hK.out _ _ hS6 (fun _ => ?_)
     clear hK K
     refine rdO 6 rfl (fun K hK => ?_)
     go_simp
     refine hK.out _ _ hS6 (fun _ => ?_)
     clear hK K hS6
     refine wpAnyH_done (by kernel_rfl) ?_ _
     go_wp2_with fail
     go_ret
     exact .inr (.inl ⟨rfl, (uh HN).1, (uh HN).2⟩)
    ·exact ⟨rfl, .inr (.inr ⟨ch, rfl, hp6⟩)⟩
   ·have hlt' : ((i : Int) < (nk : Int)) = False := by simp; omega
    obtain rfl : i = ks.length := by omega
    obtain ⟨p, hpm, ez⟩ := hzm (by omega)
    have e1 : geP x m = wkP x (ks.map (·.2.1)) i0 ks.length := by
     rw [fo.2.1, geP_way fo.2.2.2.1 way, <- wkP_all (by simp; omega), List.length_map]
    rw [<- e1, ez] at wt
    have HT := Hd (show Wnt J' (k0 + (geP x m).length) G bL W p.1 G' wr from ⟨wt.j, fWr, wt.up, fun b hb => (wt.new b hb).imp id (fun h => by omega), wt.la⟩)
    have HP := Hd hpm
    clear HI hin wt hzz hzm hp wv hF fo ri hz hj hla hG hix f1 o1 way hil hlen hks f12 hnk hng hs12 fWr e1 hpm ez d2' hi0 HKD HIH HNN HC
    go_wp2
    go_ret
    exact .inl ⟨rfl, G', p, uh HP, uh HT⟩
end
end
end Go.Proofs.YtbpndmghlnadiaaGreatDoor
