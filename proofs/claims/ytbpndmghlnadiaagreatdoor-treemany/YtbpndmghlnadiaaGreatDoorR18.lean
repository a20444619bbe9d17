/- Joined: Yh Yi Yj Yk Yl Za. -/
import Derived.Test.YtbpndmghlnadiaaGreatDoorR15
import Derived.Test.YtbpndmghlnadiaaGreatDoorR17
namespace Go.Proofs.YtbpndmghlnadiaaGreatDoor
open Go.RowKit
set_option maxHeartbeats 4000000
set_option maxRecDepth 100000 in
theorem y_sizeOf (nv : Value) (h i b : Nat) (hi : i < 256) (hb : b < 65536) (w : World) (HD : Calls Tryz.prog 156 #[nv] w fun e w' => ∃ v, e = .returned (.tuple #[hdV h i b, v]) /\ St w w') :
  Calls Tryz.prog 125 #[nv] w fun e w' => e = .returned (.int .i64 (hsz i b)) /\ St w w' := by
 have SZ := y_size h i b hi hb
 go_enter Tryz.func125, Tryz.ntmps125
 go_wp2_with (first | (go_at_call 156; refine HD.mono ?_; rintro e w1 ⟨v, rfl, f1⟩) | (go_at_call 82; refine (SZ _).mono ?_; rintro e w2 ⟨rfl, f2⟩) | fail)
 go_ret
 exact ⟨rfl, (f1.alloc _).trans' f2 nE⟩
theorem cat3_W (w : World) (a1 a2 a3 : Option Addr) (n1 n2 n3 c1 c2 c3 : Nat) (X1 X2 X3 : List Value) (S1 : Sl w 1 a1 n1 c1 X1) (S2 : Sl w 1 a2 n2 c2 X2) (S3 : Sl w 1 a3 n3 c3 X3) (hl : n1 + n2 + n3 <= 1000000) :
  Calls Tryz.prog 157 #[.slice (some ⟨w.heap.size, 0, none⟩) 3 3] (w.alloc (.cells #[.slice a1 n1 c1, .slice a2 n2 c2, .slice a3 n3 c3] 128)) fun e w' => ∃ v, e = .returned v /\ w'.ownsRow w.heap.size 27 1 v (n1 + n2 + n3) (X1 ++ X2 ++ X3) /\ St w w' := by
 obtain ⟨W, hW⟩ : ∃ W, w.alloc (.cells #[.slice a1 n1 c1, .slice a2 n2 c2, .slice a3 n3 c3] 128) = W := ⟨_, rfl⟩
 rw [hW]
 have fW : St w W := hW ▸ (Fr.refl _ w).alloc _
 have oR : W.heap[w.heap.size]? = some (.cells #[.slice a1 n1 c1, .slice a2 n2 c2, .slice a3 n3 c3] 128 (0, 0)) := hW ▸ heap_alloc_new w _
 have K := cat_W (some ⟨w.heap.size, 0, none⟩) 3 3 (fun t => if t = 0 then a1 else if t = 1 then a2 else a3) (fun t => if t = 0 then n1 else if t = 1 then n2 else n3) (fun t => if t = 0 then c1 else if t = 1 then c2 else c3) (fun t => if t = 0 then X1 else if t = 1 then X2 else X3) W (fun i hi => by
  rcases (show i = 0 \/ i = 1 \/ i = 2 by omega) with rfl | rfl | rfl
  ·exact ⟨⟨w.heap.size, 0, rfl, show W.cell? ⟨w.heap.size, 0, none⟩ = some (.slice a1 n1 c1) from cOo oR 0⟩, S1.still fW⟩
  ·exact ⟨⟨w.heap.size, 0, rfl, show W.cell? ⟨w.heap.size, 1, none⟩ = some (.slice a2 n2 c2) from cOo oR 1⟩, S2.still fW⟩
  ·exact ⟨⟨w.heap.size, 0, rfl, show W.cell? ⟨w.heap.size, 2, none⟩ = some (.slice a3 n3 c3) from cOo oR 2⟩, S3.still fW⟩) (by omega) (by simp [offN]; omega)
 refine K.mono ?_
 rintro e w' ⟨u, rfl, hu, f3⟩
 refine ⟨u, rfl, ?_, fW.trans' f3 nE⟩
 have e1 : offN (fun t => if t = 0 then n1 else if t = 1 then n2 else n3) 3 = n1 + n2 + n3 := by simp [offN]
 have e2 : catX (fun t => if t = 0 then X1 else if t = 1 then X2 else X3) 3 = X1 ++ X2 ++ X3 := by simp [catX]
 rw [e1, e2] at hu
 exact own_lo hu fW.size
def pkW (B : List Nat) : List Nat := (List.range ((B.length + 7) / 8)).map fun j => packF (fun t => B.getD t 0) B.length (j + 1)
def lwN (l : List Pr) : List Nat := hwN 1 l.length (jk (l.map (·.1))).length :: (l.map (·.2) ++ pkW (jk (l.map (·.1))))
theorem pkW_len (B : List Nat) : (pkW B).length = need B.length - 1 := by simp [pkW, need]
theorem elem_u64s : Tryz.prog.elem 128 = 27 := by kernel_rfl
theorem vals_one (k : IntKind) (l : List Nat) : ∀ u ∈ vals k l, u.oneCell' = true := fun u hu => by
 obtain ⟨t, _, rfl⟩ := List.mem_map.1 hu
 rfl
set_option maxRecDepth 100000 in
theorem y_wordsL (a : Option Addr) (c : Nat) (l : List Pr) (w : World) (h : Lf w a c l) (hl : l.length <= 100) (hk : ∀ i, i < l.length -> kL (l.map (·.1)) i <= 3000) (hb : (jk (l.map (·.1))).length < 60000) (hB : ∀ t, (jk (l.map (·.1))).getD t 0 < 256) :
  Calls Tryz.prog 127 #[.iface 96 (.slice a l.length c)] w fun e w' => ∃ v, e = .returned v /\ OwnL .u64 27 w' w.heap.size v (lwN l) /\ St w w' := by
 have HD := y_headL a c l w h hl hk
 have IT := fun w1 (f : St w w1) => l_items a c l w1 (h.still f) (by omega)
 have WD := y_word 1 l.length (jk (l.map (·.1))).length (by omega) (by omega) (by omega)
 have hlw : lwN l = hwN 1 l.length (jk (l.map (·.1))).length :: (l.map (·.2) ++ pkW (jk (l.map (·.1)))) := rfl
 obtain ⟨B, hBd⟩ : ∃ B, jk (l.map (·.1)) = B := ⟨_, rfl⟩
 rw [hBd] at HD WD hlw hb hB
 obtain ⟨hw, hhw⟩ : ∃ hw, hwN 1 l.length B.length = hw := ⟨_, rfl⟩
 rw [hhw] at WD hlw
 have hvm : l.map (fun p => Value.int .u64 (p.2 : Nat)) = vals .u64 (l.map (·.2)) := by simp [vals]
 rw [hvm] at IT
 have hml : (l.map (·.2)).length = l.length := by simp
 generalize l.map (·.2) = M at *
 have HLW := Hd hlw
 have HI := @Hd _ IT
 clear IT h hk hBd hhw hvm hlw
 generalize lwN l = R at *
 generalize l.length = n at *
 go_enter Tryz.func127, Tryz.ntmps127
 go_wp2_with (first | (go_at_call 156; refine HD.mono ?_; rintro e w1 ⟨jv, rfl, hj, f1⟩) | (go_at_call 158; refine (WD _).mono ?_; rintro e w3 ⟨rfl, f3⟩) | fail)
 have f3' : St w w3 := (f1.alloc _).trans' f3 nE
 have f13 : St w1 w3 := ((Fr.refl _ w1).alloc _).trans' f3 nE
 obtain ⟨W4, hW4⟩ : ∃ W4, w3.alloc (.cells #[.int .u64 (hw : Nat)] 27) = W4 := ⟨_, rfl⟩
 have f4 : St w3 W4 := hW4 ▸ (Fr.refl _ w3).alloc _
 have o4 : W4.heap[w3.heap.size]? = some (.cells #[.int .u64 (hw : Nat)] 27 (0, 0)) := hW4 ▸ heap_alloc_new w3 _
 have f04 : St w W4 := f3'.trans' f4 nE
 rw [hW4]
 refine (uh HI W4 f04).mono ?_
 rintro e w5 ⟨iv, rfl, hiv, f5⟩
 obtain ⟨ia, ic, rfl⟩ := rows_form hiv
 obtain ⟨ja, jc, rfl, _, hN⟩ := hj.nats
 have f15 : St w1 w5 := (f13.trans' f4 nE).trans' f5 nE
 have PK := pack_ok ja B.length jc (fun t => B.getD t 0) w5 (nats_fr hN f15 (fun _ _ x => x)) (fun t _ => hB t) (by omega)
 have hq : 1 <= need B.length /\ need B.length <= 10000 := by unfold need; omega
 have hq2 := pkW_len B
 have hpk : ∀ j, j < need B.length - 1 -> (vals .u64 (pkW B))[j]? = some (.int .u64 (packF (fun t => B.getD t 0) B.length (j + 1) : Nat)) := fun j hj => by
  have : j < (B.length + 7) / 8 := by unfold need at hj; omega
  simp [vals, pkW, this]
 generalize need B.length = q at *
 generalize packF (fun t => B.getD t 0) B.length = pf at *
 have s1 : ∀ g w, (Instr.slice 128 (.slice (some ⟨g, 0, none⟩) q q) (some (.int .i64 1)) none none).run Tryz.prog w = .ok (.slice (cutZ 1 (some ⟨g, 0, none⟩) q 1) (q - 1) (q - 1)) w := fun g w => slice_fromZ elt_W elem_u64s (some ⟨g, 0, none⟩) q q 1 w hq.1
 have HX := Hd (ai o4 (ai f04 (ai f5 hiv)))
 have HPK := Hd (ai hpk hq2)
 clear o4 f04 f5 hiv hpk hq2 f3 f3' f13 f4 f15 hN HI HD WD hj f1 hB
 go_wp2_with (first | (go_at_call 159; refine PK.mono ?_; rintro e w6 ⟨rfl, m6⟩) | fail)
 obtain ⟨o4, f04, f5, hiv⟩ := uh HX
 obtain ⟨hpk, hq2⟩ := uh HPK
 have f6 : St w5 w6 := Fr.ofBelow m6.bel
 have f46 : St W4 w6 := f5.trans' f6 nE
 have o6 := f46.obj o4 id
 have S1 : Sl w6 1 (some ⟨w3.heap.size, 0, none⟩) 1 1 (vals .u64 [hw]) := ⟨rfl, Nat.le_refl _, (fun e => by cases e), vals_one _ _, (fun j u hu => ⟨w3.heap.size, 0, rfl, by
  rw [Nat.zero_add, cOo o6 j, <- hu]
  simp [vals]⟩), (fun x e => by cases e; rfl)⟩
 have S2 : Sl w6 1 ia n ic (vals .u64 M) := (sl_of_row hiv (vals_one _ _)).still f6
 have S0 : Sl w6 1 (some ⟨w5.heap.size, 0, none⟩) q q ((List.range q).map fun j => .int .u64 (pf j : Nat)) := ⟨by simp, Nat.le_refl _, (fun e => by cases e), (fun u hu => by
  obtain ⟨t, _, rfl⟩ := List.mem_map.1 hu
  rfl), (fun j u hu => ⟨w5.heap.size, 0, rfl, by
  rw [List.getElem?_map] at hu
  have hj : j < q := by
   refine Nat.lt_of_not_le fun hh => ?_
   rw [List.getElem?_eq_none (by simpa using hh)] at hu
   cases hu
  rw [List.getElem?_range hj] at hu
  rw [Nat.zero_add, m6.cell j hj, <- hu]
  rfl⟩), (fun x e => by cases e; rfl)⟩
 have S3 := S0.drop 1 hq.1
 have e3 : ((List.range q).map fun j => Value.int .u64 (pf j : Nat)).drop (1 * 1) = vals .u64 (pkW B) := by
  apply List.ext_getElem?
  intro j
  by_cases hj : j < q - 1
  ·rw [hpk j hj, List.getElem?_drop, List.getElem?_map, List.getElem?_range (by omega), show 1 * 1 + j = j + 1 by omega]
   rfl
  ·rw [List.getElem?_eq_none (by simp; omega), List.getElem?_eq_none (by simp [vals]; omega)]
 rw [e3] at S3
 have CC := cat3_W w6 _ _ _ _ _ _ _ _ _ _ _ _ S1 S2 S3 (by omega)
 have hR := uh HLW
 have eR : vals .u64 [hw] ++ vals .u64 M ++ vals .u64 (pkW B) = vals .u64 R := by rw [hR]; simp [vals]
 have eL : 1 + n + (q - 1) = R.length := by rw [hR]; simp [hml, hq2]; omega
 rw [eR, eL] at CC
 have f06 : St w w6 := f04.trans' f46 nE
 have HF := Hd f06
 clear o4 f04 f5 hiv hpk hq2 f6 f46 o6 S1 S2 S0 S3 e3 hR eR eL f06 m6 HX HPK HLW PK
 refine CC.mono ?_
 rintro e w8 ⟨v, rfl, hv, f8⟩
 go_wp2_with fail
 go_ret
 exact ⟨_, rfl, own_lo hv (uh HF).size, (uh HF).trans' f8 nE⟩

section
theorem hw_parts (h i b : Nat) (hh : h < 256) (hi : i < 256) (hb : b < 65536) : bits .and .u64 (((hwN h i b : Nat) : Int) / 16777216) 255 = (h : Nat) /\ bits .and .u64 (((hwN h i b : Nat) : Int) / 65536) 255 = (i : Nat) /\ bits .and .u64 ((hwN h i b : Nat) : Int) 65535 = (b : Nat) /\ ((hwN h i b : Nat) : Int) / 4294967296 = 1953654117 /\ hwN h i b < 18446744073709551616 := by
 have hl : hwN h i b < 18446744073709551616 := by unfold hwN; omega
 have m8 : ∀ x : Nat, x < 18446744073709551616 -> bits .and .u64 (x : Int) 255 = ((x % 256 : Nat) : Int) := fun x hx => by
  rw [show (255 : Int) = ((255 : Nat) : Int) from rfl, u64_and_nat _ _ hx (by decide), show (255 : Nat) = 2 ^ 8 - 1 from rfl, Nat.and_two_pow_sub_one_eq_mod]
 have m16 : ∀ x : Nat, x < 18446744073709551616 -> bits .and .u64 (x : Int) 65535 = ((x % 65536 : Nat) : Int) := fun x hx => by
  rw [show (65535 : Int) = ((65535 : Nat) : Int) from rfl, u64_and_nat _ _ hx (by decide), show (65535 : Nat) = 2 ^ 16 - 1 from rfl, Nat.and_two_pow_sub_one_eq_mod]
 refine ⟨?_, ?_, ?_, ?_, hl⟩
 ·rw [show ((hwN h i b : Nat) : Int) / 16777216 = ((hwN h i b / 16777216 : Nat) : Int) by omega, m8 _ (by omega)]
  unfold hwN
  congr 1
  omega
 ·rw [show ((hwN h i b : Nat) : Int) / 65536 = ((hwN h i b / 65536 : Nat) : Int) by omega, m8 _ (by omega)]
  unfold hwN
  congr 1
  omega
 ·rw [m16 _ hl]
  unfold hwN
  congr 1
  omega
 ·unfold hwN; omega
section
variable {nu sz : Nat} {w : World} {hb sb b : Nat} {T : Tay} {A : Ab} {P : List (Int × Int)}
set_option maxRecDepth 100000 in
theorem y_headAt (h : Hp nu sz w hb sb b T A P) (p ht i bt : Nat) (h8 : 8 <= p) (m8 : p % 8 = 0) (hpz : p + hsz i bt <= sz) (h1 : 1 <= ht) (h16 : ht <= 16) (hi : i < 256) (hbt : bt < 65536) (hs : hsz i bt <= 32) (hw : says P A p = (hwN ht i bt : Nat)) :
  Calls Tryz.prog 47 #[ptr sb, .int .u64 p] w fun e w' => e = .returned (hdV ht i bt) /\ St w w' := by
 obtain ⟨g1, g2, g3, g4, g5, g6⟩ := h.hp.geo.b
 have hs1 : 1 <= hsz i bt := by unfold hsz need; omega
 have LD : ∀ w1, St w w1 -> Calls Tryz.prog 48 #[ptr sb, .int .i64 p] w1 fun e w' => e = .returned (.int .u64 (hwN ht i bt : Nat)) /\ w' = w1 := fun w1 f1 => by
  have := (h.still f1).load p (by omega)
  rw [hw] at this; exact this
 have SZ : ∀ w1, St w w1 -> Calls Tryz.prog 59 #[ptr sb] w1 fun e w' => e = .returned (.int .i64 sz) /\ w' = w1 := fun w1 f1 => t_size (n := sz) (h.still f1).st.c2
 have HS := y_size ht i bt hi hbt
 obtain ⟨e1, e2, e3, e4, e5⟩ := hw_parts ht i bt (by omega) hi hbt
 have hsz6 : sz < 1000000 := by omega
 have l1 : (8 : Int) <= p := by omega
 have l2 : (p : Int) < sz := by omega
 have l3 : ((p : Int) % 8 == 0) = true := by simp; omega
 have l4 : (1 : Int) <= ht := by omega
 have l5 : (ht : Int) <= 16 := by omega
 have w1 : IntKind.u64.wrap (sz : Int) = sz := by rw [IntKind.wrap_u64]; omega
 have w2 : IntKind.i64.wrap (p : Int) = p := (wrap_small _ (by omega) (by omega)).1
 have w3 : IntKind.i64.wrap (ht : Int) = ht := (wrap_small _ (by omega) (by omega)).1
 have w4 : IntKind.i64.wrap (i : Int) = i := (wrap_small _ (by omega) (by omega)).1
 have w5 : IntKind.i64.wrap (bt : Int) = bt := (wrap_small _ (by omega) (by omega)).1
 have w6 : IntKind.u64.wrap (hsz i bt : Int) = hsz i bt := by rw [IntKind.wrap_u64]; omega
 have w7 : IntKind.u64.wrap ((sz : Int) - p) = (sz : Int) - p := by rw [IntKind.wrap_u64]; omega
 have l6 : (hsz i bt : Int) <= 32 := by omega
 have l7 : (hsz i bt : Int) <= (sz : Int) - p := by omega
 obtain ⟨W, hW⟩ : ∃ W, w.alloc (.cells #[.int .i64 0, .int .i64 0, .int .i64 0] 101) = W := ⟨_, rfl⟩
 have fW : St w W := hW ▸ (Fr.refl _ w).alloc _
 have HLD := Hd (LD W fW); have HSZ := Hd (SZ W fW); have HW := Hd hW
 clear LD SZ hW h hw g1 g2 g3 g4 g5 g6 hpz m8 h8 h1 h16 hs hs1
 generalize hsz i bt = rs at *
 generalize hwN ht i bt = wv at *
 go_enter Tryz.func47, Tryz.ntmps47
 go_wp2_with (first | (rw [uh HW]; go_at_call 59; refine (uh HSZ).mono ?_; rintro e w' ⟨rfl, hh⟩; replace hh := hh.symm; subst hh) | (go_at_call 75; refine (y_must _).mono ?_; rintro e w' ⟨rfl, hh⟩; replace hh := hh.symm; subst hh) | fail)
 refine (uh HLD).mono ?_
 rintro e w' ⟨rfl, hh⟩
 replace hh := hh.symm
 subst hh
 obtain ⟨W2, hW2⟩ : ∃ W2, W.alloc (.cells #[.int .i64 ht, .int .i64 i, .int .i64 bt] 101) = W2 := ⟨_, rfl⟩
 obtain ⟨g, hg⟩ : ∃ g, w.heap.size = g := ⟨_, rfl⟩
 have z1 : W.heap.size = g + 1 := by rw [<- uh HW]; simp [hg]
 have f2 : St W W2 := hW2 ▸ (Fr.refl _ W).alloc _
 have oR : W2.heap[g]? = some (.cells #[.int .i64 0, .int .i64 0, .int .i64 0] 101 (0, 0)) := by
  have := heap_alloc_new w (.cells #[.int .i64 0, .int .i64 0, .int .i64 0] 101)
  rw [uh HW, hg] at this; exact f2.obj this id
 have oP : W2.heap[g + 1]? = some (.cells #[.int .i64 ht, .int .i64 i, .int .i64 bt] 101 (0, 0)) := by
  have := heap_alloc_new W (.cells #[.int .i64 ht, .int .i64 i, .int .i64 bt] 101)
  rw [hW2, z1] at this; exact this
 have d0 : W2.cell? ⟨g + 1, 0, none⟩ = some (.int .i64 ht) := cOo oP 0
 have d1 : W2.cell? ⟨g + 1, 1, none⟩ = some (.int .i64 i) := cOo oP 1
 have d2 : W2.cell? ⟨g + 1, 2, none⟩ = some (.int .i64 bt) := cOo oP 2
 have HX := Hd (ai (fW.trans' f2 nE) (ai oR oP))
 have HW2 := Hd hW2
 clear HLD HSZ HW hW2 f2 oR oP fW
 go_wp2_with fail
 rw [uh HW2]
 refine (y_must _).mono ?_
 rintro e w' ⟨rfl, hh⟩
 replace hh := hh.symm
 subst hh
 clear HW2
 go_wp2_with fail
 refine (HS W2).mono ?_
 rintro e w3 ⟨rfl, f3⟩
 have HY := Hd (fun (w3 : World) (f3 : St W2 w3) => ai (f3.cell' d0 id) (ai (f3.cell' d1 id) (f3.cell' d2 id)))
 clear d0 d1 d2
 obtain ⟨d0, d1, d2⟩ := uh HY w3 f3
 go_wp2_with fail
 refine (HS w3).mono ?_
 rintro e w4 ⟨rfl, f4⟩
 clear d0 d1 d2
 have f24 : St W2 w4 := f3.trans' f4 nE
 obtain ⟨d0, d1, d2⟩ := uh HY w4 f24
 obtain ⟨f02, oR, oP⟩ := uh HX
 have o4 := f24.obj oR id
 have r0 : w4.cell? ⟨g, 0, none⟩ = some (.int .i64 0) := cOo o4 0
 have r1 : w4.cell? ⟨g, 1, none⟩ = some (.int .i64 0) := cOo o4 1
 have r2 : w4.cell? ⟨g, 2, none⟩ = some (.int .i64 0) := cOo o4 2
 have rz : ∀ o, w4.frozen? ⟨g, o, none⟩ = false := fun o => by simp [World.frozen?, o4]
 have HO := Hd (ai o4 (f02.trans' f24 nE))
 clear oR oP o4 f02 f24 f3 f4 HX HY HS
 go_wp2_with (first | (go_at_call 75; refine (y_must _).mono ?_; rintro e w' ⟨rfl, hh⟩; replace hh := hh.symm; subst hh) | fail)
 obtain ⟨o4, f04⟩ := uh HO
 have oF := heap_setCell_same _ g 2 _ _ (.int .i64 (bt : Nat)) (heap_setCell_same _ g 1 _ _ (.int .i64 (i : Nat)) (heap_setCell_same w4 g 0 _ _ (.int .i64 (ht : Nat)) o4))
 have f5 : Fr (fun k => k = g) w4 (((w4.setCell ⟨g, 0, none⟩ (.int .i64 (ht : Nat))).setCell ⟨g, 1, none⟩ (.int .i64 (i : Nat))).setCell ⟨g, 2, none⟩ (.int .i64 (bt : Nat))) := (((Fr.refl (fun k => k = g) w4).setCell (.inl rfl) _).setCell (.inl rfl) _).setCell (.inl rfl) _
 refine bodyPost_ret (results_cell_row Tryz.results47 _ _ g 101 #[.int .i64 ht, .int .i64 i, .int .i64 bt] (0, 0) _ (by rfl) oF Tryz.underlying101 rfl (by kernel_rfl)) rfl ?_
 exact ⟨rfl, f04.trans' f5 (fun k hk => .inr (by rw [hk, hg]; exact Nat.le_refl _))⟩
end
end
theorem sl_pair (w W : World) (p : Pr) (hW : w.alloc (.cells #[.string p.1, .int .u64 (p.2 : Nat)] 43) = W) : Sl W 2 (some ⟨w.heap.size, 0, none⟩) 1 1 (pcl [p]) := by
 have o : W.heap[w.heap.size]? = some (.cells #[.string p.1, .int .u64 (p.2 : Nat)] 43 (0, 0)) := hW ▸ heap_alloc_new w _
 exact ⟨rfl, Nat.le_refl _, (fun e => by cases e), pcl_one, (fun j u hu => ⟨w.heap.size, 0, rfl, by
  rw [Nat.zero_add, cOo o j, <- hu]
  simp [pcl]⟩), (fun x e => by cases e; rfl)⟩
set_option maxRecDepth 100000 in
theorem y_leafOf (ka ia : Option Addr) (kc ic : Nat) (l : List Pr) (w : World) (hK : Sl w 1 ka l.length kc (l.map fun p => .string p.1)) (hI : Sl w 1 ia l.length ic (l.map fun p => .int .u64 (p.2 : Nat))) (h1 : 1 <= l.length) (hl : l.length <= 500) :
  Calls Tryz.prog 132 #[.slice ka l.length kc, .slice ia l.length ic] w fun e w' => ∃ v, e = .returned v /\ w'.ownsRow w.heap.size 43 2 v l.length (pcl l) /\ St w w' := by
 have h1' : (1 : Int) <= l.length := by omega
 go_enter Tryz.func132, Tryz.ntmps132
 go_wp2_with (first | (go_at_call 75; refine (y_must _).mono ?_; rintro e w' ⟨rfl, hh⟩; replace hh := hh.symm; subst hh) | fail)
 go_loopw [5, 21] (fun v i wr => ∃ r : Nat, r <= l.length /\ i = .int .i64 r /\ wr.ownsRow w.heap.size 43 2 v r (pcl (l.take r)) /\ St w wr) (fun _ i _ => l.length - (RowKit.intOf i).toNat)
 case atStart => exact ⟨0, by omega, rfl, World.ownsRow_nil _ _ _ _, Fr.refl _ _⟩
 case round =>
  obtain ⟨r, hrn, rfl, hrow, fr⟩ := hrel
  by_cases hlt : r < l.length
  ·obtain ⟨p, hp⟩ : ∃ p, l[r]? = some p := ⟨_, List.getElem?_eq_getElem hlt⟩
   obtain ⟨b, o, rfl, c1⟩ := hK.cells r (.string p.1) (by rw [List.getElem?_map, hp]; rfl)
   obtain ⟨b2, o2, rfl, c2⟩ := hI.cells r (.int .u64 (p.2 : Nat)) (by rw [List.getElem?_map, hp]; rfl)
   replace c1 := fr.cell' c1 id
   replace c2 := fr.cell' c2 id
   have hlt' : (r : Int) < l.length := by omega
   obtain ⟨W1, hW1⟩ : ∃ W1, wr.alloc (.cells #[.string p.1, .int .u64 (p.2 : Nat)] 43) = W1 := ⟨_, rfl⟩
   have f1 : St wr W1 := hW1 ▸ (Fr.refl _ wr).alloc _
   obtain ⟨v', w2, hap, hw2, hgr, hloc⟩ := run_more elt_P 96 (own_still hrow f1) (sl_pair wr W1 p hW1) (by omega) (Nat.le_trans fr.size f1.size)
   have ht : pcl (l.take (r + 1)) = pcl (l.take r) ++ pcl [p] := by
    rw [List.take_add_one, hp, pcl_app]; rfl
   have HX := Hd (show w2.ownsRow w.heap.size 43 2 v' (r + 1) (pcl (l.take (r + 1))) /\ St w w2 from ⟨by rw [ht]; exact hw2, (fr.trans' f1 nE).grown hgr (fun k hk => .inr (hrow.lt k hk).1)⟩)
   have HAP := Hd hap
   have HW1 := Hd hW1
   clear hK hI hap hw2 hloc hgr hrow ht f1 hW1
   go_wp2_with (first | (at_builtin; rw [uh HW1]; refine wpList_append_run rfl (.tmp 26) (.tmp 33) 96 rfl _ _ rfl rfl v' w2 (uh HAP) ?_) | fail)
   obtain ⟨hw2, f2⟩ := uh HX
   exact ⟨⟨r + 1, by omega, by simp, hw2, f2⟩, by simp [RowKit.intOf]; omega⟩
  ·have e : r = l.length := by omega
   subst e
   clear hK hI
   have hlt' : ¬ (l.length : Int) < l.length := by omega
   go_wp2_with fail
   go_ret
   exact ⟨_, rfl, by simpa using hrow, fr⟩
theorem strB_byF (s : ByteArray) : strB (byF s) s.size = s := by
 apply bytes_ext
 rw [strB, strOfNums_data, List.map_map]
 apply List.ext_getElem?
 intro j
 have hs : s.size = s.data.toList.length := by rw [Array.length_toList]; rfl
 by_cases hj : j < s.data.toList.length
 ·rw [List.getElem?_map, rowL, List.getElem?_map, List.getElem?_range (by omega)]
  show some (UInt8.ofNat ((byF s j : Nat) : Int).toNat) = _
  unfold byF
  rw [Int.toNat_natCast, List.getElem?_eq_getElem hj]
  simp only [List.getD, List.getElem?_eq_getElem hj, Option.getD_some, UInt8.ofNat_toNat]
 ·rw [List.getElem?_eq_none (by simp [rowL]; omega), List.getElem?_eq_none (by omega)]
theorem cat2_W (w : World) (a1 a2 : Option Addr) (n1 n2 c1 c2 : Nat) (X1 X2 : List Value) (S1 : Sl w 1 a1 n1 c1 X1) (S2 : Sl w 1 a2 n2 c2 X2) (hl : n1 + n2 <= 1000000) :
  Calls Tryz.prog 157 #[.slice (some ⟨w.heap.size, 0, none⟩) 2 2] (w.alloc (.cells #[.slice a1 n1 c1, .slice a2 n2 c2] 128)) fun e w' => ∃ v, e = .returned v /\ w'.ownsRow w.heap.size 27 1 v (n1 + n2) (X1 ++ X2) /\ St w w' := by
 obtain ⟨W, hW⟩ : ∃ W, w.alloc (.cells #[.slice a1 n1 c1, .slice a2 n2 c2] 128) = W := ⟨_, rfl⟩
 rw [hW]
 have fW : St w W := hW ▸ (Fr.refl _ w).alloc _
 have oR : W.heap[w.heap.size]? = some (.cells #[.slice a1 n1 c1, .slice a2 n2 c2] 128 (0, 0)) := hW ▸ heap_alloc_new w _
 have K := cat_W (some ⟨w.heap.size, 0, none⟩) 2 2 (fun t => if t = 0 then a1 else a2) (fun t => if t = 0 then n1 else n2) (fun t => if t = 0 then c1 else c2) (fun t => if t = 0 then X1 else X2) W (fun i hi => by
  rcases (show i = 0 \/ i = 1 by omega) with rfl | rfl
  ·exact ⟨⟨w.heap.size, 0, rfl, show W.cell? ⟨w.heap.size, 0, none⟩ = some (.slice a1 n1 c1) from cOo oR 0⟩, S1.still fW⟩
  ·exact ⟨⟨w.heap.size, 0, rfl, show W.cell? ⟨w.heap.size, 1, none⟩ = some (.slice a2 n2 c2) from cOo oR 1⟩, S2.still fW⟩) (by omega) (by simp [offN]; omega)
 refine K.mono ?_
 rintro e w' ⟨u, rfl, hu, f3⟩
 refine ⟨u, rfl, ?_, fW.trans' f3 nE⟩
 have e1 : offN (fun t => if t = 0 then n1 else n2) 2 = n1 + n2 := by simp [offN]
 have e2 : catX (fun t => if t = 0 then X1 else X2) 2 = X1 ++ X2 := by simp [catX]
 rw [e1, e2] at hu
 exact own_lo hu fW.size
theorem pk_nats {w : World} {a : Option Addr} {c lo : Nat} {B : List Nat} (h : w.ownsRow lo 27 1 (.slice a (1 + (pkW B).length) c) (1 + (pkW B).length) (vals .u64 (B.length :: pkW B))) : 1 + (pkW B).length = need B.length /\ Nats .u64 w a (need B.length) (packF (fun t => B.getD t 0) B.length) := by
 have hq : 1 + (pkW B).length = need B.length := by rw [pkW_len]; unfold need; omega
 refine ⟨hq, fun i hi => ?_⟩
 have S := sl_of_row h (vals_one _ _)
 refine S.cells i _ ?_
 cases i with
 | zero => simp [vals, packF]
 | succ j =>
  have : j < (B.length + 7) / 8 := by unfold need at hi; omega
  simp [vals, pkW, this]
theorem unpack_back (a : Option Addr) (c : Nat) (B : List Nat) (w : World) (hN : Nats .u64 w a (need B.length) (packF (fun t => B.getD t 0) B.length)) (hB : ∀ t, B.getD t 0 < 256) (hb : B.length <= 60000) :
  Calls Tryz.prog 164 #[.slice a (need B.length) c] w fun e w' => St w w' /\ ∃ g, e = .returned (.tuple #[.slice (some ⟨g, 0, none⟩) B.length B.length, .int .i64 0]) /\ Nats .u8 w' (some ⟨g, 0, none⟩) B.length (fun t => B.getD t 0) := by
 obtain ⟨p1, p2, p3⟩ := pack_back (fun t => B.getD t 0) B.length (fun i _ => hB i) hb
 refine (unpack_ok a (need B.length) c _ w hN (fun i _ => pack_lt _ _ i (fun t _ => hB t) hb) (by unfold need; omega)).mono ?_
 rintro e w' ⟨bl, ⟨h1, _⟩ | ⟨_, g, rfl, m⟩⟩
 ·exact absurd p1 h1
 ·rw [p2] at m ⊢
  refine ⟨Fr.ofBelow bl, g, rfl, fun i hi => ?_⟩
  obtain ⟨b, o, e, c1⟩ := m.nats i hi
  exact ⟨b, o, e, by rw [c1, p3 i hi]⟩
set_option maxRecDepth 100000 in
theorem y_keysOf (K : List ByteArray) (ht i : Nat) (wa : Option Addr) (wc : Nat) (w : World) (hS : Sl w 1 wa (pkW (jk K)).length wc (vals .u64 (pkW (jk K)))) (hl : K.length <= 100) (hsz : ∀ t, t < K.length -> 1 <= kL K t /\ kL K t <= 80) (hri : ∀ t, t + 1 < K.length -> ltK (K.getD t default) (K.getD (t + 1) default)) (hb : (jk K).length < 60000) :
  Calls Tryz.prog 131 #[hdV ht i (jk K).length, .slice wa (pkW (jk K)).length wc] w fun e w' => ∃ v, e = .returned v /\ w'.ownsRow w.heap.size 9 1 v K.length (K.map Value.string) /\ St w w' := by
 have hB : ∀ t, (jk K).getD t 0 < 256 := fun t => joinF_lt (kL K) (kZ K) K.length t (fun i hi => by have := hsz i hi; omega) (fun i _ t _ => byF_lt _ _)
 have hjl : (jk K).length = offL (kL K) K.length := join_len _ _ _ (fun i hi => by have := hsz i hi; omega)
 have hjf : joinF (kL K) (kZ K) K.length = fun t => (jk K).getD t 0 := rfl
 obtain ⟨B, hBd⟩ : ∃ B, jk K = B := ⟨_, rfl⟩
 rw [hBd] at hS hb hB hjl hjf ⊢
 have hpl := pkW_len B
 have hnd : need B.length <= 10000 := by unfold need; omega
 have w1 : IntKind.u64.wrap (B.length : Int) = B.length := by rw [IntKind.wrap_u64]; omega
 obtain ⟨W, hW⟩ : ∃ W, w.alloc (hdO ht i B.length) = W := ⟨_, rfl⟩
 have fW : St w W := hW ▸ (Fr.refl _ w).alloc _
 obtain ⟨W2, hW2⟩ : ∃ W2, W.alloc (.cells #[.int .u64 (B.length : Nat)] 27) = W2 := ⟨_, rfl⟩
 have f2 : St W W2 := hW2 ▸ (Fr.refl _ W).alloc _
 have o2 : W2.heap[W.heap.size]? = some (.cells #[.int .u64 (B.length : Nat)] 27 (0, 0)) := hW2 ▸ heap_alloc_new W _
 have f02 : St w W2 := fW.trans' f2 nE
 have S1 : Sl W2 1 (some ⟨W.heap.size, 0, none⟩) 1 1 (vals .u64 [B.length]) := ⟨rfl, Nat.le_refl _, (fun e => by cases e), vals_one _ _, (fun j u hu => ⟨W.heap.size, 0, rfl, by
  rw [Nat.zero_add, cOo o2 j, <- hu]
  simp [vals]⟩), (fun x e => by cases e; rfl)⟩
 have CC := cat2_W W2 _ _ _ _ _ _ _ _ S1 (hS.still f02) (by omega)
 have z1 : W.heap.size = w.heap.size + 1 := by rw [<- hW]; simp
 have z2 : W2.heap.size = w.heap.size + 1 + 1 := by rw [<- hW2]; simp [z1]
 rw [z1] at CC
 rw [show #[Value.slice (some ⟨W2.heap.size, 0, none⟩) 2 2] = #[Value.slice (some ⟨w.heap.size + 1 + 1, 0, none⟩) 2 2] by rw [z2]] at CC
 have HC := Hd CC
 have HW := Hd (ai hW hW2)
 have HF := Hd f02
 have UB := @Hd _ (fun (a : Option Addr) (c : Nat) (w' : World) (hN : Nats .u64 w' a (need B.length) (packF (fun t => B.getD t 0) B.length)) => unpack_back a c B w' hN hB (by omega))
 have SP := @Hd _ (fun (a : Option Addr) (c : Nat) (w' : World) (hN : Nats .u8 w' a B.length (fun t => B.getD t 0)) (hc : B.length <= c) => split_all a B.length c K.length (kL K) (kZ K) w' (hjf ▸ hN) hjl hc (by omega) (fun i hi => by have := hsz i hi; omega) (by omega))
 clear CC hW hW2 fW f2 o2 f02 S1 hS hjl hjf hB hpl hnd
 unfold hdV
 go_enter Tryz.func131, Tryz.ntmps131
 go_wp2_with fail
 rw [(uh HW).1, (uh HW).2]
 refine (uh HC).mono ?_
 rintro e w3 ⟨v3, rfl, h3, f3⟩
 clear HC HW
 obtain ⟨a3, c3, rfl⟩ := rows_form h3
 obtain ⟨hq, hN⟩ := pk_nats (B := B) (by simpa [vals] using h3)
 rw [hq]
 have UB3 := uh UB a3 c3 w3 hN
 clear h3 hN UB
 go_wp2_with fail
 refine UB3.mono ?_
 rintro e w4 ⟨f4, g4, rfl, hN4⟩
 have SP4 := uh SP (some ⟨g4, 0, none⟩) B.length w4 hN4 (Nat.le_refl _)
 have f04 : St w w4 := ((uh HF).trans' f3 nE).trans' f4 nE
 have HF4 := Hd f04
 clear SP UB3 hN4 f3 f4 f04 HF
 go_wp2_with (first | (go_at_call 75; refine (y_must _).mono ?_; rintro e w' ⟨rfl, hh⟩; replace hh := hh.symm; subst hh) | fail)
 refine SP4.mono ?_
 rintro e w5 ⟨G, pv, rfl, f5, hpv, hG⟩
 obtain ⟨pa, pc, rfl⟩ := rows_form hpv
 have f05 : St w w5 := (uh HF4).trans' f5 nE
 have hSP := sl_of_row hpv (fun u hu => by
  obtain ⟨t, _, rfl⟩ := List.mem_map.1 hu
  rfl)
 have HY := @Hd _ (fun (r : Nat) (hr : r < K.length) (wr : World) (fr : St w5 wr) => show (∃ b o, pa = some ⟨b, o, none⟩ /\ wr.cell? ⟨b, o + r, none⟩ = some (.slice (some ⟨G r, 0, none⟩) (kL K r) (kL K r))) /\ (convert 80 9 (.slice (some ⟨G r, 0, none⟩) (kL K r) (kL K r))).run Tryz.prog wr = .ok (.string (K.getD r default)) wr from by
  obtain ⟨b, o, e, c⟩ := hSP.cells r (.slice (some ⟨G r, 0, none⟩) (kL K r) (kL K r)) (by simp [ptsV, hr])
  refine ⟨⟨b, o, e, fr.cell' c id⟩, ?_⟩
  rw [conv_str wr _ _ _ (kZ K r) (((hG r hr).2.2.kept fr id).nats)]
  unfold kZ kL
  rw [strB_byF])
 have HF5 := Hd f05
 clear SP4 hpv hG hSP f5 f05 HF4
 go_wp2_with (first | (go_at_call 75; refine (y_must _).mono ?_; rintro e w' ⟨rfl, hh⟩; replace hh := hh.symm; subst hh) | fail)
 go_loopw [8, 36] (fun v i wr => ∃ r : Nat, r <= K.length /\ i = .int .i64 r /\ wr.ownsRow w5.heap.size 9 1 v r ((K.take r).map Value.string) /\ St w5 wr) (fun _ i _ => K.length - (RowKit.intOf i).toNat)
 case atStart => exact ⟨0, by omega, rfl, World.ownsRow_nil _ _ _ _, Fr.refl _ _⟩
 case round =>
  obtain ⟨r, hrn, rfl, hrow, fr⟩ := hrel
  by_cases hlt : r < K.length
  ·obtain ⟨⟨b, o, rfl, c1⟩, cv⟩ := uh HY r hlt wr fr
   obtain ⟨s1, s2⟩ := hsz r hlt
   have hlt' : (r : Int) < K.length := by omega
   obtain ⟨x, hx⟩ : ∃ x, K.getD r default = x := ⟨_, rfl⟩
   have hxs : kL K r = x.size := by unfold kL; rw [hx]
   have hKr : K[r]? = some x := by
    rw [List.getElem?_eq_getElem hlt, <- hx]
    simp [List.getD, List.getElem?_eq_getElem hlt]
   rw [hxs] at c1 cv s1 s2
   rw [hx] at cv
   have s1' : (1 : Int) <= x.size := by omega
   have s2' : (x.size : Int) <= 80 := by omega
   obtain ⟨v', w2, hap, hw2, f2, hloc⟩ := run_val infoT rfl (by decide) Tryz.underlying89 wr w5.heap.size _ r _ hrow (.string x) rfl (by omega) fr.size
   have htk : (K.take (r + 1)).map Value.string = (K.take r).map Value.string ++ [.string x] := by
    rw [List.take_add_one, hKr]; simp
   have HX := Hd (show w2.ownsRow w5.heap.size 9 1 v' (r + 1) ((K.take (r + 1)).map Value.string) /\ St w5 w2 from ⟨by rw [htk]; exact hw2, fr.trans' f2 (fun k hk => .inr (hrow.lt k hk).1)⟩)
   have HAP := Hd hap
   have HCV := Hd cv
   by_cases hr0 : r = 0
   ·have e0 : ((r : Int) == 0) = true := by simp [hr0]
    clear hap cv hw2 f2 hloc htk HY hrow hsz hri hKr hx hxs hr0
    go_wp2_with fail
    rw [uh HCV]
    go_wp2_with (first | (go_at_call 75; refine (y_must _).mono ?_; rintro e w' ⟨rfl, hh⟩; replace hh := hh.symm; subst hh) | (at_builtin; refine wpList_append_run rfl (.tmp 65) (.tmp 67) 89 rfl _ _ rfl rfl v' w2 (uh HAP) ?_) | fail)
    obtain ⟨hw2, f2⟩ := uh HX
    exact ⟨⟨r + 1, by omega, by simp, hw2, f2⟩, by simp [RowKit.intOf]; omega⟩
   ·have e0 : ((r : Int) == 0) = false := by simp [hr0]
    obtain ⟨va, vc, rfl⟩ := rows_form hrow
    obtain ⟨y, hy⟩ : ∃ y, K.getD (r - 1) default = y := ⟨_, rfl⟩
    have hKy : K[r - 1]? = some y := by
     rw [List.getElem?_eq_getElem (by omega), <- hy]
     simp [List.getD, List.getElem?_eq_getElem (show r - 1 < K.length by omega)]
    obtain ⟨b3, o3, rfl, c3'⟩ := (sl_of_row hrow (fun u hu => by
     obtain ⟨t, _, rfl⟩ := List.mem_map.1 hu
     rfl)).cells (r - 1) (.string y) (by rw [List.getElem?_map, List.getElem?_take, if_pos (by omega), hKy]; rfl)
    have hyx : Op.bytesLess y.toList x.toList = true := by
     have := hri (r - 1) (by omega)
     rw [show r - 1 + 1 = r by omega, hx, hy] at this
     rw [less_eq, decide_eq_true this]
    have em : IntKind.i64.wrap ((r : Int) - 1) = ((r - 1 : Nat) : Int) := by rw [IntKind.wrap_i64]; omega
    have em' : (r : Int) - 1 = ((r - 1 : Nat) : Int) := by omega
    have em2 : ((r - 1 : Nat) : Int) < r := by omega
    clear hap cv hw2 f2 hloc htk HY hrow hsz hri hKr hx hxs hr0 hy hKy
    go_wp2_with fail
    rw [uh HCV]
    go_wp2_with (first | (go_at_call 75; refine (y_must _).mono ?_; rintro e w' ⟨rfl, hh⟩; replace hh := hh.symm; subst hh) | (at_builtin; refine wpList_append_run rfl (.tmp 65) (.tmp 67) 89 rfl _ _ rfl rfl v' w2 (uh HAP) ?_) | fail)
    obtain ⟨hw2, f2⟩ := uh HX
    exact ⟨⟨r + 1, by omega, by simp, hw2, f2⟩, by simp [RowKit.intOf]; omega⟩
  ·have e : r = K.length := by omega
   subst e
   clear HY
   have hlt' : ¬ (K.length : Int) < K.length := by omega
   go_wp2_with fail
   go_ret
   exact ⟨_, rfl, own_lo (by simpa using hrow) (uh HF5).size, (uh HF5).trans' fr nE⟩
def Blw (l : List Pr) (b : ByteArray) : Prop := ∀ p ∈ l, ltK p.1 b
def Nbl (l : List Pr) (b : ByteArray) : Prop := ∀ p ∈ l, ¬ ltK p.1 b
def Rise (l : List Pr) : Prop := l.Pairwise fun p q => ltK p.1 q.1
def putP (l : List Pr) (x : ByteArray) (v : Nat) : List Pr := match l with
 | [] => [(x, v)]
 | p :: l => if ltK p.1 x then p :: putP l x v else if p.1 = x then (x, v) :: l else (x, v) :: p :: l
theorem putP_left {x : ByteArray} {v : Nat} {M : List Pr} : ∀ {L : List Pr}, Blw L x -> putP (L ++ M) x v = L ++ putP M x v
 | [], _ => rfl
 | p :: L, h => by
  rw [List.cons_append, putP, if_pos (h p (List.mem_cons_self ..)), putP_left (fun q hq => h q (List.mem_cons_of_mem _ hq)), List.cons_append]
theorem putP_front {x : ByteArray} {v : Nat} : ∀ {R : List Pr}, (∀ p ∈ R, ltK x p.1) -> putP R x v = (x, v) :: R
 | [], _ => rfl
 | p :: R, h => by
  have h1 := h p (List.mem_cons_self ..)
  rw [putP, if_neg (ltK_asym h1), if_neg (fun e => ltK_irr x (by rw [e] at h1; exact h1))]
theorem putP_right {x : ByteArray} {v : Nat} {R : List Pr} (hR : ∀ p ∈ R, ltK x p.1) : ∀ {M : List Pr}, putP (M ++ R) x v = putP M x v ++ R
 | [] => by rw [List.nil_append, putP_front hR]; rfl
 | p :: M => by
  rw [List.cons_append, putP, putP]
  split
  ·rw [putP_right hR, List.cons_append]
  ·split <;> rfl
theorem putP_ne (l : List Pr) (x : ByteArray) (v : Nat) : putP l x v ≠ [] := by
 cases l with
 | nil => simp [putP]
 | cons p l =>
  unfold putP
  split
  ·simp
  ·split <;> simp
theorem putP_mem {x : ByteArray} {v : Nat} {q : Pr} : ∀ {l : List Pr}, q ∈ putP l x v -> q = (x, v) \/ q ∈ l
 | [], h => by simpa [putP] using h
 | p :: l, h => by
  unfold putP at h
  split at h
  ·rcases List.mem_cons.1 h with h | h
   ·exact .inr (h ▸ List.mem_cons_self ..)
   ·rcases putP_mem h with h | h
    ·exact .inl h
    ·exact .inr (List.mem_cons_of_mem _ h)
  ·split at h
   ·rcases List.mem_cons.1 h with h | h
    ·exact .inl h
    ·exact .inr (List.mem_cons_of_mem _ h)
   ·rcases List.mem_cons.1 h with h | h
    ·exact .inl h
    ·exact .inr h
theorem putP_rise {x : ByteArray} {v : Nat} : ∀ {l : List Pr}, Rise l -> Rise (putP l x v)
 | [], _ => List.pairwise_singleton ..
 | p :: l, h => by
  obtain ⟨h1, h2⟩ := List.pairwise_cons.1 h
  unfold putP
  split
  ·next hp =>
   refine List.pairwise_cons.2 ⟨fun q hq => ?_, putP_rise h2⟩
   rcases putP_mem hq with rfl | hq
   ·exact hp
   ·exact h1 q hq
  ·split
   ·next hp he => exact List.pairwise_cons.2 ⟨fun q hq => by rw [<- he]; exact h1 q hq, h2⟩
   ·next hp he =>
    have hx : ltK x p.1 := Decidable.byContradiction fun hn => he (ltK_tri hp hn)
    refine List.pairwise_cons.2 ⟨fun q hq => ?_, h⟩
    rcases List.mem_cons.1 hq with rfl | hq
    ·exact hx
    ·exact ltK_trans hx (h1 q hq)
theorem putP_len (x : ByteArray) (v : Nat) : ∀ l : List Pr, (putP l x v).length <= l.length + 1
 | [] => Nat.le_refl _
 | p :: l => by
  unfold putP
  split
  ·have := putP_len x v l
   simp; omega
  ·split <;> simp
def Sep : List ByteArray -> List (List Pr) -> Prop
 | [], [m] => m ≠ []
 | b :: B, m :: M => m ≠ [] /\ Blw m b /\ Nbl M.flatten b /\ Sep B M
 | _, _ => False
theorem Sep.len : ∀ {B : List ByteArray} {M : List (List Pr)}, Sep B M -> M.length = B.length + 1
 | [], [_], _ => rfl
 | _ :: B, _ :: M, h => by simp [Sep.len h.2.2.2]
 | [], [], h => h.elim
 | [], _ :: _ :: _, h => h.elim
 | _ :: _, [], h => h.elim
theorem Sep.some : ∀ {B : List ByteArray} {M : List (List Pr)}, Sep B M -> ∃ p m M', M = m :: M' /\ p ∈ m
 | [], [m], h => by
  obtain ⟨p, hp⟩ := List.exists_mem_of_ne_nil m h
  exact ⟨p, m, [], rfl, hp⟩
 | _ :: B, m :: M, h => by
  obtain ⟨p, hp⟩ := List.exists_mem_of_ne_nil m h.1
  exact ⟨p, m, M, rfl, hp⟩
 | [], [], h => h.elim
 | [], _ :: _ :: _, h => h.elim
 | _ :: _, [], h => h.elim
theorem Sep.ne : ∀ {B : List ByteArray} {M : List (List Pr)}, Sep B M -> ∀ m ∈ M, m ≠ []
 | [], [m], h, x, hx => by
  rcases List.mem_singleton.1 hx with rfl
  exact h
 | _ :: B, m :: M, h, x, hx => by
  rcases List.mem_cons.1 hx with rfl | hx
  ·exact h.1
  ·exact h.2.2.2.ne x hx
 | [], [], h, _, _ => h.elim
 | [], _ :: _ :: _, h, _, _ => h.elim
 | _ :: _, [], h, _, _ => h.elim
theorem sep_join {b : ByteArray} {B2 : List ByteArray} {M2 : List (List Pr)} (h2 : Sep B2 M2) (hn : Nbl M2.flatten b) : ∀ {B1 : List ByteArray} {M1 : List (List Pr)}, Sep B1 M1 -> Blw M1.flatten b -> Sep (B1 ++ b :: B2) (M1 ++ M2)
 | [], [m], h1, hb => ⟨h1, (fun p hp => hb p (by simpa using hp)), hn, h2⟩
 | b1 :: B1, m :: M1, h1, hb => by
  have hb' : Blw M1.flatten b := fun p hp => hb p (by rw [List.flatten_cons]; exact List.mem_append_right _ hp)
  refine ⟨h1.1, h1.2.1, fun p hp => ?_, sep_join h2 hn h1.2.2.2 hb'⟩
  replace hp : p ∈ (M1 ++ M2).flatten := hp
  rw [List.flatten_append] at hp
  rcases List.mem_append.1 hp with hp | hp
  ·exact h1.2.2.1 p hp
  ·obtain ⟨q, m', M', e, hq⟩ := h1.2.2.2.some
   have hq' : q ∈ M1.flatten := by rw [e, List.flatten_cons]; exact List.mem_append_left _ hq
   exact fun hl => hn p hp (ltK_trans hl (ltK_le_trans (h1.2.2.1 q hq') (hb' q hq')))
 | [], [], h, _ => h.elim
 | [], _ :: _ :: _, h, _ => h.elim
 | _ :: _, [], h, _ => h.elim
theorem sep_split {b : ByteArray} {B2 : List ByteArray} : ∀ {B1 : List ByteArray} {M1 M2 : List (List Pr)}, M1.length = B1.length + 1 -> Sep (B1 ++ b :: B2) (M1 ++ M2) -> Sep B1 M1 /\ Sep B2 M2 /\ Blw M1.flatten b /\ Nbl M2.flatten b
 | [], [m], M2, _, h => ⟨h.1, h.2.2.2, (fun p hp => h.2.1 p (by simpa using hp)), h.2.2.1⟩
 | b1 :: B1, m :: M1, M2, hl, h => by
  obtain ⟨s1, s2, s3, s4⟩ := sep_split (by simpa using hl) h.2.2.2
  refine ⟨⟨h.1, h.2.1, fun p hp => h.2.2.1 p (show p ∈ (M1 ++ M2).flatten by rw [List.flatten_append]; exact List.mem_append_left _ hp), s1⟩, s2, fun p hp => ?_, s4⟩
  rw [List.flatten_cons] at hp
  rcases List.mem_append.1 hp with hp | hp
  ·obtain ⟨q, m', M', e, hq⟩ := s1.some
   have hq' : q ∈ M1.flatten := by rw [e, List.flatten_cons]; exact List.mem_append_left _ hq
   exact ltK_trans (h.2.1 p hp) (ltK_le_trans (h.2.2.1 q (show q ∈ (M1 ++ M2).flatten by rw [List.flatten_append]; exact List.mem_append_left _ hq')) (s3 q hq'))
  ·exact s3 p hp
 | [], [], _, hl, _ => by simp at hl
 | [], _ :: _ :: _, _, hl, _ => by simp at hl
 | _ :: _, [], _, hl, _ => by simp at hl
theorem Sep.rise : ∀ {B : List ByteArray} {M : List (List Pr)}, Sep B M -> B.Pairwise ltK
 | [], _, _ => List.Pairwise.nil
 | [b], _, _ => List.pairwise_singleton ..
 | b :: b' :: B, m :: M, h => by
  have ih := Sep.rise h.2.2.2
  have hb : ltK b b' := by
   obtain ⟨q, m', M', rfl, hq⟩ := h.2.2.2.some
   exact ltK_le_trans (h.2.2.1 q (by rw [List.flatten_cons]; exact List.mem_append_left _ hq)) (h.2.2.2.2.1 q hq)
  refine List.pairwise_cons.2 ⟨fun c hc => ?_, ih⟩
  rcases List.mem_cons.1 hc with rfl | hc
  ·exact hb
  ·exact ltK_trans hb ((List.pairwise_cons.1 ih).1 c hc)
 | _ :: _, [], h => h.elim
structure Way (B : List ByteArray) (x : ByteArray) (i : Nat) : Prop where
 le : i <= B.length
 lo : ∀ t, t < i -> ¬ ltK x (B.getD t default)
 hi : ∀ t, i <= t -> t < B.length -> ltK x (B.getD t default)
theorem getD_split {α : Type} (B : List α) (d : α) (i : Nat) (hi : i < B.length) : B = B.take i ++ B.getD i d :: B.drop (i + 1) := by
 have : B.getD i d = B[i] := by simp [List.getD, List.getElem?_eq_getElem hi]
 rw [this, List.getElem_cons_drop, List.take_append_drop]
theorem Way.ahead {B : List ByteArray} {x : ByteArray} {i : Nat} {M : List (List Pr)} (w : Way B x i) (h : Sep B M) : Blw (M.take i).flatten x := by
 by_cases h0 : i = 0
 ·subst h0
  intro p hp
  simp at hp
 ·have hl := h.len
  have hle := w.le
  rw [getD_split B default (i - 1) (by omega), <- List.take_append_drop i M] at h
  obtain ⟨_, _, s3, _⟩ := sep_split (by simp; omega) h
  exact fun p hp => ltK_trans_le (s3 p hp) (w.lo (i - 1) (by omega))
theorem Way.behind {B : List ByteArray} {x : ByteArray} {i : Nat} {M : List (List Pr)} (w : Way B x i) (h : Sep B M) : ∀ p ∈ (M.drop (i + 1)).flatten, ltK x p.1 := by
 have hl := h.len
 by_cases h0 : i < B.length
 ·rw [getD_split B default i h0, <- List.take_append_drop (i + 1) M] at h
  obtain ⟨_, _, _, s4⟩ := sep_split (by simp; omega) h
  exact fun p hp => ltK_trans_le (w.hi i (Nat.le_refl _) h0) (s4 p hp)
 ·intro p hp
  rw [List.drop_eq_nil_of_le (by omega)] at hp
  simp at hp
theorem putP_way {B : List ByteArray} {x : ByteArray} {v i : Nat} {M : List (List Pr)} (w : Way B x i) (h : Sep B M) : putP M.flatten x v = (M.take i).flatten ++ (putP (M.getD i []) x v ++ (M.drop (i + 1)).flatten) := by
 have hl := h.len
 have hle := w.le
 have hs := getD_split M [] i (by omega)
 have e : M.flatten = (M.take i).flatten ++ (M.getD i [] ++ (M.drop (i + 1)).flatten) := by
  rw [<- List.flatten_cons, <- List.flatten_append, <- hs]
 rw [e, putP_left (w.ahead h), putP_right (w.behind h)]
theorem sep_replace {B : List ByteArray} {i : Nat} {M : List (List Pr)} {B' : List ByteArray} {M' : List (List Pr)} (h : Sep B M) (hi : i <= B.length) (h' : Sep B' M') (hlo : 0 < i -> Nbl M'.flatten (B.getD (i - 1) default)) (hhi : i < B.length -> Blw M'.flatten (B.getD i default)) : Sep (B.take i ++ (B' ++ B.drop i)) (M.take i ++ (M' ++ M.drop (i + 1))) := by
 have hl := h.len
 have hR : Sep (B' ++ B.drop i) (M' ++ M.drop (i + 1)) /\ (i < B.length -> ∀ p ∈ (M.drop (i + 1)).flatten, ¬ ltK p.1 (B.getD i default)) := by
  by_cases h0 : i < B.length
  ·have h2 := h
   rw [getD_split B default i h0, <- List.take_append_drop (i + 1) M] at h2
   obtain ⟨_, s2, _, s4⟩ := sep_split (by simp; omega) h2
   refine ⟨?_, fun _ => s4⟩
   rw [show B.drop i = B.getD i default :: B.drop (i + 1) by
    have : B.getD i default = B[i] := by simp [List.getD, List.getElem?_eq_getElem h0]
    rw [this, List.getElem_cons_drop]]
   exact sep_join s2 s4 h' (hhi h0)
  ·rw [List.drop_eq_nil_of_le (by omega), List.drop_eq_nil_of_le (by omega), List.append_nil, List.append_nil]
   exact ⟨h', fun hh => absurd hh h0⟩
 by_cases h0 : i = 0
 ·subst h0
  simpa using hR.1
 ·have h2 := h
  rw [getD_split B default (i - 1) (by omega), <- List.take_append_drop i M] at h2
  obtain ⟨s1, _, s3, s4⟩ := sep_split (by simp; omega) h2
  have e1 : B.take i = B.take (i - 1) ++ [B.getD (i - 1) default] := by
   have : B.getD (i - 1) default = B[i - 1] := by simp [List.getD, List.getElem?_eq_getElem (show i - 1 < B.length by omega)]
   rw [this, List.take_append_getElem, show i - 1 + 1 = i by omega]
  rw [e1, List.append_assoc]
  refine sep_join hR.1 (fun p hp => ?_) s1 s3
  rw [List.flatten_append] at hp
  rcases List.mem_append.1 hp with hp | hp
  ·exact hlo (by omega) p hp
  ·refine s4 p ?_
   have : M.drop i = M[i]'(by omega) :: M.drop (i + 1) := (List.getElem_cons_drop ..).symm
   rw [this, List.flatten_cons]
   exact List.mem_append_right _ hp
end Go.Proofs.YtbpndmghlnadiaaGreatDoor
