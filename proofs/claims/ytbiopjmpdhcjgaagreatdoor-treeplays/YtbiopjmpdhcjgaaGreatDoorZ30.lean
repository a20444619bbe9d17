/- Joined: Da Db. -/
import Derived.Test.YtbiopjmpdhcjgaaGreatDoorZ21
namespace Go.Proofs.YtbiopjmpdhcjgaaGreatDoor
open Go.RowKit
set_option maxHeartbeats 4000000
theorem cat2g_P (W:World) (g:Nat) (a1 a2:Option Addr) (n1 n2 c1 c2:Nat) (X1 X2:List Value) (oR:W.heap[g]? = some (.cells #[.slice a1 n1 c1,.slice a2 n2 c2] 100 (0,0))) (S1:Sl W 2 a1 n1 c1 X1) (S2:Sl W 2 a2 n2 c2 X2) (hl:n1+n2<=1000000) :
  Calls Tryz.prog 141 #[.slice (some ⟨g,0,none⟩) 2 2] W fun e w'=>∃v,e = .returned v/\w'.ownsRow W.heap.size 43 2 v (n1+n2) (X1 ++ X2)/\St W w':=by
 have K:=cat_P (some ⟨g,0,none⟩) 2 2 (fun t=>if t=0 then a1 else a2) (fun t=>if t=0 then n1 else n2) (fun t=>if t=0 then c1 else c2) (fun t=>if t=0 then X1 else X2) W (fun i hi=>by
  rcases (show i=0\/i=1 by omega) with rfl | rfl
  ·exact⟨⟨g,0,rfl,show W.cell? ⟨g,0,none⟩=some (.slice a1 n1 c1) from cOo oR 0⟩,S1⟩
  ·exact⟨⟨g,0,rfl,show W.cell? ⟨g,1,none⟩=some (.slice a2 n2 c2) from cOo oR 1⟩,S2⟩) (by omega) (by simp[offN];omega)
 refine K.mono ?_
 rintro e w' ⟨u,rfl,hu,f3⟩
 refine⟨u,rfl,?_,f3⟩
 have e1:offN (fun t=>if t=0 then n1 else n2) 2=n1+n2:=by simp[offN]
 have e2:catX (fun t=>if t=0 then X1 else X2) 2=X1 ++ X2:=by simp[catX]
 rw[e1,e2] at hu
 exact hu
theorem cat2g_S (W:World) (g:Nat) (a1 a2:Option Addr) (n1 n2 c1 c2:Nat) (X1 X2:List Value) (oR:W.heap[g]? = some (.cells #[.slice a1 n1 c1,.slice a2 n2 c2] 93 (0,0))) (S1:Sl W 1 a1 n1 c1 X1) (S2:Sl W 1 a2 n2 c2 X2) (hl:n1+n2<=1000000) :
  Calls Tryz.prog 180 #[.slice (some ⟨g,0,none⟩) 2 2] W fun e w'=>∃v,e = .returned v/\w'.ownsRow W.heap.size 9 1 v (n1+n2) (X1 ++ X2)/\St W w':=by
 have K:=cat_S (some ⟨g,0,none⟩) 2 2 (fun t=>if t=0 then a1 else a2) (fun t=>if t=0 then n1 else n2) (fun t=>if t=0 then c1 else c2) (fun t=>if t=0 then X1 else X2) W (fun i hi=>by
  rcases (show i=0\/i=1 by omega) with rfl | rfl
  ·exact⟨⟨g,0,rfl,show W.cell? ⟨g,0,none⟩=some (.slice a1 n1 c1) from cOo oR 0⟩,S1⟩
  ·exact⟨⟨g,0,rfl,show W.cell? ⟨g,1,none⟩=some (.slice a2 n2 c2) from cOo oR 1⟩,S2⟩) (by omega) (by simp[offN];omega)
 refine K.mono ?_
 rintro e w' ⟨u,rfl,hu,f3⟩
 refine⟨u,rfl,?_,f3⟩
 have e1:offN (fun t=>if t=0 then n1 else n2) 2=n1+n2:=by simp[offN]
 have e2:catX (fun t=>if t=0 then X1 else X2) 2=X1 ++ X2:=by simp[catX]
 rw[e1,e2] at hu
 exact hu
theorem cat2g_K (W:World) (g:Nat) (a1 a2:Option Addr) (n1 n2 c1 c2:Nat) (X1 X2:List Value) (oR:W.heap[g]? = some (.cells #[.slice a1 n1 c1,.slice a2 n2 c2] 94 (0,0))) (S1:Sl W 2 a1 n1 c1 X1) (S2:Sl W 2 a2 n2 c2 X2) (hl:n1+n2<=1000000) :
  Calls Tryz.prog 181 #[.slice (some ⟨g,0,none⟩) 2 2] W fun e w'=>∃v,e = .returned v/\w'.ownsRow W.heap.size 123 2 v (n1+n2) (X1 ++ X2)/\St W w':=by
 have K:=cat_K (some ⟨g,0,none⟩) 2 2 (fun t=>if t=0 then a1 else a2) (fun t=>if t=0 then n1 else n2) (fun t=>if t=0 then c1 else c2) (fun t=>if t=0 then X1 else X2) W (fun i hi=>by
  rcases (show i=0\/i=1 by omega) with rfl | rfl
  ·exact⟨⟨g,0,rfl,show W.cell? ⟨g,0,none⟩=some (.slice a1 n1 c1) from cOo oR 0⟩,S1⟩
  ·exact⟨⟨g,0,rfl,show W.cell? ⟨g,1,none⟩=some (.slice a2 n2 c2) from cOo oR 1⟩,S2⟩) (by omega) (by simp[offN];omega)
 refine K.mono ?_
 rintro e w' ⟨u,rfl,hu,f3⟩
 refine⟨u,rfl,?_,f3⟩
 have e1:offN (fun t=>if t=0 then n1 else n2) 2=n1+n2:=by simp[offN]
 have e2:catX (fun t=>if t=0 then X1 else X2) 2=X1 ++ X2:=by simp[catX]
 rw[e1,e2] at hu
 exact hu
set_option maxRecDepth 100000 in
theorem l_without (a:Option Addr) (c:Nat) (l:List Pr) (x:ByteArray) (k:Nat) (w:World) (h:Lf w a c l) (hl:l.length<=500) (hk:k<l.length) (h1:∀t,t<k->ltK (l.getD t default).1 x) (h2:∀t,k<=t->t<l.length->¬ltK (l.getD t default).1 x) (he:(l.getD k default).1=x) :
  Calls Tryz.prog 101 #[.slice a l.length c,.string x] w fun e w'=>∃u,e = .returned u/\w'.ownsRow w.heap.size 43 2 u (l.take k ++ l.drop (k+1)).length (pcl (l.take k ++ l.drop (k+1)))/\St w w':=by
 have FD:=l_find a l.length c (fun t=>(l.getD t default).1) (fun t=>(l.getD t default).2) x k w (fun i hi=>h.pair (p:=l.getD i default) (by simp[List.getD,List.getElem?_eq_getElem hi])) (by omega) (by omega) h1 h2
 rw[decide_eq_true ⟨hk,he⟩] at FD
 have hc:=h.cap
 have s1:=fun w=>slice_toZ elt_P elem_leaf a l.length c k w (by omega)
 have s2:=fun w=>(show(Instr.slice 100 (.slice a l.length c) (some (.int .i64 ((k:Int)+1))) none none).run Tryz.prog w=_ from slice_fromZ elt_P elem_leaf a l.length c (k+1) w (by omega))
 have S1:=h.take (k:=k) (by omega)
 have S2:=h.drop (k+1) (by omega)
 rw[pcl_take] at S1
 rw[pcl_drop] at S2
 have MB:=fun w=>y_must w
 have HL:(l.take k ++ l.drop (k+1)).length=k+(l.length - (k+1)):=by simp;omega
 have HP:pcl (l.take k ++ l.drop (k+1))=pcl (l.take k) ++ pcl (l.drop (k+1)):=pcl_app _ _
 rw[HL,HP]
 have CT:∀w1,St w w1->Calls Tryz.prog 141 #[.slice (some ⟨w1.heap.size,0,none⟩) 2 2] (w1.alloc (.cells #[.slice a k c,.slice (cutZ 2 a c (k+1)) (l.length - (k+1)) (c - (k+1))] 100)) fun e w'=>∃u,e = .returned u/\w'.ownsRow w.heap.size 43 2 u (k+(l.length - (k+1))) (pcl (l.take k) ++ pcl (l.drop (k+1)))/\St w w':=by
  intro w1 f1
  obtain⟨W,hW⟩:∃W,w1.alloc (.cells #[.slice a k c,.slice (cutZ 2 a c (k+1)) (l.length - (k+1)) (c - (k+1))] 100)=W:=⟨_,rfl⟩
  have fW:St w1 W:=hW▸(Fr.refl _ w1).alloc _
  have f2:St w W:=f1.trans' fW nE
  rw[hW]
  refine(cat2g_P W w1.heap.size a _ k _ c _ _ _ (hW▸heap_alloc_new w1 _) (S1.still f2) (S2.still f2) (by omega)).mono ?_
  rintro e w' ⟨u,rfl,hu,f3⟩
  exact⟨u,rfl,own_lo hu f2.size,f2.trans' f3 nE⟩
 have HCT:=@Hd _ CT;have HFD:=Hd FD;have HMB:=@Hd _ MB
 have wk:IntKind.i64.wrap ((k:Int)+1)=(k:Int)+1:=by rw[IntKind.wrap_i64];omega
 clear CT S1 S2 HP HL h FD MB h1 h2 he hl hc hk
 go_enter Tryz.func101,Tryz.ntmps101
 go_wp2_with fail
 refine(uh HFD).mono ?_
 rintro e w1 ⟨rfl,f1⟩
 go_wp2_with fail
 refine(uh HMB w1).mono ?_
 rintro e w2 ⟨rfl,rfl⟩
 clear HFD HMB
 go_wp2_with fail
 refine wp_region_held_drew (S:=fun _=>True) (by kernel_rfl) trivial (fun hHeld=>?_)
 refine tkO 0 ?_ hHeld rfl ?_ ?_
 rotate_left
 ·intro w q;go_simp;try with_reducible rfl
 simp only[apt,List.set]
 refine tkO 1 ?_ hHeld rfl ?_ ?_
 rotate_left
 ·intro w q;go_simp;try with_reducible rfl
 simp only[apt,List.set]
 refine tkO 2 (.slice a k c) hHeld rfl ?_ ?_
 ·(intro w q;go_simp;first | done | (rw[s1 w];rfl) | (simp[s1 w]))
 simp only[apt,List.set]
 refine tkO 3 ?_ hHeld rfl ?_ ?_
 rotate_left
 ·intro w q;go_simp;try with_reducible rfl
 simp only[apt,List.set]
 refine tkO 4 ?_ hHeld rfl ?_ ?_
 rotate_left
 ·intro w q;go_simp;try with_reducible rfl
 simp only[apt,List.set]
 refine tkO 5 ?_ hHeld rfl ?_ ?_
 rotate_left
 ·intro w q;go_simp;try with_reducible rfl
 simp only[apt,List.set]
 refine tkO 6 (.slice (cutZ 2 a c (k+1)) (l.length - (k+1)) (c - (k+1))) hHeld rfl ?_ ?_
 ·(intro w q;go_simp;first | done | (rw[s2 w];rfl) | (simp[s2 w];try rfl))
 simp only[apt,List.set]
 refine rdO 7 rfl (fun K hK=>?_)
 go_simp
 refine hK.out _ _ trivial (fun _=>?_)
 clear hK K
 refine rdO 8 rfl (fun K hK=>?_)
 go_simp
 go_wp2_with fail
 have f1':St w w2.drew:=f1.drewN 1
 refine(uh HCT w2.drew f1').mono ?_
 clear HCT
 rintro e w3 ⟨u,rfl,hu,f3⟩
 refine hK.out _ _ trivial (fun _=>?_)
 clear hK K
 refine rdO 9 rfl (fun K hK=>?_)
 go_simp
 refine hK.out _ _ trivial (fun _=>?_)
 clear hK K
 refine wpAnyH_done (by kernel_rfl) ?_ _
 go_wp2
 go_ret
 exact⟨u,rfl,hu,f3⟩
set_option maxRecDepth 100000 in
theorem b_without (hh:Nat) (ba:Option Addr) (bc:Nat) (B:List ByteArray) (ka:Option Addr) (kc:Nat) (ks:List (Nat×Nat)) (i:Nat) (w:World) (hB:Kys w ba bc B) (hK:Kds w ka kc ks) (hlen:ks.length=B.length+1) (hB1:1<=B.length) (hi:i<ks.length) (hl:ks.length<=500) :
  Calls Tryz.prog 149 #[brV hh ba B.length bc ka ks.length kc,.int .i64 i] w fun e w'=>∃va vc ua uc,e = .returned (brV hh va (B.take (i - 1) ++ B.drop (i - 1+1)).length vc ua (ks.take i ++ ks.drop (i+1)).length uc)/\Kys w' va vc (B.take (i - 1) ++ B.drop (i - 1+1))/\Kds w' ua uc (ks.take i ++ ks.drop (i+1))/\(∀x,va=some x->w.heap.size<=x.block/\x.block<w'.heap.size)/\(∀x,ua=some x->w.heap.size<=x.block/\x.block<w'.heap.size)/\St w w':=by
 have cb:=hB.cap;have ck:=hK.cap
 obtain⟨k,hk⟩:∃k,i - 1=k:=⟨_,rfl⟩
 have mx:max (wrap64 ((i:Int) - 1)) 0=(k:Int):=by rw[small_w64 (by omega)];omega
 rw[hk]
 have hkB:k+1<=B.length:=by omega
 have s1:=fun w=>slice_toZ elt_S elem_strs ba B.length bc k w (by omega)
 have s2:=fun w=>(show(Instr.slice 93 (.slice ba B.length bc) (some (.int .i64 ((k:Int)+1))) none none).run Tryz.prog w=_ from slice_fromZ elt_S elem_strs ba B.length bc (k+1) w hkB)
 have s3:=fun w=>slice_toZ elt_K elem_kids ka ks.length kc i w (by omega)
 have s4:=fun w=>(show(Instr.slice 94 (.slice ka ks.length kc) (some (.int .i64 ((i:Int)+1))) none none).run Tryz.prog w=_ from slice_fromZ elt_K elem_kids ka ks.length kc (i+1) w (by omega))
 have wk:IntKind.i64.wrap ((k:Int)+1)=(k:Int)+1:=by rw[IntKind.wrap_i64];omega
 have wi:IntKind.i64.wrap ((i:Int)+1)=(i:Int)+1:=by rw[IntKind.wrap_i64];omega
 have SB1:=hB.take (k:=k) (by omega);have SB3:=hB.drop (k+1) hkB;have SK1:=hK.take (k:=i) (by omega);have SK3:=hK.drop (i+1) (by omega)
 rw[kcl_take] at SK1
 rw[kcl_drop] at SK3
 rw[Nat.mul_one,<-List.map_take] at SB1
 rw[Nat.mul_one,<-List.map_drop] at SB3
 generalize hbd:cutZ 1 ba bc (k+1)=bd at *
 generalize hkd:cutZ 2 ka kc (i+1)=kd at *
 generalize hbcd:bc - (k+1)=bcd at *
 generalize hkcd:kc - (i+1)=kcd at *
 have CS:∀W g,St w W->W.heap[g]? = some (.cells #[.slice ba k bc,.slice bd (B.length - (k+1)) bcd] 93 (0,0))->Calls Tryz.prog 180 #[.slice (some ⟨g,0,none⟩) 2 2] W fun e w'=>∃va vc,e = .returned (.slice va (B.take k ++ B.drop (k+1)).length vc)/\Kys w' va vc (B.take k ++ B.drop (k+1))/\(∀x,va=some x->W.heap.size<=x.block/\x.block<w'.heap.size)/\St W w':=fun W g f o=>by
  refine(cat2g_S W g _ _ _ _ _ _ _ _ o (SB1.still f) (SB3.still f) (by omega)).mono ?_
  rintro e w' ⟨v,rfl,hv,f'⟩
  rw[show k+(B.length - (k+1))=(B.take k ++ B.drop (k+1)).length by simp;omega] at hv
  rw[<-List.map_append] at hv
  obtain⟨va,vc,rfl⟩:=rowZ hv
  exact⟨va,vc,rfl,sl_of_row hv (str_one _),own_block hv,f'⟩
 have CK:∀W g,St w W->W.heap[g]? = some (.cells #[.slice ka i kc,.slice kd (ks.length - (i+1)) kcd] 94 (0,0))->Calls Tryz.prog 181 #[.slice (some ⟨g,0,none⟩) 2 2] W fun e w'=>∃va vc,e = .returned (.slice va (ks.take i ++ ks.drop (i+1)).length vc)/\Kds w' va vc (ks.take i ++ ks.drop (i+1))/\(∀x,va=some x->W.heap.size<=x.block/\x.block<w'.heap.size)/\St W w':=fun W g f o=>by
  refine(cat2g_K W g _ _ _ _ _ _ _ _ o (SK1.still f) (SK3.still f) (by omega)).mono ?_
  rintro e w' ⟨v,rfl,hv,f'⟩
  rw[show i+(ks.length - (i+1))=(ks.take i ++ ks.drop (i+1)).length by simp;omega] at hv
  rw[<-kcl_app] at hv
  obtain⟨va,vc,rfl⟩:=rowZ hv
  exact⟨va,vc,rfl,sl_of_row hv kcl_one,own_block hv,f'⟩
 generalize B.take k ++ B.drop (k+1)=RB at *
 generalize ks.take i ++ ks.drop (i+1)=RK at *
 generalize hj1:B.length - (k+1)=nbd at *
 generalize hj3:ks.length - (i+1)=nkd at *
 have HCS:=@Hd _ CS;have HCK:=@Hd _ CK
 clear CS CK SB1 SB3 SK1 SK3 hB hK hbd hkd hbcd hkcd hj1 hj3 hi hl cb ck hkB hB1 hlen
 generalize B.length=nb at *
 generalize ks.length=nk at *
 obtain⟨W,hW⟩:∃W,(w.alloc (.cells #[.int .i64 hh,.slice ba nb bc,.slice ka nk kc] 96)).alloc (.cells #[.int .i64 0,.slice none 0 0,.slice none 0 0] 96)=W:=⟨_,rfl⟩
 have fW:St w W:=hW▸((Fr.refl _ w).alloc _).alloc _
 have oB:W.heap[w.heap.size]? = some (.cells #[.int .i64 hh,.slice ba nb bc,.slice ka nk kc] 96 (0,0)):=by
  have:=heap_alloc_new w (.cells #[.int .i64 hh,.slice ba nb bc,.slice ka nk kc] 96)
  rw[<-hW]
  exact((Fr.refl (fun _=>False) _).alloc _).obj this id
 have oR:W.heap[w.heap.size+1]? = some (.cells #[.int .i64 0,.slice none 0 0,.slice none 0 0] 96 (0,0)):=by
  have:=heap_alloc_new (w.alloc (.cells #[.int .i64 hh,.slice ba nb bc,.slice ka nk kc] 96)) (.cells #[.int .i64 0,.slice none 0 0,.slice none 0 0] 96)
  rw[hW] at this
  simpa using this
 have HW:=Hd hW
 clear hW
 generalize hg:w.heap.size=g at *
 have HSW:=@Hd _ (fun(w':World) (f:St W w')=>show w'.cell? ⟨g,0,none⟩=some (.int .i64 hh)/\w'.cell? ⟨g,1,none⟩=some (.slice ba nb bc)/\w'.cell? ⟨g,2,none⟩=some (.slice ka nk kc) from⟨cOo (f.obj oB id) 0,cOo (f.obj oB id) 1,cOo (f.obj oB id) 2⟩)
 have HR:=@Hd _ (fun(w':World) (f:St W w')=>f.obj oR id)
 have HFW:=Hd fW
 clear oB oR fW
 go_enter Tryz.func149,Tryz.ntmps149
 go_wp2_with fail
 rw[uh HW]
 clear HW
 clear mx hk
 have fD:St W W.drew:=(Fr.refl _ W).drewN 1
 refine wp_region_held_drew (S:=fun w'=>w'.cell? ⟨g,0,none⟩=some (.int .i64 hh)/\w'.cell? ⟨g,1,none⟩=some (.slice ba nb bc)/\w'.cell? ⟨g,2,none⟩=some (.slice ka nk kc)) (by kernel_rfl) (uh HSW _ fD) (fun hHeld=>?_)
 clear hHeld
 have hHeld:=uh HSW _ fD
 refine tkO 0 ?_ hHeld rfl ?_ ?_
 rotate_left
 ·intro w q;go_simp;try with_reducible rfl
 simp only[apt,List.set]
 refine tkO 1 (.int .i64 hh) hHeld rfl ?_ ?_
 ·rintro w ⟨x0,x1,x2⟩;go_simp;try with_reducible rfl
 simp only[apt,List.set]
 refine tkO 2 ?_ hHeld rfl ?_ ?_
 rotate_left
 ·intro w q;go_simp;try with_reducible rfl
 simp only[apt,List.set]
 refine tkO 3 (.slice ba nb bc) hHeld rfl ?_ ?_
 ·rintro w ⟨x0,x1,x2⟩;go_simp;try with_reducible rfl
 simp only[apt,List.set]
 refine tkO 4 ?_ hHeld rfl ?_ ?_
 rotate_left
 ·intro w q;go_simp;try with_reducible rfl
 simp only[apt,List.set]
 refine tkO 5 (.slice ba k bc) hHeld rfl ?_ ?_
 ·(intro w q;go_simp;first | done | (rw[s1 w];rfl) | (simp[s1 w];try rfl))
 simp only[apt,List.set]
 refine tkO 6 ?_ hHeld rfl ?_ ?_
 rotate_left
 ·intro w q;go_simp;try with_reducible rfl
 simp only[apt,List.set]
 refine tkO 7 (.slice ba nb bc) hHeld rfl ?_ ?_
 ·rintro w ⟨x0,x1,x2⟩;go_simp;try with_reducible rfl
 simp only[apt,List.set]
 refine tkO 8 ?_ hHeld rfl ?_ ?_
 rotate_left
 ·intro w q;go_simp;try with_reducible rfl
 simp only[apt,List.set]
 refine tkO 9 ?_ hHeld rfl ?_ ?_
 rotate_left
 ·intro w q;go_simp;try with_reducible rfl
 simp only[apt,List.set]
 refine tkO 10 (.slice bd nbd bcd) hHeld rfl ?_ ?_
 ·(intro w q;go_simp;first | done | (rw[s2 w];rfl) | (simp[s2 w];try rfl))
 simp only[apt,List.set]
 refine tkO 13 ?_ hHeld rfl ?_ ?_
 rotate_left
 ·intro w q;go_simp;try with_reducible rfl
 simp only[apt,List.set]
 refine tkO 14 (.slice ka nk kc) hHeld rfl ?_ ?_
 ·rintro w ⟨x0,x1,x2⟩;go_simp;try with_reducible rfl
 simp only[apt,List.set]
 refine tkO 15 ?_ hHeld rfl ?_ ?_
 rotate_left
 ·intro w q;go_simp;try with_reducible rfl
 simp only[apt,List.set]
 refine tkO 16 (.slice ka i kc) hHeld rfl ?_ ?_
 ·(intro w q;go_simp;first | done | (rw[s3 w];rfl) | (simp[s3 w];try rfl))
 simp only[apt,List.set]
 refine tkO 17 ?_ hHeld rfl ?_ ?_
 rotate_left
 ·intro w q;go_simp;try with_reducible rfl
 simp only[apt,List.set]
 refine tkO 18 (.slice ka nk kc) hHeld rfl ?_ ?_
 ·rintro w ⟨x0,x1,x2⟩;go_simp;try with_reducible rfl
 simp only[apt,List.set]
 refine tkO 19 ?_ hHeld rfl ?_ ?_
 rotate_left
 ·intro w q;go_simp;try with_reducible rfl
 simp only[apt,List.set]
 refine tkO 20 ?_ hHeld rfl ?_ ?_
 rotate_left
 ·intro w q;go_simp;try with_reducible rfl
 simp only[apt,List.set]
 refine tkO 21 (.slice kd nkd kcd) hHeld rfl ?_ ?_
 ·(intro w q;go_simp;first | done | (rw[s4 w];rfl) | (simp[s4 w];try rfl))
 simp only[apt,List.set]
 clear s1 s2 s3 s4 wi wk hHeld
 obtain⟨WD,hWD⟩:∃WD,W.drew=WD:=⟨_,rfl⟩
 rw[hWD] at fD ⊢
 clear hWD
 refine wpAnyH_ready (rs:=[11,22]) (by kernel_rfl) (by simp) ?_
 refine AllReadyH.cons rfl (fun K hK=>?_) (AllReadyH.cons rfl (fun K hK=>?_) AllReadyH.nil)
 ·go_simp
  obtain⟨WA,hWA⟩:∃x,(WD).alloc (.cells #[.slice ba k bc,.slice bd nbd bcd] 93)=x:=⟨_,rfl⟩
  have fA:St W WA:=(fD).trans' (hWA▸(Fr.refl _ _).alloc _:St (WD) WA) nE
  have oA:WA.heap[(WD).heap.size]? = some (.cells #[.slice ba k bc,.slice bd nbd bcd] 93 (0,0)):=hWA▸heap_alloc_new _ _
  rw[hWA]
  refine hK.out _ _ (uh HSW _ (fA)) (fun _=>?_)
  clear hK K
  refine wpAnyH_ready (rs:=[12,22]) (by kernel_rfl) (by simp) ?_
  refine AllReadyH.cons rfl (fun K hK=>?_) (AllReadyH.cons rfl (fun K hK=>?_) AllReadyH.nil)
  ·go_simp
   go_wp2_with fail
   refine(uh HCS WA _ ((uh HFW).trans' (fA) nE) (oA)).mono ?_
   rintro e w3 ⟨va,vc,rfl,hv,hvb,g1⟩
   have f3:St W w3:=(fA).trans' g1 nE
   refine hK.out _ _ (uh HSW _ (f3)) (fun _=>?_)
   clear hK K
   refine rdO 22 rfl (fun K hK=>?_)
   go_simp
   obtain⟨WB,hWB⟩:∃x,(w3).alloc (.cells #[.slice ka i kc,.slice kd nkd kcd] 94)=x:=⟨_,rfl⟩
   have fB:St W WB:=(f3).trans' (hWB▸(Fr.refl _ _).alloc _:St (w3) WB) nE
   have oB:WB.heap[(w3).heap.size]? = some (.cells #[.slice ka i kc,.slice kd nkd kcd] 94 (0,0)):=hWB▸heap_alloc_new _ _
   rw[hWB]
   refine hK.out _ _ (uh HSW _ (fB)) (fun _=>?_)
   clear hK K
   refine rdO 23 rfl (fun K hK=>?_)
   go_simp
   go_wp2_with fail
   refine(uh HCK WB _ ((uh HFW).trans' (fB) nE) (oB)).mono ?_
   rintro e w5 ⟨ua,uc,rfl,hu,hub,g2⟩
   have f5:St W w5:=(fB).trans' g2 nE
   refine hK.out _ _ (uh HSW _ (f5)) (fun _=>?_)
   clear hK K
   have hv5:=hv.still ((hWB▸(Fr.refl _ _).alloc _:St w3 WB).trans' g2 nE)
   refine rdO 24 rfl (fun K hK=>?_)
   go_simp
   refine hK.out _ _ (uh HSW _ (f5)) (fun _=>?_)
   clear hK K
   have o5:=uh HR _ f5
   have r0:w5.cell? ⟨g+1,0,none⟩=some (.int .i64 0):=cOo o5 0
   have r1:w5.cell? ⟨g+1,1,none⟩=some (.slice none 0 0):=cOo o5 1
   have r2:w5.cell? ⟨g+1,2,none⟩=some (.slice none 0 0):=cOo o5 2
   have rz:∀o,w5.frozen? ⟨g+1,o,none⟩=false:=fun o=>by simp[World.frozen?,o5]
   refine rdO 25 rfl (fun K hK=>?_)
   go_simp
   have oF:=heap_setCell_same _ (g+1) 2 _ _ (.slice ua RK.length uc) (heap_setCell_same _ (g+1) 1 _ _ (.slice va RB.length vc) (heap_setCell_same w5 (g+1) 0 _ _ (.int .i64 (hh:Nat)) o5))
   have f6:Fr (fun k=>k=g+1) w5 (((w5.setCell ⟨g+1,0,none⟩ (.int .i64 (hh:Nat))).setCell ⟨g+1,1,none⟩ (.slice va RB.length vc)).setCell ⟨g+1,2,none⟩ (.slice ua RK.length uc)):=(((Fr.refl (fun k=>k=g+1) w5).setCell (.inl rfl) _).setCell (.inl rfl) _).setCell (.inl rfl) _
   obtain⟨y0,y1,y2⟩:=uh HSW _ f5
   refine hK.out _ _ ⟨f6.cell' y0 (fun x=>by have x:g=g+1:=x;omega),f6.cell' y1 (fun x=>by have x:g=g+1:=x;omega),f6.cell' y2 (fun x=>by have x:g=g+1:=x;omega)⟩ (fun _=>?_)
   clear hK K
   refine wpAnyH_done (by kernel_rfl) ?_ _
   go_wp2_with fail
   refine bodyPost_ret (results_cell_row Tryz.results149 _ _ (g+1) 96 #[.int .i64 hh,.slice va RB.length vc,.slice ua RK.length uc] (0,0) _ (by rfl) oF Tryz.underlying96 rfl (by kernel_rfl)) rfl ?_
   have hWz:g+2<=W.heap.size:=by
    have:=World.block_lt_of_cell? _ _ (cOo (uh HR _ (Fr.refl _ W)) 0)
    exact this
   have hvx:∀x,va=some x->W.heap.size<=x.block/\x.block<w5.heap.size:=fun x hx=>⟨Nat.le_trans (fA.size) (hvb x hx).1,Nat.lt_of_lt_of_le (hvb x hx).2 (Nat.le_trans (hWB▸(Fr.refl _ _).alloc _:St w3 WB).size g2.size)⟩
   have hux:∀x,ua=some x->W.heap.size<=x.block/\x.block<w5.heap.size:=fun x hx=>⟨Nat.le_trans (fB.size) (hub x hx).1,(hub x hx).2⟩
   refine⟨va,vc,ua,uc,rfl,hv5.kept f6 (fun x hx e=>by have:=(hvx x hx).1;omega),hu.kept f6 (fun x hx e=>by have:=(hux x hx).1;omega),fun x hx=>⟨by have:=(hvx x hx).1;omega,Nat.lt_of_lt_of_le (hvx x hx).2 f6.size⟩,fun x hx=>⟨by have:=(hux x hx).1;omega,Nat.lt_of_lt_of_le (hux x hx).2 f6.size⟩,((uh HFW).trans' f5 nE).trans' f6 (fun k hk=>.inr (by rw[hk,<-hg];omega))⟩
  ·go_simp
   obtain⟨WB,hWB⟩:∃x,(WA).alloc (.cells #[.slice ka i kc,.slice kd nkd kcd] 94)=x:=⟨_,rfl⟩
   have fB:St W WB:=(fA).trans' (hWB▸(Fr.refl _ _).alloc _:St (WA) WB) nE
   have oB:WB.heap[(WA).heap.size]? = some (.cells #[.slice ka i kc,.slice kd nkd kcd] 94 (0,0)):=hWB▸heap_alloc_new _ _
   rw[hWB]
   refine hK.out _ _ (uh HSW _ (fB)) (fun _=>?_)
   clear hK K
   refine rdO 12 rfl (fun K hK=>?_)
   go_simp
   go_wp2_with fail
   refine(uh HCS WB _ ((uh HFW).trans' (fB) nE) ((hWB▸(Fr.refl _ _).alloc _:St WA WB).obj oA id)).mono ?_
   rintro e w3 ⟨va,vc,rfl,hv,hvb,g1⟩
   have f3:St W w3:=(fB).trans' g1 nE
   refine hK.out _ _ (uh HSW _ (f3)) (fun _=>?_)
   clear hK K
   refine rdO 23 rfl (fun K hK=>?_)
   go_simp
   go_wp2_with fail
   refine(uh HCK w3 _ ((uh HFW).trans' (f3) nE) (g1.obj oB id)).mono ?_
   rintro e w5 ⟨ua,uc,rfl,hu,hub,g2⟩
   have f5:St W w5:=(f3).trans' g2 nE
   refine hK.out _ _ (uh HSW _ (f5)) (fun _=>?_)
   clear hK K
   have hv5:=hv.still (g2)
   refine rdO 24 rfl (fun K hK=>?_)
   go_simp
   refine hK.out _ _ (uh HSW _ (f5)) (fun _=>?_)
   clear hK K
   have o5:=uh HR _ f5
   have r0:w5.cell? ⟨g+1,0,none⟩=some (.int .i64 0):=cOo o5 0
   have r1:w5.cell? ⟨g+1,1,none⟩=some (.slice none 0 0):=cOo o5 1
   have r2:w5.cell? ⟨g+1,2,none⟩=some (.slice none 0 0):=cOo o5 2
   have rz:∀o,w5.frozen? ⟨g+1,o,none⟩=false:=fun o=>by simp[World.frozen?,o5]
   refine rdO 25 rfl (fun K hK=>?_)
   go_simp
   have oF:=heap_setCell_same _ (g+1) 2 _ _ (.slice ua RK.length uc) (heap_setCell_same _ (g+1) 1 _ _ (.slice va RB.length vc) (heap_setCell_same w5 (g+1) 0 _ _ (.int .i64 (hh:Nat)) o5))
   have f6:Fr (fun k=>k=g+1) w5 (((w5.setCell ⟨g+1,0,none⟩ (.int .i64 (hh:Nat))).setCell ⟨g+1,1,none⟩ (.slice va RB.length vc)).setCell ⟨g+1,2,none⟩ (.slice ua RK.length uc)):=(((Fr.refl (fun k=>k=g+1) w5).setCell (.inl rfl) _).setCell (.inl rfl) _).setCell (.inl rfl) _
   obtain⟨y0,y1,y2⟩:=uh HSW _ f5
   refine hK.out _ _ ⟨f6.cell' y0 (fun x=>by have x:g=g+1:=x;omega),f6.cell' y1 (fun x=>by have x:g=g+1:=x;omega),f6.cell' y2 (fun x=>by have x:g=g+1:=x;omega)⟩ (fun _=>?_)
   clear hK K
   refine wpAnyH_done (by kernel_rfl) ?_ _
   go_wp2_with fail
   refine bodyPost_ret (results_cell_row Tryz.results149 _ _ (g+1) 96 #[.int .i64 hh,.slice va RB.length vc,.slice ua RK.length uc] (0,0) _ (by rfl) oF Tryz.underlying96 rfl (by kernel_rfl)) rfl ?_
   have hWz:g+2<=W.heap.size:=by
    have:=World.block_lt_of_cell? _ _ (cOo (uh HR _ (Fr.refl _ W)) 0)
    exact this
   have hvx:∀x,va=some x->W.heap.size<=x.block/\x.block<w5.heap.size:=fun x hx=>⟨Nat.le_trans (fB.size) (hvb x hx).1,Nat.lt_of_lt_of_le (hvb x hx).2 (g2.size)⟩
   have hux:∀x,ua=some x->W.heap.size<=x.block/\x.block<w5.heap.size:=fun x hx=>⟨Nat.le_trans (f3.size) (hub x hx).1,(hub x hx).2⟩
   refine⟨va,vc,ua,uc,rfl,hv5.kept f6 (fun x hx e=>by have:=(hvx x hx).1;omega),hu.kept f6 (fun x hx e=>by have:=(hux x hx).1;omega),fun x hx=>⟨by have:=(hvx x hx).1;omega,Nat.lt_of_lt_of_le (hvx x hx).2 f6.size⟩,fun x hx=>⟨by have:=(hux x hx).1;omega,Nat.lt_of_lt_of_le (hux x hx).2 f6.size⟩,((uh HFW).trans' f5 nE).trans' f6 (fun k hk=>.inr (by rw[hk,<-hg];omega))⟩
 ·go_simp
  obtain⟨WB,hWB⟩:∃x,(WD).alloc (.cells #[.slice ka i kc,.slice kd nkd kcd] 94)=x:=⟨_,rfl⟩
  have fB:St W WB:=(fD).trans' (hWB▸(Fr.refl _ _).alloc _:St (WD) WB) nE
  have oB:WB.heap[(WD).heap.size]? = some (.cells #[.slice ka i kc,.slice kd nkd kcd] 94 (0,0)):=hWB▸heap_alloc_new _ _
  rw[hWB]
  refine hK.out _ _ (uh HSW _ (fB)) (fun _=>?_)
  clear hK K
  refine rdO 11 rfl (fun K hK=>?_)
  go_simp
  obtain⟨WA,hWA⟩:∃x,(WB).alloc (.cells #[.slice ba k bc,.slice bd nbd bcd] 93)=x:=⟨_,rfl⟩
  have fA:St W WA:=(fB).trans' (hWA▸(Fr.refl _ _).alloc _:St (WB) WA) nE
  have oA:WA.heap[(WB).heap.size]? = some (.cells #[.slice ba k bc,.slice bd nbd bcd] 93 (0,0)):=hWA▸heap_alloc_new _ _
  rw[hWA]
  refine hK.out _ _ (uh HSW _ (fA)) (fun _=>?_)
  clear hK K
  refine rdO 12 rfl (fun K hK=>?_)
  go_simp
  go_wp2_with fail
  refine(uh HCS WA _ ((uh HFW).trans' (fA) nE) (oA)).mono ?_
  rintro e w3 ⟨va,vc,rfl,hv,hvb,g1⟩
  have f3:St W w3:=(fA).trans' g1 nE
  refine hK.out _ _ (uh HSW _ (f3)) (fun _=>?_)
  clear hK K
  refine rdO 23 rfl (fun K hK=>?_)
  go_simp
  go_wp2_with fail
  refine(uh HCK w3 _ ((uh HFW).trans' (f3) nE) (((hWA▸(Fr.refl _ _).alloc _:St WB WA).trans' g1 nE).obj oB id)).mono ?_
  rintro e w5 ⟨ua,uc,rfl,hu,hub,g2⟩
  have f5:St W w5:=(f3).trans' g2 nE
  refine hK.out _ _ (uh HSW _ (f5)) (fun _=>?_)
  clear hK K
  have hv5:=hv.still (g2)
  refine rdO 24 rfl (fun K hK=>?_)
  go_simp
  refine hK.out _ _ (uh HSW _ (f5)) (fun _=>?_)
  clear hK K
  have o5:=uh HR _ f5
  have r0:w5.cell? ⟨g+1,0,none⟩=some (.int .i64 0):=cOo o5 0
  have r1:w5.cell? ⟨g+1,1,none⟩=some (.slice none 0 0):=cOo o5 1
  have r2:w5.cell? ⟨g+1,2,none⟩=some (.slice none 0 0):=cOo o5 2
  have rz:∀o,w5.frozen? ⟨g+1,o,none⟩=false:=fun o=>by simp[World.frozen?,o5]
  refine rdO 25 rfl (fun K hK=>?_)
  go_simp
  have oF:=heap_setCell_same _ (g+1) 2 _ _ (.slice ua RK.length uc) (heap_setCell_same _ (g+1) 1 _ _ (.slice va RB.length vc) (heap_setCell_same w5 (g+1) 0 _ _ (.int .i64 (hh:Nat)) o5))
  have f6:Fr (fun k=>k=g+1) w5 (((w5.setCell ⟨g+1,0,none⟩ (.int .i64 (hh:Nat))).setCell ⟨g+1,1,none⟩ (.slice va RB.length vc)).setCell ⟨g+1,2,none⟩ (.slice ua RK.length uc)):=(((Fr.refl (fun k=>k=g+1) w5).setCell (.inl rfl) _).setCell (.inl rfl) _).setCell (.inl rfl) _
  obtain⟨y0,y1,y2⟩:=uh HSW _ f5
  refine hK.out _ _ ⟨f6.cell' y0 (fun x=>by have x:g=g+1:=x;omega),f6.cell' y1 (fun x=>by have x:g=g+1:=x;omega),f6.cell' y2 (fun x=>by have x:g=g+1:=x;omega)⟩ (fun _=>?_)
  clear hK K
  refine wpAnyH_done (by kernel_rfl) ?_ _
  go_wp2_with fail
  refine bodyPost_ret (results_cell_row Tryz.results149 _ _ (g+1) 96 #[.int .i64 hh,.slice va RB.length vc,.slice ua RK.length uc] (0,0) _ (by rfl) oF Tryz.underlying96 rfl (by kernel_rfl)) rfl ?_
  have hWz:g+2<=W.heap.size:=by
   have:=World.block_lt_of_cell? _ _ (cOo (uh HR _ (Fr.refl _ W)) 0)
   exact this
  have hvx:∀x,va=some x->W.heap.size<=x.block/\x.block<w5.heap.size:=fun x hx=>⟨Nat.le_trans (fA.size) (hvb x hx).1,Nat.lt_of_lt_of_le (hvb x hx).2 (g2.size)⟩
  have hux:∀x,ua=some x->W.heap.size<=x.block/\x.block<w5.heap.size:=fun x hx=>⟨Nat.le_trans (f3.size) (hub x hx).1,(hub x hx).2⟩
  refine⟨va,vc,ua,uc,rfl,hv5.kept f6 (fun x hx e=>by have:=(hvx x hx).1;omega),hu.kept f6 (fun x hx e=>by have:=(hux x hx).1;omega),fun x hx=>⟨by have:=(hvx x hx).1;omega,Nat.lt_of_lt_of_le (hvx x hx).2 f6.size⟩,fun x hx=>⟨by have:=(hux x hx).1;omega,Nat.lt_of_lt_of_le (hux x hx).2 f6.size⟩,((uh HFW).trans' f5 nE).trans' f6 (fun k hk=>.inr (by rw[hk,<-hg];omega))⟩
end Go.Proofs.YtbiopjmpdhcjgaaGreatDoor
