/- Joined: Yu Yx Yy. -/
import Derived.Test.YtbiopjmpdhcjgaaGreatDoorZ19
import Derived.Test.YtbiopjmpdhcjgaaGreatDoorZ20
namespace Go.Proofs.YtbiopjmpdhcjgaaGreatDoor
open Go.RowKit
set_option maxHeartbeats 4000000
theorem cat3g_S (W:World) (g:Nat) (a1 a2 a3:Option Addr) (n1 n2 n3 c1 c2 c3:Nat) (X1 X2 X3:List Value) (oR:W.heap[g]? = some (.cells #[.slice a1 n1 c1,.slice a2 n2 c2,.slice a3 n3 c3] 93 (0,0))) (S1:Sl W 1 a1 n1 c1 X1) (S2:Sl W 1 a2 n2 c2 X2) (S3:Sl W 1 a3 n3 c3 X3) (hl:n1+n2+n3<=1000000) :
  Calls Tryz.prog 180 #[.slice (some ⟨g,0,none⟩) 3 3] W fun e w'=>∃v,e = .returned v/\w'.ownsRow W.heap.size 9 1 v (n1+n2+n3) (X1 ++ X2 ++ X3)/\St W w':=by
 have K:=cat_S (some ⟨g,0,none⟩) 3 3 (fun t=>if t=0 then a1 else if t=1 then a2 else a3) (fun t=>if t=0 then n1 else if t=1 then n2 else n3) (fun t=>if t=0 then c1 else if t=1 then c2 else c3) (fun t=>if t=0 then X1 else if t=1 then X2 else X3) W (fun i hi=>by
  rcases (show i=0\/i=1\/i=2 by omega) with rfl | rfl | rfl
  ·exact⟨⟨g,0,rfl,show W.cell? ⟨g,0,none⟩=some (.slice a1 n1 c1) from cOo oR 0⟩,S1⟩
  ·exact⟨⟨g,0,rfl,show W.cell? ⟨g,1,none⟩=some (.slice a2 n2 c2) from cOo oR 1⟩,S2⟩
  ·exact⟨⟨g,0,rfl,show W.cell? ⟨g,2,none⟩=some (.slice a3 n3 c3) from cOo oR 2⟩,S3⟩) (by omega) (by simp[offN];omega)
 refine K.mono ?_
 rintro e w' ⟨u,rfl,hu,f3⟩
 refine⟨u,rfl,?_,f3⟩
 have e1:offN (fun t=>if t=0 then n1 else if t=1 then n2 else n3) 3=n1+n2+n3:=by simp[offN]
 have e2:catX (fun t=>if t=0 then X1 else if t=1 then X2 else X3) 3=X1 ++ X2 ++ X3:=by simp[catX]
 rw[e1,e2] at hu
 exact hu
theorem cat3g_K (W:World) (g:Nat) (a1 a2 a3:Option Addr) (n1 n2 n3 c1 c2 c3:Nat) (X1 X2 X3:List Value) (oR:W.heap[g]? = some (.cells #[.slice a1 n1 c1,.slice a2 n2 c2,.slice a3 n3 c3] 94 (0,0))) (S1:Sl W 2 a1 n1 c1 X1) (S2:Sl W 2 a2 n2 c2 X2) (S3:Sl W 2 a3 n3 c3 X3) (hl:n1+n2+n3<=1000000) :
  Calls Tryz.prog 181 #[.slice (some ⟨g,0,none⟩) 3 3] W fun e w'=>∃v,e = .returned v/\w'.ownsRow W.heap.size 123 2 v (n1+n2+n3) (X1 ++ X2 ++ X3)/\St W w':=by
 have K:=cat_K (some ⟨g,0,none⟩) 3 3 (fun t=>if t=0 then a1 else if t=1 then a2 else a3) (fun t=>if t=0 then n1 else if t=1 then n2 else n3) (fun t=>if t=0 then c1 else if t=1 then c2 else c3) (fun t=>if t=0 then X1 else if t=1 then X2 else X3) W (fun i hi=>by
  rcases (show i=0\/i=1\/i=2 by omega) with rfl | rfl | rfl
  ·exact⟨⟨g,0,rfl,show W.cell? ⟨g,0,none⟩=some (.slice a1 n1 c1) from cOo oR 0⟩,S1⟩
  ·exact⟨⟨g,0,rfl,show W.cell? ⟨g,1,none⟩=some (.slice a2 n2 c2) from cOo oR 1⟩,S2⟩
  ·exact⟨⟨g,0,rfl,show W.cell? ⟨g,2,none⟩=some (.slice a3 n3 c3) from cOo oR 2⟩,S3⟩) (by omega) (by simp[offN];omega)
 refine K.mono ?_
 rintro e w' ⟨u,rfl,hu,f3⟩
 refine⟨u,rfl,?_,f3⟩
 have e1:offN (fun t=>if t=0 then n1 else if t=1 then n2 else n3) 3=n1+n2+n3:=by simp[offN]
 have e2:catX (fun t=>if t=0 then X1 else if t=1 then X2 else X3) 3=X1 ++ X2 ++ X3:=by simp[catX]
 rw[e1,e2] at hu
 exact hu
theorem elem_strs:Tryz.prog.elem 93=9:=by kernel_rfl
theorem elem_kids:Tryz.prog.elem 94=123:=by kernel_rfl
set_option maxRecDepth 100000 in
theorem b_with (hh:Nat) (ba:Option Addr) (bc:Nat) (B:List ByteArray) (ka:Option Addr) (kc:Nat) (ks:List (Nat×Nat)) (i j:Nat) (ka2:Option Addr) (kc2:Nat) (ks2:List (Nat×Nat)) (ba2:Option Addr) (bc2:Nat) (B2:List ByteArray) (w:World) (hB:Kys w ba bc B) (hK:Kds w ka kc ks) (hB2:Kys w ba2 bc2 B2) (hK2:Kds w ka2 kc2 ks2)
  (h1:1<=j) (hi:i<=B.length) (hi2:i<=ks.length) (hj:j - 1<=B.length) (hj2:j<=ks.length) (hl:ks.length<=500) (hl2:ks2.length<=500) (hl3:B.length<=500) (hl4:B2.length<=500) :
  Calls Tryz.prog 142 #[brV hh ba B.length bc ka ks.length kc,.int .i64 i,.int .i64 j,.slice ka2 ks2.length kc2,.slice ba2 B2.length bc2] w fun e w'=>∃va vc ua uc,e = .returned (brV hh va (B.take i ++ B2 ++ B.drop (j - 1)).length vc ua (ks.take i ++ ks2 ++ ks.drop j).length uc)/\Kys w' va vc (B.take i ++ B2 ++ B.drop (j - 1))/\Kds w' ua uc (ks.take i ++ ks2 ++ ks.drop j)/\(∀x,va=some x->w.heap.size<=x.block/\x.block<w'.heap.size)/\(∀x,ua=some x->w.heap.size<=x.block/\x.block<w'.heap.size)/\St w w':=by
 have cb:=hB.cap;have ck:=hK.cap
 have s1:=fun w=>slice_toZ elt_S elem_strs ba B.length bc i w (by omega)
 have s2:=fun w=>slice_fromZ elt_S elem_strs ba B.length bc (j - 1) w hj
 have s3:=fun w=>slice_toZ elt_K elem_kids ka ks.length kc i w (by omega)
 have s4:=fun w=>slice_fromZ elt_K elem_kids ka ks.length kc j w hj2
 have wj:IntKind.i64.wrap ((j:Int) - 1)=((j - 1:Nat):Int):=by rw[IntKind.wrap_i64];omega
 have SB1:=hB.take hi;have SB3:=hB.drop (j - 1) hj;have SK1:=hK.take hi2;have SK3:=hK.drop j hj2
 rw[kcl_take] at SK1
 rw[kcl_drop] at SK3
 rw[Nat.mul_one,<-List.map_take] at SB1
 rw[Nat.mul_one,<-List.map_drop] at SB3
 generalize hbd:cutZ 1 ba bc (j - 1)=bd at *
 generalize hkd:cutZ 2 ka kc j=kd at *
 generalize hbcd:bc - (j - 1)=bcd at *
 generalize hkcd:kc - j=kcd at *
 have CS:∀W g,St w W->W.heap[g]? = some (.cells #[.slice ba i bc,.slice ba2 B2.length bc2,.slice bd (B.length - (j - 1)) bcd] 93 (0,0))->Calls Tryz.prog 180 #[.slice (some ⟨g,0,none⟩) 3 3] W fun e w'=>∃va vc,e = .returned (.slice va (B.take i ++ B2 ++ B.drop (j - 1)).length vc)/\Kys w' va vc (B.take i ++ B2 ++ B.drop (j - 1))/\(∀x,va=some x->W.heap.size<=x.block/\x.block<w'.heap.size)/\St W w':=fun W g f o=>by
  refine(cat3g_S W g _ _ _ _ _ _ _ _ _ _ _ _ o (SB1.still f) (hB2.still f) (SB3.still f) (by omega)).mono ?_
  rintro e w' ⟨v,rfl,hv,f'⟩
  rw[show i+B2.length+(B.length - (j - 1))=(B.take i ++ B2 ++ B.drop (j - 1)).length by simp;omega] at hv
  rw[<-List.map_append,<-List.map_append] at hv
  obtain⟨va,vc,rfl⟩:=rowZ hv
  exact⟨va,vc,rfl,sl_of_row hv (str_one _),own_block hv,f'⟩
 have CK:∀W g,St w W->W.heap[g]? = some (.cells #[.slice ka i kc,.slice ka2 ks2.length kc2,.slice kd (ks.length - j) kcd] 94 (0,0))->Calls Tryz.prog 181 #[.slice (some ⟨g,0,none⟩) 3 3] W fun e w'=>∃va vc,e = .returned (.slice va (ks.take i ++ ks2 ++ ks.drop j).length vc)/\Kds w' va vc (ks.take i ++ ks2 ++ ks.drop j)/\(∀x,va=some x->W.heap.size<=x.block/\x.block<w'.heap.size)/\St W w':=fun W g f o=>by
  refine(cat3g_K W g _ _ _ _ _ _ _ _ _ _ _ _ o (SK1.still f) (hK2.still f) (SK3.still f) (by omega)).mono ?_
  rintro e w' ⟨v,rfl,hv,f'⟩
  rw[show i+ks2.length+(ks.length - j)=(ks.take i ++ ks2 ++ ks.drop j).length by simp;omega] at hv
  rw[<-kcl_app,<-kcl_app] at hv
  obtain⟨va,vc,rfl⟩:=rowZ hv
  exact⟨va,vc,rfl,sl_of_row hv kcl_one,own_block hv,f'⟩
 generalize B.take i ++ B2 ++ B.drop (j - 1)=RB at *
 generalize ks.take i ++ ks2 ++ ks.drop j=RK at *
 generalize hj1:B.length - (j - 1)=nbd at *
 generalize hj3:ks.length - j=nkd at *
 generalize j - 1=jm at *
 have i5:i<=500:=by omega
 have j5:j<=500:=by omega
 have HCS:=@Hd _ CS;have HCK:=@Hd _ CK
 clear CS CK SB1 SB3 SK1 SK3 hB hK hB2 hK2 hbd hkd hbcd hkcd hj1 hj3 hi hi2 hj hj2 hl hl2 hl3 hl4 cb ck
 generalize B.length=nb at *
 generalize ks.length=nk at *
 generalize B2.length=nb2 at *
 generalize ks2.length=nk2 at *
 obtain⟨W,hW⟩:∃W,(w.alloc (.cells #[.int .i64 hh,.slice ba nb bc,.slice ka nk kc] 96)).alloc (.cells #[.int .i64 0,.slice none 0 0,.slice none 0 0] 96)=W:=⟨_,rfl⟩
 have fW:St w W:=hW▸((Fr.refl _ w).alloc _).alloc _
 have oB:W.heap[w.heap.size]? = some (.cells #[.int .i64 hh,.slice ba nb bc,.slice ka nk kc] 96 (0,0)):=by
  have:=heap_alloc_new w (.cells #[.int .i64 hh,.slice ba nb bc,.slice ka nk kc] 96)
  rw[<-hW]
  exact((Fr.refl (fun _=>False) _).alloc _).obj this id
 have oR:W.heap[w.heap.size+1]? = some (.cells #[.int .i64 0,.slice none 0 0,.slice none 0 0] 96 (0,0)):=by
  have:=heap_alloc_new (w.alloc (.cells #[.int .i64 hh,.slice ba nb bc,.slice ka nk kc] 96)) (.cells #[.int .i64 0,.slice none 0 0,.slice none 0 0] 96)
  rw[hW] at this
  simpa using this
 have HW:=Hd hW
 clear hW
 generalize hg:w.heap.size=g at *
 have HSW:=@Hd _ (fun(w':World) (f:St W w')=>show w'.cell? ⟨g,0,none⟩=some (.int .i64 hh)/\w'.cell? ⟨g,1,none⟩=some (.slice ba nb bc)/\w'.cell? ⟨g,2,none⟩=some (.slice ka nk kc) from⟨cOo (f.obj oB id) 0,cOo (f.obj oB id) 1,cOo (f.obj oB id) 2⟩)
 have HR:=@Hd _ (fun(w':World) (f:St W w')=>f.obj oR id)
 have HFW:=Hd fW
 clear oB oR fW
 go_enter Tryz.func142,Tryz.ntmps142
 go_wp2_with fail
 rw[uh HW]
 clear HW
 have fD:St W W.drew:=(Fr.refl _ W).drewN 1
 refine wp_region_held_drew (S:=fun w'=>w'.cell? ⟨g,0,none⟩=some (.int .i64 hh)/\w'.cell? ⟨g,1,none⟩=some (.slice ba nb bc)/\w'.cell? ⟨g,2,none⟩=some (.slice ka nk kc)) (by kernel_rfl) (uh HSW _ fD) (fun hHeld=>?_)
 clear hHeld
 have hHeld:=uh HSW _ fD
 refine tkO 0 ?_ hHeld rfl ?_ ?_
 rotate_left
 ·intro w q;go_simp;try with_reducible rfl
 simp only[apt,List.set]
 refine tkO 1 (.int .i64 hh) hHeld rfl ?_ ?_
 ·rintro w ⟨x0,x1,x2⟩;go_simp;try with_reducible rfl
 simp only[apt,List.set]
 refine tkO 2 ?_ hHeld rfl ?_ ?_
 rotate_left
 ·intro w q;go_simp;try with_reducible rfl
 simp only[apt,List.set]
 refine tkO 3 (.slice ba nb bc) hHeld rfl ?_ ?_
 ·rintro w ⟨x0,x1,x2⟩;go_simp;try with_reducible rfl
 simp only[apt,List.set]
 refine tkO 4 ?_ hHeld rfl ?_ ?_
 rotate_left
 ·intro w q;go_simp;try with_reducible rfl
 simp only[apt,List.set]
 refine tkO 5 (.slice ba i bc) hHeld rfl ?_ ?_
 ·(intro w q;go_simp;first | done | (rw[s1 w];rfl) | (simp[s1 w];try rfl))
 simp only[apt,List.set]
 refine tkO 6 ?_ hHeld rfl ?_ ?_
 rotate_left
 ·intro w q;go_simp;try with_reducible rfl
 simp only[apt,List.set]
 refine tkO 7 ?_ hHeld rfl ?_ ?_
 rotate_left
 ·intro w q;go_simp;try with_reducible rfl
 simp only[apt,List.set]
 refine tkO 8 (.slice ba nb bc) hHeld rfl ?_ ?_
 ·rintro w ⟨x0,x1,x2⟩;go_simp;try with_reducible rfl
 simp only[apt,List.set]
 refine tkO 9 ?_ hHeld rfl ?_ ?_
 rotate_left
 ·intro w q;go_simp;try with_reducible rfl
 simp only[apt,List.set]
 refine tkO 10 (.int .i64 jm) hHeld rfl ?_ ?_
 ·(intro w q;go_simp;first | done | (rw[wj]) | (simp[wj]))
 simp only[apt,List.set]
 refine tkO 11 (.slice bd nbd bcd) hHeld rfl ?_ ?_
 ·(intro w q;go_simp;first | done | (rw[s2 w];rfl) | (simp[s2 w];try rfl))
 simp only[apt,List.set]
 refine tkO 14 ?_ hHeld rfl ?_ ?_
 rotate_left
 ·intro w q;go_simp;try with_reducible rfl
 simp only[apt,List.set]
 refine tkO 15 (.slice ka nk kc) hHeld rfl ?_ ?_
 ·rintro w ⟨x0,x1,x2⟩;go_simp;try with_reducible rfl
 simp only[apt,List.set]
 refine tkO 16 ?_ hHeld rfl ?_ ?_
 rotate_left
 ·intro w q;go_simp;try with_reducible rfl
 simp only[apt,List.set]
 refine tkO 17 (.slice ka i kc) hHeld rfl ?_ ?_
 ·(intro w q;go_simp;first | done | (rw[s3 w];rfl) | (simp[s3 w];try rfl))
 simp only[apt,List.set]
 refine tkO 18 ?_ hHeld rfl ?_ ?_
 rotate_left
 ·intro w q;go_simp;try with_reducible rfl
 simp only[apt,List.set]
 refine tkO 19 ?_ hHeld rfl ?_ ?_
 rotate_left
 ·intro w q;go_simp;try with_reducible rfl
 simp only[apt,List.set]
 refine tkO 20 (.slice ka nk kc) hHeld rfl ?_ ?_
 ·rintro w ⟨x0,x1,x2⟩;go_simp;try with_reducible rfl
 simp only[apt,List.set]
 refine tkO 21 ?_ hHeld rfl ?_ ?_
 rotate_left
 ·intro w q;go_simp;try with_reducible rfl
 simp only[apt,List.set]
 refine tkO 22 (.slice kd nkd kcd) hHeld rfl ?_ ?_
 ·(intro w q;go_simp;first | done | (rw[s4 w];rfl) | (simp[s4 w];try rfl))
 simp only[apt,List.set]
 clear s1 s2 s3 s4 wj hHeld
 obtain⟨WD,hWD⟩:∃WD,W.drew=WD:=⟨_,rfl⟩
 rw[hWD] at fD ⊢
 clear hWD
 refine wpAnyH_ready (rs:=[12,23]) (by kernel_rfl) (by simp) ?_
 refine AllReadyH.cons rfl (fun K hK=>?_) (AllReadyH.cons rfl (fun K hK=>?_) AllReadyH.nil)
 ·go_simp
  obtain⟨WA,hWA⟩:∃x,(WD).alloc (.cells #[.slice ba i bc,.slice ba2 nb2 bc2,.slice bd nbd bcd] 93)=x:=⟨_,rfl⟩
  have fA:St W WA:=(fD).trans' (hWA▸(Fr.refl _ _).alloc _:St (WD) WA) nE
  have oA:WA.heap[(WD).heap.size]? = some (.cells #[.slice ba i bc,.slice ba2 nb2 bc2,.slice bd nbd bcd] 93 (0,0)):=hWA▸heap_alloc_new _ _
  rw[hWA]
  refine hK.out _ _ (uh HSW _ (fA)) (fun _=>?_)
  clear hK K
  refine wpAnyH_ready (rs:=[13,23]) (by kernel_rfl) (by simp) ?_
  refine AllReadyH.cons rfl (fun K hK=>?_) (AllReadyH.cons rfl (fun K hK=>?_) AllReadyH.nil)
  ·go_simp
   go_wp2_with fail
   refine(uh HCS WA _ ((uh HFW).trans' (fA) nE) (oA)).mono ?_
   rintro e w3 ⟨va,vc,rfl,hv,hvb,g1⟩
   have f3:St W w3:=(fA).trans' g1 nE
   refine hK.out _ _ (uh HSW _ (f3)) (fun _=>?_)
   clear hK K
   refine rdO 23 rfl (fun K hK=>?_)
   go_simp
   obtain⟨WB,hWB⟩:∃x,(w3).alloc (.cells #[.slice ka i kc,.slice ka2 nk2 kc2,.slice kd nkd kcd] 94)=x:=⟨_,rfl⟩
   have fB:St W WB:=(f3).trans' (hWB▸(Fr.refl _ _).alloc _:St (w3) WB) nE
   have oB:WB.heap[(w3).heap.size]? = some (.cells #[.slice ka i kc,.slice ka2 nk2 kc2,.slice kd nkd kcd] 94 (0,0)):=hWB▸heap_alloc_new _ _
   rw[hWB]
   refine hK.out _ _ (uh HSW _ (fB)) (fun _=>?_)
   clear hK K
   refine rdO 24 rfl (fun K hK=>?_)
   go_simp
   go_wp2_with fail
   refine(uh HCK WB _ ((uh HFW).trans' (fB) nE) (oB)).mono ?_
   rintro e w5 ⟨ua,uc,rfl,hu,hub,g2⟩
   have f5:St W w5:=(fB).trans' g2 nE
   refine hK.out _ _ (uh HSW _ (f5)) (fun _=>?_)
   clear hK K
   have hv5:=hv.still ((hWB▸(Fr.refl _ _).alloc _:St w3 WB).trans' g2 nE)
   refine rdO 25 rfl (fun K hK=>?_)
   go_simp
   refine hK.out _ _ (uh HSW _ (f5)) (fun _=>?_)
   clear hK K
   have o5:=uh HR _ f5
   have r0:w5.cell? ⟨g+1,0,none⟩=some (.int .i64 0):=cOo o5 0
   have r1:w5.cell? ⟨g+1,1,none⟩=some (.slice none 0 0):=cOo o5 1
   have r2:w5.cell? ⟨g+1,2,none⟩=some (.slice none 0 0):=cOo o5 2
   have rz:∀o,w5.frozen? ⟨g+1,o,none⟩=false:=fun o=>by simp[World.frozen?,o5]
   refine rdO 26 rfl (fun K hK=>?_)
   go_simp
   have oF:=heap_setCell_same _ (g+1) 2 _ _ (.slice ua RK.length uc) (heap_setCell_same _ (g+1) 1 _ _ (.slice va RB.length vc) (heap_setCell_same w5 (g+1) 0 _ _ (.int .i64 (hh:Nat)) o5))
   have f6:Fr (fun k=>k=g+1) w5 (((w5.setCell ⟨g+1,0,none⟩ (.int .i64 (hh:Nat))).setCell ⟨g+1,1,none⟩ (.slice va RB.length vc)).setCell ⟨g+1,2,none⟩ (.slice ua RK.length uc)):=(((Fr.refl (fun k=>k=g+1) w5).setCell (.inl rfl) _).setCell (.inl rfl) _).setCell (.inl rfl) _
   obtain⟨y0,y1,y2⟩:=uh HSW _ f5
   refine hK.out _ _ ⟨f6.cell' y0 (fun x=>by have x:g=g+1:=x;omega),f6.cell' y1 (fun x=>by have x:g=g+1:=x;omega),f6.cell' y2 (fun x=>by have x:g=g+1:=x;omega)⟩ (fun _=>?_)
   clear hK K
   refine wpAnyH_done (by kernel_rfl) ?_ _
   go_wp2_with fail
   refine bodyPost_ret (results_cell_row Tryz.results142 _ _ (g+1) 96 #[.int .i64 hh,.slice va RB.length vc,.slice ua RK.length uc] (0,0) _ (by rfl) oF Tryz.underlying96 rfl (by kernel_rfl)) rfl ?_
   have hWz:g+2<=W.heap.size:=by
    have:=World.block_lt_of_cell? _ _ (cOo (uh HR _ (Fr.refl _ W)) 0)
    exact this
   have hvx:∀x,va=some x->W.heap.size<=x.block/\x.block<w5.heap.size:=fun x hx=>⟨Nat.le_trans (fA.size) (hvb x hx).1,Nat.lt_of_lt_of_le (hvb x hx).2 (Nat.le_trans (hWB▸(Fr.refl _ _).alloc _:St w3 WB).size g2.size)⟩
   have hux:∀x,ua=some x->W.heap.size<=x.block/\x.block<w5.heap.size:=fun x hx=>⟨Nat.le_trans (fB.size) (hub x hx).1,(hub x hx).2⟩
   refine⟨va,vc,ua,uc,rfl,hv5.kept f6 (fun x hx e=>by have:=(hvx x hx).1;omega),hu.kept f6 (fun x hx e=>by have:=(hux x hx).1;omega),fun x hx=>⟨by have:=(hvx x hx).1;omega,Nat.lt_of_lt_of_le (hvx x hx).2 f6.size⟩,fun x hx=>⟨by have:=(hux x hx).1;omega,Nat.lt_of_lt_of_le (hux x hx).2 f6.size⟩,((uh HFW).trans' f5 nE).trans' f6 (fun k hk=>.inr (by rw[hk,<-hg];omega))⟩
  ·go_simp
   obtain⟨WB,hWB⟩:∃x,(WA).alloc (.cells #[.slice ka i kc,.slice ka2 nk2 kc2,.slice kd nkd kcd] 94)=x:=⟨_,rfl⟩
   have fB:St W WB:=(fA).trans' (hWB▸(Fr.refl _ _).alloc _:St (WA) WB) nE
   have oB:WB.heap[(WA).heap.size]? = some (.cells #[.slice ka i kc,.slice ka2 nk2 kc2,.slice kd nkd kcd] 94 (0,0)):=hWB▸heap_alloc_new _ _
   rw[hWB]
   refine hK.out _ _ (uh HSW _ (fB)) (fun _=>?_)
   clear hK K
   refine rdO 13 rfl (fun K hK=>?_)
   go_simp
   go_wp2_with fail
   refine(uh HCS WB _ ((uh HFW).trans' (fB) nE) ((hWB▸(Fr.refl _ _).alloc _:St WA WB).obj oA id)).mono ?_
   rintro e w3 ⟨va,vc,rfl,hv,hvb,g1⟩
   have f3:St W w3:=(fB).trans' g1 nE
   refine hK.out _ _ (uh HSW _ (f3)) (fun _=>?_)
   clear hK K
   refine rdO 24 rfl (fun K hK=>?_)
   go_simp
   go_wp2_with fail
   refine(uh HCK w3 _ ((uh HFW).trans' (f3) nE) (g1.obj oB id)).mono ?_
   rintro e w5 ⟨ua,uc,rfl,hu,hub,g2⟩
   have f5:St W w5:=(f3).trans' g2 nE
   refine hK.out _ _ (uh HSW _ (f5)) (fun _=>?_)
   clear hK K
   have hv5:=hv.still (g2)
   refine rdO 25 rfl (fun K hK=>?_)
   go_simp
   refine hK.out _ _ (uh HSW _ (f5)) (fun _=>?_)
   clear hK K
   have o5:=uh HR _ f5
   have r0:w5.cell? ⟨g+1,0,none⟩=some (.int .i64 0):=cOo o5 0
   have r1:w5.cell? ⟨g+1,1,none⟩=some (.slice none 0 0):=cOo o5 1
   have r2:w5.cell? ⟨g+1,2,none⟩=some (.slice none 0 0):=cOo o5 2
   have rz:∀o,w5.frozen? ⟨g+1,o,none⟩=false:=fun o=>by simp[World.frozen?,o5]
   refine rdO 26 rfl (fun K hK=>?_)
   go_simp
   have oF:=heap_setCell_same _ (g+1) 2 _ _ (.slice ua RK.length uc) (heap_setCell_same _ (g+1) 1 _ _ (.slice va RB.length vc) (heap_setCell_same w5 (g+1) 0 _ _ (.int .i64 (hh:Nat)) o5))
   have f6:Fr (fun k=>k=g+1) w5 (((w5.setCell ⟨g+1,0,none⟩ (.int .i64 (hh:Nat))).setCell ⟨g+1,1,none⟩ (.slice va RB.length vc)).setCell ⟨g+1,2,none⟩ (.slice ua RK.length uc)):=(((Fr.refl (fun k=>k=g+1) w5).setCell (.inl rfl) _).setCell (.inl rfl) _).setCell (.inl rfl) _
   obtain⟨y0,y1,y2⟩:=uh HSW _ f5
   refine hK.out _ _ ⟨f6.cell' y0 (fun x=>by have x:g=g+1:=x;omega),f6.cell' y1 (fun x=>by have x:g=g+1:=x;omega),f6.cell' y2 (fun x=>by have x:g=g+1:=x;omega)⟩ (fun _=>?_)
   clear hK K
   refine wpAnyH_done (by kernel_rfl) ?_ _
   go_wp2_with fail
   refine bodyPost_ret (results_cell_row Tryz.results142 _ _ (g+1) 96 #[.int .i64 hh,.slice va RB.length vc,.slice ua RK.length uc] (0,0) _ (by rfl) oF Tryz.underlying96 rfl (by kernel_rfl)) rfl ?_
   have hWz:g+2<=W.heap.size:=by
    have:=World.block_lt_of_cell? _ _ (cOo (uh HR _ (Fr.refl _ W)) 0)
    exact this
   have hvx:∀x,va=some x->W.heap.size<=x.block/\x.block<w5.heap.size:=fun x hx=>⟨Nat.le_trans (fB.size) (hvb x hx).1,Nat.lt_of_lt_of_le (hvb x hx).2 (g2.size)⟩
   have hux:∀x,ua=some x->W.heap.size<=x.block/\x.block<w5.heap.size:=fun x hx=>⟨Nat.le_trans (f3.size) (hub x hx).1,(hub x hx).2⟩
   refine⟨va,vc,ua,uc,rfl,hv5.kept f6 (fun x hx e=>by have:=(hvx x hx).1;omega),hu.kept f6 (fun x hx e=>by have:=(hux x hx).1;omega),fun x hx=>⟨by have:=(hvx x hx).1;omega,Nat.lt_of_lt_of_le (hvx x hx).2 f6.size⟩,fun x hx=>⟨by have:=(hux x hx).1;omega,Nat.lt_of_lt_of_le (hux x hx).2 f6.size⟩,((uh HFW).trans' f5 nE).trans' f6 (fun k hk=>.inr (by rw[hk,<-hg];omega))⟩
 ·go_simp
  obtain⟨WB,hWB⟩:∃x,(WD).alloc (.cells #[.slice ka i kc,.slice ka2 nk2 kc2,.slice kd nkd kcd] 94)=x:=⟨_,rfl⟩
  have fB:St W WB:=(fD).trans' (hWB▸(Fr.refl _ _).alloc _:St (WD) WB) nE
  have oB:WB.heap[(WD).heap.size]? = some (.cells #[.slice ka i kc,.slice ka2 nk2 kc2,.slice kd nkd kcd] 94 (0,0)):=hWB▸heap_alloc_new _ _
  rw[hWB]
  refine hK.out _ _ (uh HSW _ (fB)) (fun _=>?_)
  clear hK K
  refine rdO 12 rfl (fun K hK=>?_)
  go_simp
  obtain⟨WA,hWA⟩:∃x,(WB).alloc (.cells #[.slice ba i bc,.slice ba2 nb2 bc2,.slice bd nbd bcd] 93)=x:=⟨_,rfl⟩
  have fA:St W WA:=(fB).trans' (hWA▸(Fr.refl _ _).alloc _:St (WB) WA) nE
  have oA:WA.heap[(WB).heap.size]? = some (.cells #[.slice ba i bc,.slice ba2 nb2 bc2,.slice bd nbd bcd] 93 (0,0)):=hWA▸heap_alloc_new _ _
  rw[hWA]
  refine hK.out _ _ (uh HSW _ (fA)) (fun _=>?_)
  clear hK K
  refine rdO 13 rfl (fun K hK=>?_)
  go_simp
  go_wp2_with fail
  refine(uh HCS WA _ ((uh HFW).trans' (fA) nE) (oA)).mono ?_
  rintro e w3 ⟨va,vc,rfl,hv,hvb,g1⟩
  have f3:St W w3:=(fA).trans' g1 nE
  refine hK.out _ _ (uh HSW _ (f3)) (fun _=>?_)
  clear hK K
  refine rdO 24 rfl (fun K hK=>?_)
  go_simp
  go_wp2_with fail
  refine(uh HCK w3 _ ((uh HFW).trans' (f3) nE) (((hWA▸(Fr.refl _ _).alloc _:St WB WA).trans' g1 nE).obj oB id)).mono ?_
  rintro e w5 ⟨ua,uc,rfl,hu,hub,g2⟩
  have f5:St W w5:=(f3).trans' g2 nE
  refine hK.out _ _ (uh HSW _ (f5)) (fun _=>?_)
  clear hK K
  have hv5:=hv.still (g2)
  refine rdO 25 rfl (fun K hK=>?_)
  go_simp
  refine hK.out _ _ (uh HSW _ (f5)) (fun _=>?_)
  clear hK K
  have o5:=uh HR _ f5
  have r0:w5.cell? ⟨g+1,0,none⟩=some (.int .i64 0):=cOo o5 0
  have r1:w5.cell? ⟨g+1,1,none⟩=some (.slice none 0 0):=cOo o5 1
  have r2:w5.cell? ⟨g+1,2,none⟩=some (.slice none 0 0):=cOo o5 2
  have rz:∀o,w5.frozen? ⟨g+1,o,none⟩=false:=fun o=>by simp[World.frozen?,o5]
  refine rdO 26 rfl (fun K hK=>?_)
  go_simp
  have oF:=heap_setCell_same _ (g+1) 2 _ _ (.slice ua RK.length uc) (heap_setCell_same _ (g+1) 1 _ _ (.slice va RB.length vc) (heap_setCell_same w5 (g+1) 0 _ _ (.int .i64 (hh:Nat)) o5))
  have f6:Fr (fun k=>k=g+1) w5 (((w5.setCell ⟨g+1,0,none⟩ (.int .i64 (hh:Nat))).setCell ⟨g+1,1,none⟩ (.slice va RB.length vc)).setCell ⟨g+1,2,none⟩ (.slice ua RK.length uc)):=(((Fr.refl (fun k=>k=g+1) w5).setCell (.inl rfl) _).setCell (.inl rfl) _).setCell (.inl rfl) _
  obtain⟨y0,y1,y2⟩:=uh HSW _ f5
  refine hK.out _ _ ⟨f6.cell' y0 (fun x=>by have x:g=g+1:=x;omega),f6.cell' y1 (fun x=>by have x:g=g+1:=x;omega),f6.cell' y2 (fun x=>by have x:g=g+1:=x;omega)⟩ (fun _=>?_)
  clear hK K
  refine wpAnyH_done (by kernel_rfl) ?_ _
  go_wp2_with fail
  refine bodyPost_ret (results_cell_row Tryz.results142 _ _ (g+1) 96 #[.int .i64 hh,.slice va RB.length vc,.slice ua RK.length uc] (0,0) _ (by rfl) oF Tryz.underlying96 rfl (by kernel_rfl)) rfl ?_
  have hWz:g+2<=W.heap.size:=by
   have:=World.block_lt_of_cell? _ _ (cOo (uh HR _ (Fr.refl _ W)) 0)
   exact this
  have hvx:∀x,va=some x->W.heap.size<=x.block/\x.block<w5.heap.size:=fun x hx=>⟨Nat.le_trans (fA.size) (hvb x hx).1,Nat.lt_of_lt_of_le (hvb x hx).2 (g2.size)⟩
  have hux:∀x,ua=some x->W.heap.size<=x.block/\x.block<w5.heap.size:=fun x hx=>⟨Nat.le_trans (f3.size) (hub x hx).1,(hub x hx).2⟩
  refine⟨va,vc,ua,uc,rfl,hv5.kept f6 (fun x hx e=>by have:=(hvx x hx).1;omega),hu.kept f6 (fun x hx e=>by have:=(hux x hx).1;omega),fun x hx=>⟨by have:=(hvx x hx).1;omega,Nat.lt_of_lt_of_le (hvx x hx).2 f6.size⟩,fun x hx=>⟨by have:=(hux x hx).1;omega,Nat.lt_of_lt_of_le (hux x hx).2 f6.size⟩,((uh HFW).trans' f5 nE).trans' f6 (fun k hk=>.inr (by rw[hk,<-hg];omega))⟩
set_option maxRecDepth 100000 in
theorem l_cut (a:Option Addr) (c:Nat) (l:List Pr) (i:Nat) (w:World) (h:Lf w a c l) (h1:1<=i) (hi:i<l.length) (hl:l.length<=500) (lt:ltK (l.getD (i - 1) default).1 (l.getD i default).1) (s1:(l.getD (i - 1) default).1.size<=80) (s2:(l.getD i default).1.size<=80) :
  Calls Tryz.prog 231 #[.slice a l.length c,.int .i64 i] w fun e w'=>∃x,e = .returned (.tuple #[.iface 100 (.slice a i c),.string x,.iface 100 (.slice (cutZ 2 a c i) (l.length - i) (c - i))])/\Btw (l.getD (i - 1) default).1 (l.getD i default).1 x/\St w w':=by
 have g:∀j (hj:j<l.length),l[j]? = some (l.getD j default):=fun j hj=>by simp[List.getD,List.getElem?_eq_getElem hj]
 obtain⟨b,o,rfl,c1,_⟩:=h.pair (g (i - 1) (by omega))
 obtain⟨b',o',e',c2,_⟩:=h.pair (g i hi)
 cases e'
 have hc:=h.cap
 have PA:=fun w'=>y_parting _ _ w' lt (by omega) (by omega)
 have t1:=fun w=>slice_toZ elt_P elem_leaf (some ⟨b,o,none⟩) l.length c i w (by omega)
 have t2:=fun w=>slice_fromZ elt_P elem_leaf (some ⟨b,o,none⟩) l.length c i w (by omega)
 have wi:IntKind.i64.wrap ((i:Int) - 1)=((i - 1:Nat):Int):=by rw[IntKind.wrap_i64];omega
 have q1:((i - 1:Nat):Int)<l.length:=by omega
 have q2:(i:Int)<l.length:=by omega
 have i5:i<=500:=by omega
 generalize (l.getD (i - 1) default).1=ka at *
 generalize (l.getD i default).1=kb' at *
 generalize cutZ 2 (some ⟨b,o,none⟩) c i=ca at *
 generalize l.length - i=ln at *
 generalize c - i=cn at *
 have im5:i - 1<=500:=by omega
 clear h g lt s1 s2 hc hl h1 hi
 generalize l.length=n at *
 generalize i - 1=im at *
 go_enter Tryz.func231,Tryz.ntmps231
 go_wp2_with fail
 have fD:St w w.drew:=(Fr.refl _ w).drewN 1
 refine wp_region_held_drew (S:=fun w'=>w'.cell? ⟨b,o+im * 2,none⟩=some (.string ka)/\w'.cell? ⟨b,o+i * 2,none⟩=some (.string kb')) (by kernel_rfl) ⟨c1,c2⟩ (fun hHeld=>?_)
 refine tkO 0 ?_ hHeld rfl ?_ ?_
 rotate_left
 ·intro w q;go_simp;try with_reducible rfl
 simp only[apt,List.set]
 refine tkO 1 ?_ hHeld rfl ?_ ?_
 rotate_left
 ·intro w q;go_simp;try with_reducible rfl
 simp only[apt,List.set]
 refine tkO 2 (.slice (some ⟨b,o,none⟩) i c) hHeld rfl ?_ ?_
 ·(intro w q;go_simp;first | done | (rw[t1 w];rfl) | (simp[t1 w];try rfl))
 simp only[apt,List.set]
 refine tkO 3 ?_ hHeld rfl ?_ ?_
 rotate_left
 ·intro w q;go_simp;try with_reducible rfl
 simp only[apt,List.set]
 refine tkO 4 ?_ hHeld rfl ?_ ?_
 rotate_left
 ·intro w q;go_simp;try with_reducible rfl
 simp only[apt,List.set]
 refine tkO 5 ?_ hHeld rfl ?_ ?_
 rotate_left
 ·intro w q;go_simp;try with_reducible rfl
 simp only[apt,List.set]
 refine tkO 6 (.int .i64 im) hHeld rfl ?_ ?_
 ·(intro w q;go_simp;first | done | (rw[wi]) | (simp[wi]))
 simp only[apt,List.set]
 refine tkO 7 (.pointer (some ⟨b,o+im * 2,none⟩)) hHeld rfl ?_ ?_
 ·(intro w q;go_simp;(try with_reducible rfl))
 simp only[apt,List.set]
 refine tkO 8 ?_ hHeld rfl ?_ ?_
 rotate_left
 ·intro w q;go_simp;try with_reducible rfl
 simp only[apt,List.set]
 refine tkO 9 (.string ka) hHeld rfl ?_ ?_
 ·rintro w ⟨x0,x1⟩;go_simp;try with_reducible rfl
 simp only[apt,List.set]
 refine tkO 10 ?_ hHeld rfl ?_ ?_
 rotate_left
 ·intro w q;go_simp;try with_reducible rfl
 simp only[apt,List.set]
 refine tkO 11 ?_ hHeld rfl ?_ ?_
 rotate_left
 ·intro w q;go_simp;try with_reducible rfl
 simp only[apt,List.set]
 refine tkO 12 (.pointer (some ⟨b,o+i * 2,none⟩)) hHeld rfl ?_ ?_
 ·(intro w q;go_simp;(try with_reducible rfl))
 simp only[apt,List.set]
 refine tkO 13 ?_ hHeld rfl ?_ ?_
 rotate_left
 ·intro w q;go_simp;try with_reducible rfl
 simp only[apt,List.set]
 refine tkO 14 (.string kb') hHeld rfl ?_ ?_
 ·rintro w ⟨x0,x1⟩;go_simp;try with_reducible rfl
 simp only[apt,List.set]
 refine tkO 16 ?_ hHeld rfl ?_ ?_
 rotate_left
 ·intro w q;go_simp;try with_reducible rfl
 simp only[apt,List.set]
 refine tkO 17 ?_ hHeld rfl ?_ ?_
 rotate_left
 ·intro w q;go_simp;try with_reducible rfl
 simp only[apt,List.set]
 refine tkO 18 (.slice ca ln cn) hHeld rfl ?_ ?_
 ·(intro w q;go_simp;first | done | (rw[t2 w];rfl) | (simp[t2 w];try rfl))
 simp only[apt,List.set]
 refine tkO 19 ?_ hHeld rfl ?_ ?_
 rotate_left
 ·intro w q;go_simp;try with_reducible rfl
 simp only[apt,List.set]
 refine rdO 15 rfl (fun K hK=>?_)
 go_simp
 go_wp2_with fail
 refine(PA _).mono ?_
 rintro e w2 ⟨x,rfl,bx,f2⟩
 have f02:St w w2:=fD.trans' f2 nE
 have hS:=ai (f02.cell' c1 id) (f02.cell' c2 id)
 refine hK.out _ _ hS (fun _=>?_)
 clear hK K hHeld
 have hHeld:=hS
 refine tkO 20 ?_ hHeld rfl ?_ ?_
 rotate_left
 ·intro w q;go_simp;try with_reducible rfl
 simp only[apt,List.set]
 refine tkO 21 ?_ hHeld rfl ?_ ?_
 rotate_left
 ·intro w q;go_simp;try with_reducible rfl
 simp only[apt,List.set]
 refine tkO 22 ?_ hHeld rfl ?_ ?_
 rotate_left
 ·intro w q;go_simp;try with_reducible rfl
 simp only[apt,List.set]
 refine wpAnyH_done (by kernel_rfl) ?_ _
 go_wp2_with fail
 go_ret3
 exact⟨x,rfl,bx,f02⟩
set_option maxRecDepth 100000 in
theorem b_cut (hh:Nat) (ba:Option Addr) (bc:Nat) (B:List ByteArray) (ka:Option Addr) (kc:Nat) (ks:List (Nat×Nat)) (i:Nat) (w:World) (hB:Kys w ba bc B) (hK:Kds w ka kc ks) (h1:1<=i) (hi:i<=B.length) (hi2:i<=ks.length) (_hl:ks.length<=500) (hl2:B.length<=500) :
  Calls Tryz.prog 225 #[brV hh ba B.length bc ka ks.length kc,.int .i64 i] w fun e w'=>e = .returned (.tuple #[.iface 96 (brV hh ba (i - 1) bc ka i kc),.string (B.getD (i - 1) default),.iface 96 (brV hh (cutZ 1 ba bc i) (B.length - i) (bc - i) (cutZ 2 ka kc i) (ks.length - i) (kc - i))])/\St w w':=by
 have cb:=hB.cap;have ck:=hK.cap
 have t1:=fun w=>slice_toZ elt_S elem_strs ba B.length bc (i - 1) w (by omega)
 have t2:=fun w=>slice_toZ elt_K elem_kids ka ks.length kc i w (by omega)
 have t3:=fun w=>slice_fromZ elt_S elem_strs ba B.length bc i w hi
 have t4:=fun w=>slice_fromZ elt_K elem_kids ka ks.length kc i w hi2
 have wi:IntKind.i64.wrap ((i:Int) - 1)=((i - 1:Nat):Int):=by rw[IntKind.wrap_i64];omega
 have q1:((i - 1:Nat):Int)<B.length:=by omega
 obtain⟨b,o,rfl,c1⟩:=hB.strs (i - 1) (by omega)
 have c1':w.cell? ⟨b,o+(i - 1),none⟩=some (.string (B.getD (i - 1) default)):=c1
 obtain⟨W,hW⟩:∃W,w.alloc (.cells #[.int .i64 hh,.slice (some ⟨b,o,none⟩) B.length bc,.slice ka ks.length kc] 96)=W:=⟨_,rfl⟩
 have fW:St w W:=hW▸(Fr.refl _ w).alloc _
 have oW:W.heap[w.heap.size]? = some (.cells #[.int .i64 hh,.slice (some ⟨b,o,none⟩) B.length bc,.slice ka ks.length kc] 96 (0,0)):=hW▸heap_alloc_new w _
 have d0:W.cell? ⟨w.heap.size,0,none⟩=some (.int .i64 hh):=cOo oW 0
 have d1:W.cell? ⟨w.heap.size,1,none⟩=some (.slice (some ⟨b,o,none⟩) B.length bc):=cOo oW 1
 have d2:W.cell? ⟨w.heap.size,2,none⟩=some (.slice ka ks.length kc):=cOo oW 2
 replace c1:=fW.cell' c1' id
 generalize cutZ 1 (some ⟨b,o,none⟩) bc i=ca at *
 generalize B.length - i=bn at *
 generalize bc - i=bcn at *
 generalize cutZ 2 ka kc i=cka at *
 generalize ks.length - i=kn at *
 generalize kc - i=kcn at *
 generalize B.getD (i - 1) default=kx at *
 have i5:i<=500:=by omega
 have im5:i - 1<=500:=by omega
 have HW:=Hd hW;have HF:=Hd fW
 clear hB hK hW fW oW _hl hl2 h1 hi hi2 cb ck c1'
 generalize B.length=nb at *
 generalize ks.length=nk at *
 generalize i - 1=im at *
 go_enter Tryz.func225,Tryz.ntmps225
 go_wp2_with fail
 rw[uh HW]
 clear HW
 generalize w.heap.size=g at *
 go_quiet (fail)
 go_wp2_with fail
 go_ret3
 exact⟨rfl,(uh HF).drewN _⟩
set_option maxRecDepth 100000 in
theorem halvedL (a:Option Addr) (n c:Nat) (w:World) (LV RV:Nat->Value) (SL SR:Nat->Nat) (Good:Nat->ByteArray->Prop) (hn:1+1<=n) (hn5:n<=500)
  (IT:∀w',St w w'->Calls Tryz.prog 233 #[.slice a n c] w' fun e w''=>∃v xs,e = .returned v/\w''.ownsRow w'.heap.size 27 1 v n xs/\St w' w'')
  (LE:∀w',Calls Tryz.prog 235 #[.slice a n c] w' fun e w''=>e = .returned (.int .i64 1)/\St w' w'')
  (CU:∀w',St w w'->∀j,1<=j->j+1<=n->Calls Tryz.prog 231 #[.slice a n c,.int .i64 j] w' fun e w''=>∃x,e = .returned (.tuple #[LV j,.string x,RV j])/\Good j x/\St w' w'')
  (ZL:∀w',St w w'->∀j,1<=j->j+1<=n->Calls Tryz.prog 137 #[LV j] w' fun e w''=>e = .returned (.int .i64 (SL j))/\St w' w'')
  (ZR:∀w',St w w'->∀j,1<=j->j+1<=n->Calls Tryz.prog 137 #[RV j] w' fun e w''=>e = .returned (.int .i64 (SR j))/\St w' w'')
  (P1:∀j,1<=SL j) (hS:∀j,SL j<=100000/\SR j<=100000) :
  Calls Tryz.prog 138 #[.iface 100 (.slice a n c)] w fun e w'=>∃i x,1<=i/\i+1<=n/\e = .returned (.tuple #[LV i,.string x,RV i])/\Good i x/\(∀j,1<=j->j+1<=n->max (SL i) (SR i)<=max (SL j) (SR j))/\St w w':=by
 have HIT:=@Hd _ IT;have HCU:=@Hd _ CU;have HZL:=@Hd _ ZL;have HZR:=@Hd _ ZR;have HP:=@Hd _ P1;have HS:=@Hd _ hS;have HLE:=@Hd _ LE
 clear IT CU ZL ZR P1 hS LE
 go_enter Tryz.func138,Tryz.ntmps138
 go_wp2_with fail
 refine(uh HLE _).mono ?_
 rintro e w1 ⟨rfl,f1⟩
 go_wp2_with fail
 go_loopw [2,3,4,5,6] (fun v2 v3 v4 v5 v6 wr=>∃r:Nat,v6 = .int .i64 r/\1<=r/\r<=n/\((r=1/\v5 = .int .i64 0)\/(∃(i:Nat) (x:ByteArray),1<=i/\i<r/\i+1<=n/\v2=LV i/\v3 = .string x/\v4=RV i/\v5 = .int .i64 (max (SL i) (SR i):Nat)/\Good i x/\∀j,1<=j->j<r->j+1<=n->max (SL i) (SR i)<=max (SL j) (SR j)))/\St w wr) (fun _ _ _ _ v6 _=>n+1 - (intOf v6).toNat)
 case atStart=>exact⟨1,rfl,Nat.le_refl _,by omega,.inl ⟨rfl,rfl⟩,f1⟩
 case round=>
  obtain⟨r,rfl,h1,h2,hcs,fr⟩:=hrel
  generalize wr=wq at *
  clear wr f1
  have IT:=uh HIT wq fr
  go_wp2_with fail
  refine IT.mono ?_
  rintro e w2 ⟨iv,xs,rfl,hiv,f2⟩
  clear IT
  obtain⟨ia,ic,rfl⟩:=rows_form hiv
  clear hiv
  have f02:St w w2:=fr.trans' f2 nE
  have LE:=uh HLE w2
  go_wp2_with fail
  refine LE.mono ?_
  rintro e w3 ⟨rfl,f3⟩
  clear LE
  have f03:St w w3:=f02.trans' f3 nE
  have wn:IntKind.i64.wrap ((n:Int) - 1)=(n:Int) - 1:=(wrap_small _ (by omega) (by omega)).1
  by_cases hlt:r+1<=n
  ·have hle:((r:Int)<=(n:Int) - 1)=True:=eq_true (by omega)
   have CU:=uh HCU w3 f03 r h1 hlt
   go_wp2_with fail
   refine CU.mono ?_
   rintro e w4 ⟨x,rfl,gx,f4⟩
   clear CU
   have f04:St w w4:=f03.trans' f4 nE
   have ZL:=uh HZL w4 f04 r h1 hlt
   go_wp2_with fail
   refine ZL.mono ?_
   rintro e w5 ⟨rfl,f5⟩
   clear ZL
   have f05:St w w5:=f04.trans' f5 nE
   have ZR:=uh HZR w5 f05 r h1 hlt
   go_wp2_with fail
   refine ZR.mono ?_
   rintro e w6 ⟨rfl,f6⟩
   clear ZR
   have f06:St w w6:=f05.trans' f6 nE
   have HG:=Hd (ai gx f06)
   have p1:=uh HP r
   have p2:=uh HS r
   obtain⟨M,hM⟩:∃M,max (SL r) (SR r)=M:=⟨_,rfl⟩
   have hMi:max ((SL r:Nat):Int) ((SR r:Nat):Int)=(M:Int):=by omega
   have hM1:1<=M:=by omega
   clear gx f06 f2 f3 f4 f5 f6 fr f02 f03 f04 f05
   rcases hcs with ⟨rfl,rfl⟩ | ⟨i,y,i1,i2,i3,rfl,rfl,rfl,rfl,gi,hmin⟩
   ·have HM:=Hd hM
    clear hM p1 p2
    go_wp2_with fail
    obtain⟨gx,f06⟩:=uh HG
    refine⟨⟨1+1,by simp,by omega,by omega,.inr ⟨1,x,Nat.le_refl _,by omega,hlt,rfl,rfl,rfl,by rw[uh HM],gx,fun j j1 j2 j3=>?_⟩,f06⟩,by simp[intOf];omega⟩
    have e:j=1:=by omega
    subst e
    exact Nat.le_refl _
   ·obtain⟨Mi,hMd⟩:∃Mi,max (SL i) (SR i)=Mi:=⟨_,rfl⟩
    have hMi1:1<=Mi:=by have:=uh HP i;omega
    rw[hMd] at hmin ⊢
    have hz:((Mi:Int) == 0)=false:=by simp;omega
    have HM:=Hd (ai hM (ai hMd (ai gi hmin)))
    clear hM p1 p2 hMd gi hmin
    by_cases hlM:M<Mi
    ·have hlM':((M:Int)<(Mi:Int))=True:=eq_true (by omega)
     go_wp2_with fail
     obtain⟨gx,f06⟩:=uh HG
     obtain⟨hM,hMd,gi,hmin⟩:=uh HM
     refine⟨⟨r+1,by simp,by omega,by omega,.inr ⟨r,x,h1,by omega,hlt,rfl,rfl,rfl,by rw[hM],gx,fun j j1 j2 j3=>?_⟩,f06⟩,by simp[intOf];omega⟩
     by_cases e:j=r
     ·subst e
      exact Nat.le_refl _
     ·have:=hmin j j1 (by omega) j3
      omega
    ·have hlM':((M:Int)<(Mi:Int))=False:=eq_false (by omega)
     go_wp2_with fail
     obtain⟨gx,f06⟩:=uh HG
     obtain⟨hM,hMd,gi,hmin⟩:=uh HM
     refine⟨⟨r+1,by simp,by omega,by omega,.inr ⟨i,y,i1,by omega,i3,rfl,rfl,rfl,by rw[hMd],gi,fun j j1 j2 j3=>?_⟩,f06⟩,by simp[intOf];omega⟩
     by_cases e:j=r
     ·subst e
      omega
     ·have:=hmin j j1 (by omega) j3
      omega
  ·have hle:((r:Int)<=(n:Int) - 1)=False:=eq_false (by omega)
   rcases hcs with ⟨rfl,rfl⟩ | ⟨i,y,i1,i2,i3,rfl,rfl,rfl,rfl,gi,hmin⟩
   ·exact absurd hn hlt
   ·have HM:=Hd (ai gi (ai hmin f03))
    clear gi hmin f02 f03 f2 f3 fr
    go_wp2_with fail
    go_ret3
    obtain⟨gi,hmin,f03⟩:=uh HM
    exact⟨i,y,i1,i3,rfl,gi,fun j j1 j2=>hmin j j1 (by omega) j2,f03⟩
set_option maxRecDepth 100000 in
theorem halvedB (hh:Nat) (ba:Option Addr) (nb bc:Nat) (ka:Option Addr) (n kc:Nat) (w:World) (LV RV:Nat->Value) (SL SR:Nat->Nat) (Good:Nat->ByteArray->Prop) (hn:2+2<=n) (hn5:n<=500)
  (IT:∀w',St w w'->Calls Tryz.prog 227 #[brV hh ba nb bc ka n kc] w' fun e w''=>∃v xs,e = .returned v/\w''.ownsRow w'.heap.size 27 1 v n xs/\St w' w'')
  (LE:∀w',Calls Tryz.prog 229 #[brV hh ba nb bc ka n kc] w' fun e w''=>e = .returned (.int .i64 2)/\St w' w'')
  (CU:∀w',St w w'->∀j,2<=j->j+2<=n->Calls Tryz.prog 225 #[brV hh ba nb bc ka n kc,.int .i64 j] w' fun e w''=>∃x,e = .returned (.tuple #[LV j,.string x,RV j])/\Good j x/\St w' w'')
  (ZL:∀w',St w w'->∀j,2<=j->j+2<=n->Calls Tryz.prog 137 #[LV j] w' fun e w''=>e = .returned (.int .i64 (SL j))/\St w' w'')
  (ZR:∀w',St w w'->∀j,2<=j->j+2<=n->Calls Tryz.prog 137 #[RV j] w' fun e w''=>e = .returned (.int .i64 (SR j))/\St w' w'')
  (P1:∀j,1<=SL j) (hS:∀j,SL j<=100000/\SR j<=100000) :
  Calls Tryz.prog 138 #[.iface 96 (brV hh ba nb bc ka n kc)] w fun e w'=>∃i x,2<=i/\i+2<=n/\e = .returned (.tuple #[LV i,.string x,RV i])/\Good i x/\(∀j,2<=j->j+2<=n->max (SL i) (SR i)<=max (SL j) (SR j))/\St w w':=by
 have HIT:=@Hd _ IT;have HCU:=@Hd _ CU;have HZL:=@Hd _ ZL;have HZR:=@Hd _ ZR;have HP:=@Hd _ P1;have HS:=@Hd _ hS;have HLE:=@Hd _ LE
 clear IT CU ZL ZR P1 hS LE
 go_enter Tryz.func138,Tryz.ntmps138
 go_wp2_with fail
 refine(uh HLE _).mono ?_
 rintro e w1 ⟨rfl,f1⟩
 go_wp2_with fail
 go_loopw [2,3,4,5,6] (fun v2 v3 v4 v5 v6 wr=>∃r:Nat,v6 = .int .i64 r/\2<=r/\r<=n/\((r=2/\v5 = .int .i64 0)\/(∃(i:Nat) (x:ByteArray),2<=i/\i<r/\i+2<=n/\v2=LV i/\v3 = .string x/\v4=RV i/\v5 = .int .i64 (max (SL i) (SR i):Nat)/\Good i x/\∀j,2<=j->j<r->j+2<=n->max (SL i) (SR i)<=max (SL j) (SR j)))/\St w wr) (fun _ _ _ _ v6 _=>n+1 - (intOf v6).toNat)
 case atStart=>exact⟨2,rfl,Nat.le_refl _,by omega,.inl ⟨rfl,rfl⟩,f1⟩
 case round=>
  obtain⟨r,rfl,h1,h2,hcs,fr⟩:=hrel
  generalize wr=wq at *
  clear wr f1
  have IT:=uh HIT wq fr
  go_wp2_with fail
  refine IT.mono ?_
  rintro e w2 ⟨iv,xs,rfl,hiv,f2⟩
  clear IT
  obtain⟨ia,ic,rfl⟩:=rows_form hiv
  clear hiv
  have f02:St w w2:=fr.trans' f2 nE
  have LE:=uh HLE w2
  go_wp2_with fail
  refine LE.mono ?_
  rintro e w3 ⟨rfl,f3⟩
  clear LE
  have f03:St w w3:=f02.trans' f3 nE
  have wn:IntKind.i64.wrap ((n:Int) - 2)=(n:Int) - 2:=(wrap_small _ (by omega) (by omega)).1
  by_cases hlt:r+2<=n
  ·have hle:((r:Int)<=(n:Int) - 2)=True:=eq_true (by omega)
   have CU:=uh HCU w3 f03 r h1 hlt
   go_wp2_with fail
   refine CU.mono ?_
   rintro e w4 ⟨x,rfl,gx,f4⟩
   clear CU
   have f04:St w w4:=f03.trans' f4 nE
   have ZL:=uh HZL w4 f04 r h1 hlt
   go_wp2_with fail
   refine ZL.mono ?_
   rintro e w5 ⟨rfl,f5⟩
   clear ZL
   have f05:St w w5:=f04.trans' f5 nE
   have ZR:=uh HZR w5 f05 r h1 hlt
   go_wp2_with fail
   refine ZR.mono ?_
   rintro e w6 ⟨rfl,f6⟩
   clear ZR
   have f06:St w w6:=f05.trans' f6 nE
   have HG:=Hd (ai gx f06)
   have p1:=uh HP r
   have p2:=uh HS r
   obtain⟨M,hM⟩:∃M,max (SL r) (SR r)=M:=⟨_,rfl⟩
   have hMi:max ((SL r:Nat):Int) ((SR r:Nat):Int)=(M:Int):=by omega
   have hM1:1<=M:=by omega
   clear gx f06 f2 f3 f4 f5 f6 fr f02 f03 f04 f05
   rcases hcs with ⟨rfl,rfl⟩ | ⟨i,y,i1,i2,i3,rfl,rfl,rfl,rfl,gi,hmin⟩
   ·have HM:=Hd hM
    clear hM p1 p2
    go_wp2_with fail
    obtain⟨gx,f06⟩:=uh HG
    refine⟨⟨2+1,by simp,by omega,by omega,.inr ⟨2,x,Nat.le_refl _,by omega,hlt,rfl,rfl,rfl,by rw[uh HM],gx,fun j j1 j2 j3=>?_⟩,f06⟩,by simp[intOf];omega⟩
    have e:j=2:=by omega
    subst e
    exact Nat.le_refl _
   ·obtain⟨Mi,hMd⟩:∃Mi,max (SL i) (SR i)=Mi:=⟨_,rfl⟩
    have hMi1:1<=Mi:=by have:=uh HP i;omega
    rw[hMd] at hmin ⊢
    have hz:((Mi:Int) == 0)=false:=by simp;omega
    have HM:=Hd (ai hM (ai hMd (ai gi hmin)))
    clear hM p1 p2 hMd gi hmin
    by_cases hlM:M<Mi
    ·have hlM':((M:Int)<(Mi:Int))=True:=eq_true (by omega)
     go_wp2_with fail
     obtain⟨gx,f06⟩:=uh HG
     obtain⟨hM,hMd,gi,hmin⟩:=uh HM
     refine⟨⟨r+1,by simp,by omega,by omega,.inr ⟨r,x,h1,by omega,hlt,rfl,rfl,rfl,by rw[hM],gx,fun j j1 j2 j3=>?_⟩,f06⟩,by simp[intOf];omega⟩
     by_cases e:j=r
     ·subst e
      exact Nat.le_refl _
     ·have:=hmin j j1 (by omega) j3
      omega
    ·have hlM':((M:Int)<(Mi:Int))=False:=eq_false (by omega)
     go_wp2_with fail
     obtain⟨gx,f06⟩:=uh HG
     obtain⟨hM,hMd,gi,hmin⟩:=uh HM
     refine⟨⟨r+1,by simp,by omega,by omega,.inr ⟨i,y,i1,by omega,i3,rfl,rfl,rfl,by rw[hMd],gi,fun j j1 j2 j3=>?_⟩,f06⟩,by simp[intOf];omega⟩
     by_cases e:j=r
     ·subst e
      omega
     ·have:=hmin j j1 (by omega) j3
      omega
  ·have hle:((r:Int)<=(n:Int) - 2)=False:=eq_false (by omega)
   rcases hcs with ⟨rfl,rfl⟩ | ⟨i,y,i1,i2,i3,rfl,rfl,rfl,rfl,gi,hmin⟩
   ·exact absurd hn hlt
   ·have HM:=Hd (ai gi (ai hmin f03))
    clear gi hmin f02 f03 f2 f3 fr
    go_wp2_with fail
    go_ret3
    obtain⟨gi,hmin,f03⟩:=uh HM
    exact⟨i,y,i1,i3,rfl,gi,fun j j1 j2=>hmin j j1 (by omega) j2,f03⟩
end Go.Proofs.YtbiopjmpdhcjgaaGreatDoor
