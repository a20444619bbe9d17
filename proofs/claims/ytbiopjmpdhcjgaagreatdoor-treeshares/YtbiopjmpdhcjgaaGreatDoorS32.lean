/- Joined: Db Dc. -/
import Derived.Test.YtbiopjmpdhcjgaaGreatDoorS24
import Derived.Test.YtbiopjmpdhcjgaaGreatDoorS31
namespace Go.Proofs.YtbiopjmpdhcjgaaGreatDoor
open Go.RowKit
set_option maxHeartbeats 4000000
set_option maxRecDepth 100000 in
theorem b_without (hh:Nat) (ba:Option Addr) (bc:Nat) (B:List ByteArray) (ka:Option Addr) (kc:Nat) (ks:List (Nat×Nat)) (i:Nat) (w:World) (hB:Kys w ba bc B) (hK:Kds w ka kc ks) (hlen:ks.length=B.length+1) (hB1:1<=B.length) (hi:i<ks.length) (hl:ks.length<=500) :
  Calls Tryz.prog 149 #[brV hh ba B.length bc ka ks.length kc,.int .i64 i] w fun e w'=>∃va vc ua uc,e = .returned (brV hh va (B.take (i - 1) ++ B.drop (i - 1+1)).length vc ua (ks.take i ++ ks.drop (i+1)).length uc)/\Kys w' va vc (B.take (i - 1) ++ B.drop (i - 1+1))/\Kds w' ua uc (ks.take i ++ ks.drop (i+1))/\(∀x,va=some x->w.heap.size<=x.block/\x.block<w'.heap.size)/\(∀x,ua=some x->w.heap.size<=x.block/\x.block<w'.heap.size)/\St w w':=by
 have cb:=hB.cap;have ck:=hK.cap
 obtain⟨k,hk⟩:∃k,i - 1=k:=⟨_,rfl⟩
 have mx:max (wrap64 ((i:Int) - 1)) 0=(k:Int):=by rw[small_w64 (by omega)];omega
 rw[hk]
 have hkB:k+1<=B.length:=by omega
 have s1:=fun w=>slice_toZ elt_S elem_strs ba B.length bc k w (by omega)
 have s2:=fun w=>(show(Instr.slice 93 (.slice ba B.length bc) (some (.int .i64 ((k:Int)+1))) none none).run Tryz.prog w=_ from slice_fromZ elt_S elem_strs ba B.length bc (k+1) w hkB)
 have s3:=fun w=>slice_toZ elt_K elem_kids ka ks.length kc i w (by omega)
 have s4:=fun w=>(show(Instr.slice 94 (.slice ka ks.length kc) (some (.int .i64 ((i:Int)+1))) none none).run Tryz.prog w=_ from slice_fromZ elt_K elem_kids ka ks.length kc (i+1) w (by omega))
 have wk:IntKind.i64.wrap ((k:Int)+1)=(k:Int)+1:=by rw[IntKind.wrap_i64];omega
 have wi:IntKind.i64.wrap ((i:Int)+1)=(i:Int)+1:=by rw[IntKind.wrap_i64];omega
 have SB1:=hB.take (k:=k) (by omega);have SB3:=hB.drop (k+1) hkB;have SK1:=hK.take (k:=i) (by omega);have SK3:=hK.drop (i+1) (by omega)
 rw[kcl_take] at SK1
 rw[kcl_drop] at SK3
 rw[Nat.mul_one,<-List.map_take] at SB1
 rw[Nat.mul_one,<-List.map_drop] at SB3
 generalize hbd:cutZ 1 ba bc (k+1)=bd at *
 generalize hkd:cutZ 2 ka kc (i+1)=kd at *
 generalize hbcd:bc - (k+1)=bcd at *
 generalize hkcd:kc - (i+1)=kcd at *
 have CS:∀W g,St w W->W.heap[g]? = some (.cells #[.slice ba k bc,.slice bd (B.length - (k+1)) bcd] 93 (0,0))->Calls Tryz.prog 180 #[.slice (some ⟨g,0,none⟩) 2 2] W fun e w'=>∃va vc,e = .returned (.slice va (B.take k ++ B.drop (k+1)).length vc)/\Kys w' va vc (B.take k ++ B.drop (k+1))/\(∀x,va=some x->W.heap.size<=x.block/\x.block<w'.heap.size)/\St W w':=fun W g f o=>by
  refine(cat2g_S W g _ _ _ _ _ _ _ _ o (SB1.still f) (SB3.still f) (by omega)).mono ?_
  rintro e w' ⟨v,rfl,hv,f'⟩
  rw[show k+(B.length - (k+1))=(B.take k ++ B.drop (k+1)).length by simp;omega] at hv
  rw[<-List.map_append] at hv
  obtain⟨va,vc,rfl⟩:=rowZ hv
  exact⟨va,vc,rfl,sl_of_row hv (str_one _),own_block hv,f'⟩
 have CK:∀W g,St w W->W.heap[g]? = some (.cells #[.slice ka i kc,.slice kd (ks.length - (i+1)) kcd] 94 (0,0))->Calls Tryz.prog 181 #[.slice (some ⟨g,0,none⟩) 2 2] W fun e w'=>∃va vc,e = .returned (.slice va (ks.take i ++ ks.drop (i+1)).length vc)/\Kds w' va vc (ks.take i ++ ks.drop (i+1))/\(∀x,va=some x->W.heap.size<=x.block/\x.block<w'.heap.size)/\St W w':=fun W g f o=>by
  refine(cat2g_K W g _ _ _ _ _ _ _ _ o (SK1.still f) (SK3.still f) (by omega)).mono ?_
  rintro e w' ⟨v,rfl,hv,f'⟩
  rw[show i+(ks.length - (i+1))=(ks.take i ++ ks.drop (i+1)).length by simp;omega] at hv
  rw[<-kcl_app] at hv
  obtain⟨va,vc,rfl⟩:=rowZ hv
  exact⟨va,vc,rfl,sl_of_row hv kcl_one,own_block hv,f'⟩
 generalize B.take k ++ B.drop (k+1)=RB at *
 generalize ks.take i ++ ks.drop (i+1)=RK at *
 generalize hj1:B.length - (k+1)=nbd at *
 generalize hj3:ks.length - (i+1)=nkd at *
 have HCS:=@Hd _ CS;have HCK:=@Hd _ CK
 clear CS CK SB1 SB3 SK1 SK3 hB hK hbd hkd hbcd hkcd hj1 hj3 hi hl cb ck hkB hB1 hlen
 generalize B.length=nb at *
 generalize ks.length=nk at *
 obtain⟨W,hW⟩:∃W,(w.alloc (.cells #[.int .i64 hh,.slice ba nb bc,.slice ka nk kc] 96)).alloc (.cells #[.int .i64 0,.slice none 0 0,.slice none 0 0] 96)=W:=⟨_,rfl⟩
 have fW:St w W:=hW▸((Fr.refl _ w).alloc _).alloc _
 have oB:W.heap[w.heap.size]? = some (.cells #[.int .i64 hh,.slice ba nb bc,.slice ka nk kc] 96 (0,0)):=by
  have:=heap_alloc_new w (.cells #[.int .i64 hh,.slice ba nb bc,.slice ka nk kc] 96)
  rw[<-hW]
  exact((Fr.refl (fun _=>False) _).alloc _).obj this id
 have oR:W.heap[w.heap.size+1]? = some (.cells #[.int .i64 0,.slice none 0 0,.slice none 0 0] 96 (0,0)):=by
  have:=heap_alloc_new (w.alloc (.cells #[.int .i64 hh,.slice ba nb bc,.slice ka nk kc] 96)) (.cells #[.int .i64 0,.slice none 0 0,.slice none 0 0] 96)
  rw[hW] at this
  simpa using this
 have HW:=Hd hW
 clear hW
 generalize hg:w.heap.size=g at *
 have HSW:=@Hd _ (fun(w':World) (f:St W w')=>show w'.cell? ⟨g,0,none⟩=some (.int .i64 hh)/\w'.cell? ⟨g,1,none⟩=some (.slice ba nb bc)/\w'.cell? ⟨g,2,none⟩=some (.slice ka nk kc) from⟨cOo (f.obj oB id) 0,cOo (f.obj oB id) 1,cOo (f.obj oB id) 2⟩)
 have HR:=@Hd _ (fun(w':World) (f:St W w')=>f.obj oR id)
 have HFW:=Hd fW
 clear oB oR fW
 go_enter Tryz.func149,Tryz.ntmps149
 go_wp2_with fail
 rw[uh HW]
 clear HW
 clear mx hk
 have fD:St W W.drew:=(Fr.refl _ W).drewN 1
 refine wp_region_held_drew (S:=fun w'=>w'.cell? ⟨g,0,none⟩=some (.int .i64 hh)/\w'.cell? ⟨g,1,none⟩=some (.slice ba nb bc)/\w'.cell? ⟨g,2,none⟩=some (.slice ka nk kc)) (by kernel_rfl) (uh HSW _ fD) (fun hHeld=>?_)
 clear hHeld
 have hHeld:=uh HSW _ fD
 refine tkO 0 ?_ hHeld rfl ?_ ?_
 rotate_left
 ·intro w q;go_simp;try with_reducible rfl
 simp only[apt,List.set]
 refine tkO 1 (.int .i64 hh) hHeld rfl ?_ ?_
 ·rintro w ⟨x0,x1,x2⟩;go_simp;try with_reducible rfl
 simp only[apt,List.set]
 refine tkO 2 ?_ hHeld rfl ?_ ?_
 rotate_left
 ·intro w q;go_simp;try with_reducible rfl
 simp only[apt,List.set]
 refine tkO 3 (.slice ba nb bc) hHeld rfl ?_ ?_
 ·rintro w ⟨x0,x1,x2⟩;go_simp;try with_reducible rfl
 simp only[apt,List.set]
 refine tkO 4 ?_ hHeld rfl ?_ ?_
 rotate_left
 ·intro w q;go_simp;try with_reducible rfl
 simp only[apt,List.set]
 refine tkO 5 (.slice ba k bc) hHeld rfl ?_ ?_
 ·(intro w q;go_simp;first | done | (rw[s1 w];rfl) | (simp[s1 w];try rfl))
 simp only[apt,List.set]
 refine tkO 6 ?_ hHeld rfl ?_ ?_
 rotate_left
 ·intro w q;go_simp;try with_reducible rfl
 simp only[apt,List.set]
 refine tkO 7 (.slice ba nb bc) hHeld rfl ?_ ?_
 ·rintro w ⟨x0,x1,x2⟩;go_simp;try with_reducible rfl
 simp only[apt,List.set]
 refine tkO 8 ?_ hHeld rfl ?_ ?_
 rotate_left
 ·intro w q;go_simp;try with_reducible rfl
 simp only[apt,List.set]
 refine tkO 9 ?_ hHeld rfl ?_ ?_
 rotate_left
 ·intro w q;go_simp;try with_reducible rfl
 simp only[apt,List.set]
 refine tkO 10 (.slice bd nbd bcd) hHeld rfl ?_ ?_
 ·(intro w q;go_simp;first | done | (rw[s2 w];rfl) | (simp[s2 w];try rfl))
 simp only[apt,List.set]
 refine tkO 13 ?_ hHeld rfl ?_ ?_
 rotate_left
 ·intro w q;go_simp;try with_reducible rfl
 simp only[apt,List.set]
 refine tkO 14 (.slice ka nk kc) hHeld rfl ?_ ?_
 ·rintro w ⟨x0,x1,x2⟩;go_simp;try with_reducible rfl
 simp only[apt,List.set]
 refine tkO 15 ?_ hHeld rfl ?_ ?_
 rotate_left
 ·intro w q;go_simp;try with_reducible rfl
 simp only[apt,List.set]
 refine tkO 16 (.slice ka i kc) hHeld rfl ?_ ?_
 ·(intro w q;go_simp;first | done | (rw[s3 w];rfl) | (simp[s3 w];try rfl))
 simp only[apt,List.set]
 refine tkO 17 ?_ hHeld rfl ?_ ?_
 rotate_left
 ·intro w q;go_simp;try with_reducible rfl
 simp only[apt,List.set]
 refine tkO 18 (.slice ka nk kc) hHeld rfl ?_ ?_
 ·rintro w ⟨x0,x1,x2⟩;go_simp;try with_reducible rfl
 simp only[apt,List.set]
 refine tkO 19 ?_ hHeld rfl ?_ ?_
 rotate_left
 ·intro w q;go_simp;try with_reducible rfl
 simp only[apt,List.set]
 refine tkO 20 ?_ hHeld rfl ?_ ?_
 rotate_left
 ·intro w q;go_simp;try with_reducible rfl
 simp only[apt,List.set]
 refine tkO 21 (.slice kd nkd kcd) hHeld rfl ?_ ?_
 ·(intro w q;go_simp;first | done | (rw[s4 w];rfl) | (simp[s4 w];try rfl))
 simp only[apt,List.set]
 clear s1 s2 s3 s4 wi wk hHeld
 obtain⟨WD,hWD⟩:∃WD,W.drew=WD:=⟨_,rfl⟩
 rw[hWD] at fD ⊢
 clear hWD
 refine wpAnyH_ready (rs:=[11,22]) (by kernel_rfl) (by simp) ?_
 refine AllReadyH.cons rfl (fun K hK=>?_) (AllReadyH.cons rfl (fun K hK=>?_) AllReadyH.nil)
 ·go_simp
  obtain⟨WA,hWA⟩:∃x,(WD).alloc (.cells #[.slice ba k bc,.slice bd nbd bcd] 93)=x:=⟨_,rfl⟩
  have fA:St W WA:=(fD).trans' (hWA▸(Fr.refl _ _).alloc _:St (WD) WA) nE
  have oA:WA.heap[(WD).heap.size]? = some (.cells #[.slice ba k bc,.slice bd nbd bcd] 93 (0,0)):=hWA▸heap_alloc_new _ _
  rw[hWA]
  refine hK.out _ _ (uh HSW _ (fA)) (fun _=>?_)
  clear hK K
  refine wpAnyH_ready (rs:=[12,22]) (by kernel_rfl) (by simp) ?_
  refine AllReadyH.cons rfl (fun K hK=>?_) (AllReadyH.cons rfl (fun K hK=>?_) AllReadyH.nil)
  ·go_simp
   go_wp2_with fail
   refine(uh HCS WA _ ((uh HFW).trans' (fA) nE) (oA)).mono ?_
   rintro e w3 ⟨va,vc,rfl,hv,hvb,g1⟩
   have f3:St W w3:=(fA).trans' g1 nE
   refine hK.out _ _ (uh HSW _ (f3)) (fun _=>?_)
   clear hK K
   refine rdO 22 rfl (fun K hK=>?_)
   go_simp
   obtain⟨WB,hWB⟩:∃x,(w3).alloc (.cells #[.slice ka i kc,.slice kd nkd kcd] 94)=x:=⟨_,rfl⟩
   have fB:St W WB:=(f3).trans' (hWB▸(Fr.refl _ _).alloc _:St (w3) WB) nE
   have oB:WB.heap[(w3).heap.size]? = some (.cells #[.slice ka i kc,.slice kd nkd kcd] 94 (0,0)):=hWB▸heap_alloc_new _ _
   rw[hWB]
   refine hK.out _ _ (uh HSW _ (fB)) (fun _=>?_)
   clear hK K
   refine rdO 23 rfl (fun K hK=>?_)
   go_simp
   go_wp2_with fail
   refine(uh HCK WB _ ((uh HFW).trans' (fB) nE) (oB)).mono ?_
   rintro e w5 ⟨ua,uc,rfl,hu,hub,g2⟩
   have f5:St W w5:=(fB).trans' g2 nE
   refine hK.out _ _ (uh HSW _ (f5)) (fun _=>?_)
   clear hK K
   have hv5:=hv.still ((hWB▸(Fr.refl _ _).alloc _:St w3 WB).trans' g2 nE)
   refine rdO 24 rfl (fun K hK=>?_)
   go_simp
   refine hK.out _ _ (uh HSW _ (f5)) (fun _=>?_)
   clear hK K
   have o5:=uh HR _ f5
   have r0:w5.cell? ⟨g+1,0,none⟩=some (.int .i64 0):=cOo o5 0
   have r1:w5.cell? ⟨g+1,1,none⟩=some (.slice none 0 0):=cOo o5 1
   have r2:w5.cell? ⟨g+1,2,none⟩=some (.slice none 0 0):=cOo o5 2
   have rz:∀o,w5.frozen? ⟨g+1,o,none⟩=false:=fun o=>by simp[World.frozen?,o5]
   refine rdO 25 rfl (fun K hK=>?_)
   go_simp
   have oF:=heap_setCell_same _ (g+1) 2 _ _ (.slice ua RK.length uc) (heap_setCell_same _ (g+1) 1 _ _ (.slice va RB.length vc) (heap_setCell_same w5 (g+1) 0 _ _ (.int .i64 (hh:Nat)) o5))
   have f6:Fr (fun k=>k=g+1) w5 (((w5.setCell ⟨g+1,0,none⟩ (.int .i64 (hh:Nat))).setCell ⟨g+1,1,none⟩ (.slice va RB.length vc)).setCell ⟨g+1,2,none⟩ (.slice ua RK.length uc)):=(((Fr.refl (fun k=>k=g+1) w5).setCell (.inl rfl) _).setCell (.inl rfl) _).setCell (.inl rfl) _
   obtain⟨y0,y1,y2⟩:=uh HSW _ f5
   refine hK.out _ _ ⟨f6.cell' y0 (fun x=>by have x:g=g+1:=x;omega),f6.cell' y1 (fun x=>by have x:g=g+1:=x;omega),f6.cell' y2 (fun x=>by have x:g=g+1:=x;omega)⟩ (fun _=>?_)
   clear hK K
   refine wpAnyH_done (by kernel_rfl) ?_ _
   go_wp2_with fail
   refine bodyPost_ret (results_cell_row Tryz.results149 _ _ (g+1) 96 #[.int .i64 hh,.slice va RB.length vc,.slice ua RK.length uc] (0,0) _ (by rfl) oF Tryz.underlying96 rfl (by kernel_rfl)) rfl ?_
   have hWz:g+2<=W.heap.size:=by
    have:=World.block_lt_of_cell? _ _ (cOo (uh HR _ (Fr.refl _ W)) 0)
    exact this
   have hvx:∀x,va=some x->W.heap.size<=x.block/\x.block<w5.heap.size:=fun x hx=>⟨Nat.le_trans (fA.size) (hvb x hx).1,Nat.lt_of_lt_of_le (hvb x hx).2 (Nat.le_trans (hWB▸(Fr.refl _ _).alloc _:St w3 WB).size g2.size)⟩
   have hux:∀x,ua=some x->W.heap.size<=x.block/\x.block<w5.heap.size:=fun x hx=>⟨Nat.le_trans (fB.size) (hub x hx).1,(hub x hx).2⟩
   refine⟨va,vc,ua,uc,rfl,hv5.kept f6 (fun x hx e=>by have:=(hvx x hx).1;omega),hu.kept f6 (fun x hx e=>by have:=(hux x hx).1;omega),fun x hx=>⟨by have:=(hvx x hx).1;omega,Nat.lt_of_lt_of_le (hvx x hx).2 f6.size⟩,fun x hx=>⟨by have:=(hux x hx).1;omega,Nat.lt_of_lt_of_le (hux x hx).2 f6.size⟩,((uh HFW).trans' f5 nE).trans' f6 (fun k hk=>.inr (by rw[hk,<-hg];omega))⟩
  ·go_simp
   obtain⟨WB,hWB⟩:∃x,(WA).alloc (.cells #[.slice ka i kc,.slice kd nkd kcd] 94)=x:=⟨_,rfl⟩
   have fB:St W WB:=(fA).trans' (hWB▸(Fr.refl _ _).alloc _:St (WA) WB) nE
   have oB:WB.heap[(WA).heap.size]? = some (.cells #[.slice ka i kc,.slice kd nkd kcd] 94 (0,0)):=hWB▸heap_alloc_new _ _
   rw[hWB]
   refine hK.out _ _ (uh HSW _ (fB)) (fun _=>?_)
   clear hK K
   refine rdO 12 rfl (fun K hK=>?_)
   go_simp
   go_wp2_with fail
   refine(uh HCS WB _ ((uh HFW).trans' (fB) nE) ((hWB▸(Fr.refl _ _).alloc _:St WA WB).obj oA id)).mono ?_
   rintro e w3 ⟨va,vc,rfl,hv,hvb,g1⟩
   have f3:St W w3:=(fB).trans' g1 nE
   refine hK.out _ _ (uh HSW _ (f3)) (fun _=>?_)
   clear hK K
   refine rdO 23 rfl (fun K hK=>?_)
   go_simp
   go_wp2_with fail
   refine(uh HCK w3 _ ((uh HFW).trans' (f3) nE) (g1.obj oB id)).mono ?_
   rintro e w5 ⟨ua,uc,rfl,hu,hub,g2⟩
   have f5:St W w5:=(f3).trans' g2 nE
   refine hK.out _ _ (uh HSW _ (f5)) (fun _=>?_)
   clear hK K
   have hv5:=hv.still (g2)
   refine rdO 24 rfl (fun K hK=>?_)
   go_simp
   refine hK.out _ _ (uh HSW _ (f5)) (fun _=>?_)
   clear hK K
   have o5:=uh HR _ f5
   have r0:w5.cell? ⟨g+1,0,none⟩=some (.int .i64 0):=cOo o5 0
   have r1:w5.cell? ⟨g+1,1,none⟩=some (.slice none 0 0):=cOo o5 1
   have r2:w5.cell? ⟨g+1,2,none⟩=some (.slice none 0 0):=cOo o5 2
   have rz:∀o,w5.frozen? ⟨g+1,o,none⟩=false:=fun o=>by simp[World.frozen?,o5]
   refine rdO 25 rfl (fun K hK=>?_)
   go_simp
   have oF:=heap_setCell_same _ (g+1) 2 _ _ (.slice ua RK.length uc) (heap_setCell_same _ (g+1) 1 _ _ (.slice va RB.length vc) (heap_setCell_same w5 (g+1) 0 _ _ (.int .i64 (hh:Nat)) o5))
   have f6:Fr (fun k=>k=g+1) w5 (((w5.setCell ⟨g+1,0,none⟩ (.int .i64 (hh:Nat))).setCell ⟨g+1,1,none⟩ (.slice va RB.length vc)).setCell ⟨g+1,2,none⟩ (.slice ua RK.length uc)):=(((Fr.refl (fun k=>k=g+1) w5).setCell (.inl rfl) _).setCell (.inl rfl) _).setCell (.inl rfl) _
   obtain⟨y0,y1,y2⟩:=uh HSW _ f5
   refine hK.out _ _ ⟨f6.cell' y0 (fun x=>by have x:g=g+1:=x;omega),f6.cell' y1 (fun x=>by have x:g=g+1:=x;omega),f6.cell' y2 (fun x=>by have x:g=g+1:=x;omega)⟩ (fun _=>?_)
   clear hK K
   refine wpAnyH_done (by kernel_rfl) ?_ _
   go_wp2_with fail
   refine bodyPost_ret (results_cell_row Tryz.results149 _ _ (g+1) 96 #[.int .i64 hh,.slice va RB.length vc,.slice ua RK.length uc] (0,0) _ (by rfl) oF Tryz.underlying96 rfl (by kernel_rfl)) rfl ?_
   have hWz:g+2<=W.heap.size:=by
    have:=World.block_lt_of_cell? _ _ (cOo (uh HR _ (Fr.refl _ W)) 0)
    exact this
   have hvx:∀x,va=some x->W.heap.size<=x.block/\x.block<w5.heap.size:=fun x hx=>⟨Nat.le_trans (fB.size) (hvb x hx).1,Nat.lt_of_lt_of_le (hvb x hx).2 (g2.size)⟩
   have hux:∀x,ua=some x->W.heap.size<=x.block/\x.block<w5.heap.size:=fun x hx=>⟨Nat.le_trans (f3.size) (hub x hx).1,(hub x hx).2⟩
   refine⟨va,vc,ua,uc,rfl,hv5.kept f6 (fun x hx e=>by have:=(hvx x hx).1;omega),hu.kept f6 (fun x hx e=>by have:=(hux x hx).1;omega),fun x hx=>⟨by have:=(hvx x hx).1;omega,Nat.lt_of_lt_of_le (hvx x hx).2 f6.size⟩,fun x hx=>⟨by have:=(hux x hx).1;omega,Nat.lt_of_lt_of_le (hux x hx).2 f6.size⟩,((uh HFW).trans' f5 nE).trans' f6 (fun k hk=>.inr (by rw[hk,<-hg];omega))⟩
 ·go_simp
  obtain⟨WB,hWB⟩:∃x,(WD).alloc (.cells #[.slice ka i kc,.slice kd nkd kcd] 94)=x:=⟨_,rfl⟩
  have fB:St W WB:=(fD).trans' (hWB▸(Fr.refl _ _).alloc _:St (WD) WB) nE
  have oB:WB.heap[(WD).heap.size]? = some (.cells #[.slice ka i kc,.slice kd nkd kcd] 94 (0,0)):=hWB▸heap_alloc_new _ _
  rw[hWB]
  refine hK.out _ _ (uh HSW _ (fB)) (fun _=>?_)
  clear hK K
  refine rdO 11 rfl (fun K hK=>?_)
  go_simp
  obtain⟨WA,hWA⟩:∃x,(WB).alloc (.cells #[.slice ba k bc,.slice bd nbd bcd] 93)=x:=⟨_,rfl⟩
  have fA:St W WA:=(fB).trans' (hWA▸(Fr.refl _ _).alloc _:St (WB) WA) nE
  have oA:WA.heap[(WB).heap.size]? = some (.cells #[.slice ba k bc,.slice bd nbd bcd] 93 (0,0)):=hWA▸heap_alloc_new _ _
  rw[hWA]
  refine hK.out _ _ (uh HSW _ (fA)) (fun _=>?_)
  clear hK K
  refine rdO 12 rfl (fun K hK=>?_)
  go_simp
  go_wp2_with fail
  refine(uh HCS WA _ ((uh HFW).trans' (fA) nE) (oA)).mono ?_
  rintro e w3 ⟨va,vc,rfl,hv,hvb,g1⟩
  have f3:St W w3:=(fA).trans' g1 nE
  refine hK.out _ _ (uh HSW _ (f3)) (fun _=>?_)
  clear hK K
  refine rdO 23 rfl (fun K hK=>?_)
  go_simp
  go_wp2_with fail
  refine(uh HCK w3 _ ((uh HFW).trans' (f3) nE) (((hWA▸(Fr.refl _ _).alloc _:St WB WA).trans' g1 nE).obj oB id)).mono ?_
  rintro e w5 ⟨ua,uc,rfl,hu,hub,g2⟩
  have f5:St W w5:=(f3).trans' g2 nE
  refine hK.out _ _ (uh HSW _ (f5)) (fun _=>?_)
  clear hK K
  have hv5:=hv.still (g2)
  refine rdO 24 rfl (fun K hK=>?_)
  go_simp
  refine hK.out _ _ (uh HSW _ (f5)) (fun _=>?_)
  clear hK K
  have o5:=uh HR _ f5
  have r0:w5.cell? ⟨g+1,0,none⟩=some (.int .i64 0):=cOo o5 0
  have r1:w5.cell? ⟨g+1,1,none⟩=some (.slice none 0 0):=cOo o5 1
  have r2:w5.cell? ⟨g+1,2,none⟩=some (.slice none 0 0):=cOo o5 2
  have rz:∀o,w5.frozen? ⟨g+1,o,none⟩=false:=fun o=>by simp[World.frozen?,o5]
  refine rdO 25 rfl (fun K hK=>?_)
  go_simp
  have oF:=heap_setCell_same _ (g+1) 2 _ _ (.slice ua RK.length uc) (heap_setCell_same _ (g+1) 1 _ _ (.slice va RB.length vc) (heap_setCell_same w5 (g+1) 0 _ _ (.int .i64 (hh:Nat)) o5))
  have f6:Fr (fun k=>k=g+1) w5 (((w5.setCell ⟨g+1,0,none⟩ (.int .i64 (hh:Nat))).setCell ⟨g+1,1,none⟩ (.slice va RB.length vc)).setCell ⟨g+1,2,none⟩ (.slice ua RK.length uc)):=(((Fr.refl (fun k=>k=g+1) w5).setCell (.inl rfl) _).setCell (.inl rfl) _).setCell (.inl rfl) _
  obtain⟨y0,y1,y2⟩:=uh HSW _ f5
  refine hK.out _ _ ⟨f6.cell' y0 (fun x=>by have x:g=g+1:=x;omega),f6.cell' y1 (fun x=>by have x:g=g+1:=x;omega),f6.cell' y2 (fun x=>by have x:g=g+1:=x;omega)⟩ (fun _=>?_)
  clear hK K
  refine wpAnyH_done (by kernel_rfl) ?_ _
  go_wp2_with fail
  refine bodyPost_ret (results_cell_row Tryz.results149 _ _ (g+1) 96 #[.int .i64 hh,.slice va RB.length vc,.slice ua RK.length uc] (0,0) _ (by rfl) oF Tryz.underlying96 rfl (by kernel_rfl)) rfl ?_
  have hWz:g+2<=W.heap.size:=by
   have:=World.block_lt_of_cell? _ _ (cOo (uh HR _ (Fr.refl _ W)) 0)
   exact this
  have hvx:∀x,va=some x->W.heap.size<=x.block/\x.block<w5.heap.size:=fun x hx=>⟨Nat.le_trans (fA.size) (hvb x hx).1,Nat.lt_of_lt_of_le (hvb x hx).2 (g2.size)⟩
  have hux:∀x,ua=some x->W.heap.size<=x.block/\x.block<w5.heap.size:=fun x hx=>⟨Nat.le_trans (f3.size) (hub x hx).1,(hub x hx).2⟩
  refine⟨va,vc,ua,uc,rfl,hv5.kept f6 (fun x hx e=>by have:=(hvx x hx).1;omega),hu.kept f6 (fun x hx e=>by have:=(hux x hx).1;omega),fun x hx=>⟨by have:=(hvx x hx).1;omega,Nat.lt_of_lt_of_le (hvx x hx).2 f6.size⟩,fun x hx=>⟨by have:=(hux x hx).1;omega,Nat.lt_of_lt_of_le (hux x hx).2 f6.size⟩,((uh HFW).trans' f5 nE).trans' f6 (fun k hk=>.inr (by rw[hk,<-hg];omega))⟩
theorem taBf_br (x:Value) (w:World):(Instr.typeAssert (.iface 96 x) 85 96 false).run Tryz.prog w = .ok x w:=by kernel_rfl
set_option maxRecDepth 100000 in
theorem y_joinL (a1 a2:Option Addr) (c1 c2:Nat) (l1 l2:List Pr) (x:ByteArray) (w:World) (h1:Lf w a1 c1 l1) (h2:Lf w a2 c2 l2) (hl1:l1.length<=500) (hl2:l2.length<=500) :
  Calls Tryz.prog 186 #[.iface 100 (.slice a1 l1.length c1),.string x,.iface 100 (.slice a2 l2.length c2)] w fun e w'=>∃nv,e = .returned nv/\NdO (fun k=>w.heap.size<=k/\k<w'.heap.size) w' nv (.lf (l1 ++ l2))/\St w w':=by
 obtain⟨W,hW⟩:∃W,w.alloc (.cells #[.int .i64 0,.slice none 0 0,.slice none 0 0] 96)=W:=⟨_,rfl⟩
 have fW:St w W:=hW▸(Fr.refl _ w).alloc _
 have CT:Calls Tryz.prog 141 #[.slice (some ⟨W.heap.size,0,none⟩) 2 2] (W.drew.alloc (.cells #[.slice a1 l1.length c1,.slice a2 l2.length c2] 100)) fun e w'=>∃u,e = .returned u/\w'.ownsRow w.heap.size 43 2 u (l1 ++ l2).length (pcl (l1 ++ l2))/\St w w':=by
  obtain⟨W1,hW1⟩:∃W1,W.drew.alloc (.cells #[.slice a1 l1.length c1,.slice a2 l2.length c2] 100)=W1:=⟨_,rfl⟩
  have f1:St W W1:=hW1▸((Fr.refl _ W).drewN 1).alloc _
  have f2:St w W1:=fW.trans' f1 nE
  rw[hW1]
  refine(cat2g_P W1 W.heap.size a1 a2 l1.length l2.length c1 c2 _ _ (hW1▸heap_alloc_new W.drew _) (h1.still f2) (h2.still f2) (by omega)).mono ?_
  rintro e w' ⟨u,rfl,hu,f3⟩
  refine⟨u,rfl,?_,f2.trans' f3 nE⟩
  rw[pcl_app,List.length_append]
  exact own_lo hu f2.size
 have HCT:=Hd CT;have HW:=Hd hW
 have t1:=fun w=>taB_leaf (.slice a1 l1.length c1) w
 have t2:=fun w=>taL_leaf (.slice a1 l1.length c1) w
 have t3:=fun w=>taL_leaf (.slice a2 l2.length c2) w
 clear CT hW h1 h2 hl1 hl2
 generalize l1.length=n1 at *
 generalize l2.length=n2 at *
 generalize l1 ++ l2=ll at *
 go_enter Tryz.func186,Tryz.ntmps186
 go_wp2_with fail
 rw[uh HW]
 refine wp_region_held_drew (S:=fun _=>True) (by kernel_rfl) trivial (fun hHeld=>?_)
 refine tkO 0 ?_ hHeld rfl ?_ ?_
 rotate_left
 ·intro w q;go_simp;try with_reducible rfl
 simp only[apt,List.set]
 refine tkO 1 (.slice a1 n1 c1) hHeld rfl ?_ ?_
 ·(intro w q;go_simp;first | done | (rw[t2 w];rfl) | (simp[t2 w]))
 simp only[apt,List.set]
 refine tkO 2 ?_ hHeld rfl ?_ ?_
 rotate_left
 ·intro w q;go_simp;try with_reducible rfl
 simp only[apt,List.set]
 refine tkO 3 (.slice a2 n2 c2) hHeld rfl ?_ ?_
 ·(intro w q;go_simp;first | done | (rw[t3 w];rfl) | (simp[t3 w]))
 simp only[apt,List.set]
 clear t1 t2 t3
 refine rdO 4 rfl (fun K hK=>?_)
 go_simp
 refine hK.out _ _ trivial (fun _=>?_)
 clear hK K
 refine rdO 5 rfl (fun K hK=>?_)
 go_simp
 go_wp2_with fail
 refine(uh HCT).mono ?_
 clear HCT
 rintro e w3 ⟨u,rfl,hu,f3⟩
 obtain⟨ua,uc,rfl⟩:=rowZ hu
 refine hK.out _ _ trivial (fun _=>?_)
 clear hK K
 refine rdO 6 rfl (fun K hK=>?_)
 go_simp
 refine hK.out _ _ trivial (fun _=>?_)
 clear hK K
 refine rdO 7 rfl (fun K hK=>?_)
 go_simp
 refine hK.out _ _ trivial (fun _=>?_)
 clear hK K
 refine wpAnyH_done (by kernel_rfl) ?_ _
 have HU:=Hd (ai hu f3)
 clear hu f3
 go_wp2
 go_ret
 obtain⟨hu,f3⟩:=uh HU
 exact⟨_,rfl,⟨ua,uc,rfl,sl_of_row hu pcl_one,own_block hu⟩,f3⟩
set_option maxRecDepth 100000 in
theorem y_joinB (hh h':Nat) (ba:Option Addr) (bc:Nat) (B:List ByteArray) (ka:Option Addr) (kc:Nat) (ks:List (Nat×Nat)) (ba2:Option Addr) (bc2:Nat) (B2:List ByteArray) (ka2:Option Addr) (kc2:Nat) (ks2:List (Nat×Nat)) (x:ByteArray) (w:World) (hB:Kys w ba bc B) (hK:Kds w ka kc ks) (hB2:Kys w ba2 bc2 B2) (hK2:Kds w ka2 kc2 ks2) (hl:ks.length<=500) (hl2:ks2.length<=500) (hl3:B.length<=500) (hl4:B2.length<=500) :
  Calls Tryz.prog 186 #[.iface 96 (brV hh ba B.length bc ka ks.length kc),.string x,.iface 96 (brV h' ba2 B2.length bc2 ka2 ks2.length kc2)] w fun e w'=>∃nv,e = .returned nv/\NdO (fun k=>w.heap.size<=k/\k<w'.heap.size) w' nv (.br hh (B ++ x :: B2) (ks ++ ks2))/\St w w':=by
 have CS:∀W g gx,St w W->W.heap[gx]? = some (.cells #[.string x] 9 (0,0))->W.heap[g]? = some (.cells #[.slice ba B.length bc,.slice (some ⟨gx,0,none⟩) 1 1,.slice ba2 B2.length bc2] 93 (0,0))->Calls Tryz.prog 180 #[.slice (some ⟨g,0,none⟩) 3 3] W fun e w'=>∃va vc,e = .returned (.slice va (B ++ x :: B2).length vc)/\Kys w' va vc (B ++ x :: B2)/\(∀y,va=some y->W.heap.size<=y.block/\y.block<w'.heap.size)/\St W w':=fun W g gx f ox o=>by
  have SX:Sl W 1 (some ⟨gx,0,none⟩) 1 1 ([x].map Value.string):=⟨rfl,Nat.le_refl _,(fun e=>by cases e),str_one _,(fun j u hu=>⟨gx,0,rfl,by
   rw[Nat.zero_add,cOo ox j,<-hu]
   simp⟩),(fun y e=>by cases e;rfl)⟩
  refine(cat3g_S W g _ _ _ _ _ _ _ _ _ _ _ _ o (hB.still f) SX (hB2.still f) (by omega)).mono ?_
  rintro e w' ⟨v,rfl,hv,f'⟩
  rw[show B.length+1+B2.length=(B ++ x :: B2).length by simp;omega] at hv
  rw[<-List.map_append,<-List.map_append,show B ++ [x] ++ B2=B ++ x :: B2 by simp] at hv
  obtain⟨va,vc,rfl⟩:=rowZ hv
  exact⟨va,vc,rfl,sl_of_row hv (str_one _),own_block hv,f'⟩
 have CK:∀W g,St w W->W.heap[g]? = some (.cells #[.slice ka ks.length kc,.slice ka2 ks2.length kc2] 94 (0,0))->Calls Tryz.prog 181 #[.slice (some ⟨g,0,none⟩) 2 2] W fun e w'=>∃va vc,e = .returned (.slice va (ks ++ ks2).length vc)/\Kds w' va vc (ks ++ ks2)/\(∀x,va=some x->W.heap.size<=x.block/\x.block<w'.heap.size)/\St W w':=fun W g f o=>by
  refine(cat2g_K W g _ _ _ _ _ _ _ _ o (hK.still f) (hK2.still f) (by omega)).mono ?_
  rintro e w' ⟨v,rfl,hv,f'⟩
  rw[show ks.length+ks2.length=(ks ++ ks2).length by simp] at hv
  rw[<-kcl_app] at hv
  obtain⟨va,vc,rfl⟩:=rowZ hv
  exact⟨va,vc,rfl,sl_of_row hv kcl_one,own_block hv,f'⟩
 generalize B ++ x :: B2=RB at *
 generalize ks ++ ks2=RK at *
 have HCS:=@Hd _ CS;have HCK:=@Hd _ CK
 clear CS CK hB hK hB2 hK2 hl hl2 hl3 hl4
 generalize B.length=nb at *
 generalize ks.length=nk at *
 generalize B2.length=nb2 at *
 generalize ks2.length=nk2 at *
 obtain⟨W,hW⟩:∃W,(w.alloc (.cells #[.int .i64 hh,.slice ba nb bc,.slice ka nk kc] 96)).alloc (.cells #[.int .i64 h',.slice ba2 nb2 bc2,.slice ka2 nk2 kc2] 96)=W:=⟨_,rfl⟩
 have fW:St w W:=hW▸((Fr.refl _ w).alloc _).alloc _
 have oB:W.heap[w.heap.size]? = some (.cells #[.int .i64 hh,.slice ba nb bc,.slice ka nk kc] 96 (0,0)):=by
  have:=heap_alloc_new w (.cells #[.int .i64 hh,.slice ba nb bc,.slice ka nk kc] 96)
  rw[<-hW]
  exact((Fr.refl (fun _=>False) _).alloc _).obj this id
 have oR:W.heap[w.heap.size+1]? = some (.cells #[.int .i64 h',.slice ba2 nb2 bc2,.slice ka2 nk2 kc2] 96 (0,0)):=by
  have:=heap_alloc_new (w.alloc (.cells #[.int .i64 hh,.slice ba nb bc,.slice ka nk kc] 96)) (.cells #[.int .i64 h',.slice ba2 nb2 bc2,.slice ka2 nk2 kc2] 96)
  rw[hW] at this
  simpa using this
 have HW:=Hd hW
 clear hW
 generalize hg:w.heap.size=g at *
 have HSW:=@Hd _ (fun(w':World) (f:St W w')=>show w'.cell? ⟨g,0,none⟩=some (.int .i64 hh)/\w'.cell? ⟨g,1,none⟩=some (.slice ba nb bc)/\w'.cell? ⟨g,2,none⟩=some (.slice ka nk kc)/\w'.cell? ⟨g+1,0,none⟩=some (.int .i64 h')/\w'.cell? ⟨g+1,1,none⟩=some (.slice ba2 nb2 bc2)/\w'.cell? ⟨g+1,2,none⟩=some (.slice ka2 nk2 kc2) from⟨cOo (f.obj oB id) 0,cOo (f.obj oB id) 1,cOo (f.obj oB id) 2,cOo (f.obj oR id) 0,cOo (f.obj oR id) 1,cOo (f.obj oR id) 2⟩)
 have HFW:=Hd fW
 clear oB oR fW
 have t1:=fun w=>taB_br (brV hh ba nb bc ka nk kc) w
 have t2:=fun w=>taBf_br (brV h' ba2 nb2 bc2 ka2 nk2 kc2) w
 go_enter Tryz.func186,Tryz.ntmps186
 go_wp2_with fail
 rw[uh HW]
 clear HW t1 t2
 have fD:St W W.drew:=(Fr.refl _ W).drewN 1
 refine wp_region_held_drew (S:=fun w'=>w'.cell? ⟨g,0,none⟩=some (.int .i64 hh)/\w'.cell? ⟨g,1,none⟩=some (.slice ba nb bc)/\w'.cell? ⟨g,2,none⟩=some (.slice ka nk kc)/\w'.cell? ⟨g+1,0,none⟩=some (.int .i64 h')/\w'.cell? ⟨g+1,1,none⟩=some (.slice ba2 nb2 bc2)/\w'.cell? ⟨g+1,2,none⟩=some (.slice ka2 nk2 kc2)) (by kernel_rfl) (uh HSW _ fD) (fun hHeld=>?_)
 clear hHeld
 have hHeld:=uh HSW _ fD
 refine tkO 0 ?_ hHeld rfl ?_ ?_
 rotate_left
 ·intro w q;go_simp;try with_reducible rfl
 simp only[apt,List.set]
 refine tkO 1 (.int .i64 hh) hHeld rfl ?_ ?_
 ·rintro w ⟨x0,x1,x2,x3,x4,x5⟩;go_simp;try with_reducible rfl
 simp only[apt,List.set]
 refine tkO 2 ?_ hHeld rfl ?_ ?_
 rotate_left
 ·intro w q;go_simp;try with_reducible rfl
 simp only[apt,List.set]
 refine tkO 3 (.slice ba nb bc) hHeld rfl ?_ ?_
 ·rintro w ⟨x0,x1,x2,x3,x4,x5⟩;go_simp;try with_reducible rfl
 simp only[apt,List.set]
 refine tkO 4 ?_ hHeld rfl ?_ ?_
 rotate_left
 ·intro w q;go_simp;try with_reducible rfl
 simp only[apt,List.set]
 refine tkO 6 ?_ hHeld rfl ?_ ?_
 rotate_left
 ·intro w q;go_simp;try with_reducible rfl
 simp only[apt,List.set]
 refine tkO 7 (.slice ba2 nb2 bc2) hHeld rfl ?_ ?_
 ·rintro w ⟨x0,x1,x2,x3,x4,x5⟩;go_simp;try with_reducible rfl
 simp only[apt,List.set]
 refine tkO 10 ?_ hHeld rfl ?_ ?_
 rotate_left
 ·intro w q;go_simp;try with_reducible rfl
 simp only[apt,List.set]
 refine tkO 11 (.slice ka nk kc) hHeld rfl ?_ ?_
 ·rintro w ⟨x0,x1,x2,x3,x4,x5⟩;go_simp;try with_reducible rfl
 simp only[apt,List.set]
 refine tkO 12 ?_ hHeld rfl ?_ ?_
 rotate_left
 ·intro w q;go_simp;try with_reducible rfl
 simp only[apt,List.set]
 refine tkO 13 (.slice ka2 nk2 kc2) hHeld rfl ?_ ?_
 ·rintro w ⟨x0,x1,x2,x3,x4,x5⟩;go_simp;try with_reducible rfl
 simp only[apt,List.set]
 clear hHeld
 obtain⟨WD,hWD⟩:∃WD,W.drew=WD:=⟨_,rfl⟩
 rw[hWD] at fD ⊢
 clear hWD
 refine wpAnyH_ready (rs:=[5,14]) (by kernel_rfl) (by simp) ?_
 refine AllReadyH.cons rfl (fun K hK=>?_) (AllReadyH.cons rfl (fun K hK=>?_) AllReadyH.nil)
 ·go_simp
  obtain⟨W5,hW5⟩:∃X,(WD).alloc (.cells #[.string x] 9)=X:=⟨_,rfl⟩
  have g5:St (WD) W5:=hW5▸(Fr.refl _ _).alloc _
  have f5:St W W5:=(fD).trans' g5 nE
  obtain⟨gx,hgx⟩:∃gx,(WD).heap.size=gx:=⟨_,rfl⟩
  have o5:W5.heap[gx]? = some (.cells #[.string x] 9 (0,0)):=by rw[<-hgx,<-hW5];exact heap_alloc_new _ _
  rw[hW5,hgx]
  refine hK.out _ _ (uh HSW _ f5) (fun _=>?_)
  clear hK K hW5 hgx
  refine wpAnyH_ready (rs:=[8,14]) (by kernel_rfl) (by simp) ?_
  refine AllReadyH.cons rfl (fun K hK=>?_) (AllReadyH.cons rfl (fun K hK=>?_) AllReadyH.nil)
  ·go_simp
   obtain⟨W8,hW8⟩:∃X,(W5).alloc (.cells #[.slice ba nb bc,.slice (some ⟨gx,0,none⟩) 1 1,.slice ba2 nb2 bc2] 93)=X:=⟨_,rfl⟩
   have g8:St (W5) W8:=hW8▸(Fr.refl _ _).alloc _
   have f8:St W W8:=(f5).trans' g8 nE
   obtain⟨gs,hgs⟩:∃gs,(W5).heap.size=gs:=⟨_,rfl⟩
   have o8:W8.heap[gs]? = some (.cells #[.slice ba nb bc,.slice (some ⟨gx,0,none⟩) 1 1,.slice ba2 nb2 bc2] 93 (0,0)):=by rw[<-hgs,<-hW8];exact heap_alloc_new _ _
   have p8:=g8.obj (o5) id
   rw[hW8,hgs]
   refine hK.out _ _ (uh HSW _ f8) (fun _=>?_)
   clear hK K hW8 hgs
   refine wpAnyH_ready (rs:=[9,14]) (by kernel_rfl) (by simp) ?_
   refine AllReadyH.cons rfl (fun K hK=>?_) (AllReadyH.cons rfl (fun K hK=>?_) AllReadyH.nil)
   ·go_simp
    go_wp2_with fail
    refine(uh HCS (W8) gs gx ((uh HFW).trans' (f8) nE) (p8) (o8)).mono ?_
    rintro e w9 ⟨va,vc,rfl,hv,hvb,g9⟩
    have f9:St W w9:=(f8).trans' g9 nE
    refine hK.out _ _ (uh HSW _ f9) (fun _=>?_)
    clear hK K
    refine rdO 14 rfl (fun K hK=>?_)
    go_simp
    obtain⟨WK,hWK⟩:∃X,(w9).alloc (.cells #[.slice ka nk kc,.slice ka2 nk2 kc2] 94)=X:=⟨_,rfl⟩
    have gk:St (w9) WK:=hWK▸(Fr.refl _ _).alloc _
    have fk:St W WK:=(f9).trans' gk nE
    obtain⟨gz,hgz⟩:∃gz,(w9).heap.size=gz:=⟨_,rfl⟩
    have ok:WK.heap[gz]? = some (.cells #[.slice ka nk kc,.slice ka2 nk2 kc2] 94 (0,0)):=by rw[<-hgz,<-hWK];exact heap_alloc_new _ _
    rw[hWK,hgz]
    refine hK.out _ _ (uh HSW _ fk) (fun _=>?_)
    clear hK K hWK hgz
    refine rdO 15 rfl (fun K hK=>?_)
    go_simp
    go_wp2_with fail
    refine(uh HCK (WK) gz ((uh HFW).trans' (fk) nE) (ok)).mono ?_
    rintro e wF ⟨ua,uc,rfl,hu,hub,gF⟩
    have fF:St W wF:=(fk).trans' gF nE
    have s9F:St w9 wF:=gk.trans' gF nE
    refine hK.out _ _ (uh HSW _ fF) (fun _=>?_)
    clear hK K
    refine rdO 16 rfl (fun K hK=>?_)
    go_simp
    refine hK.out _ _ (uh HSW _ fF) (fun _=>?_)
    clear hK K
    refine rdO 17 rfl (fun K hK=>?_)
    go_simp
    refine hK.out _ _ (uh HSW _ fF) (fun _=>?_)
    clear hK K
    refine rdO 18 rfl (fun K hK=>?_)
    go_simp
    refine hK.out _ _ (uh HSW _ fF) (fun _=>?_)
    clear hK K
    refine wpAnyH_done (by kernel_rfl) ?_ _
    have HZ:=Hd (show NdO (fun k=>g<=k/\k<wF.heap.size) wF (.iface 96 (brV hh va RB.length vc ua RK.length uc)) (.br hh RB RK)/\St w wF from⟨⟨va,vc,ua,uc,rfl,hv.still s9F,hu,fun y hy=>⟨by
     have h1:=(hvb y hy).1;have h2:=(uh HFW).size;have h3:=(f8).size;omega,Nat.lt_of_lt_of_le (hvb y hy).2 s9F.size⟩,fun y hy=>⟨by
     have h1:=(hub y hy).1;have h2:=(uh HFW).size;have h3:=(fk).size;omega,(hub y hy).2⟩⟩,(uh HFW).trans' fF nE⟩)
    clear hv hu hvb hub gF fF s9F
    go_wp2_with fail
    go_ret
    exact⟨_,rfl,uh HZ⟩
   ·go_simp
    obtain⟨WK,hWK⟩:∃X,(W8).alloc (.cells #[.slice ka nk kc,.slice ka2 nk2 kc2] 94)=X:=⟨_,rfl⟩
    have gk:St (W8) WK:=hWK▸(Fr.refl _ _).alloc _
    have fk:St W WK:=(f8).trans' gk nE
    obtain⟨gz,hgz⟩:∃gz,(W8).heap.size=gz:=⟨_,rfl⟩
    have ok:WK.heap[gz]? = some (.cells #[.slice ka nk kc,.slice ka2 nk2 kc2] 94 (0,0)):=by rw[<-hgz,<-hWK];exact heap_alloc_new _ _
    rw[hWK,hgz]
    refine hK.out _ _ (uh HSW _ fk) (fun _=>?_)
    clear hK K hWK hgz
    refine rdO 9 rfl (fun K hK=>?_)
    go_simp
    go_wp2_with fail
    refine(uh HCS (WK) gs gx ((uh HFW).trans' (fk) nE) (gk.obj p8 id) (gk.obj o8 id)).mono ?_
    rintro e w9 ⟨va,vc,rfl,hv,hvb,g9⟩
    have f9:St W w9:=(fk).trans' g9 nE
    refine hK.out _ _ (uh HSW _ f9) (fun _=>?_)
    clear hK K
    refine rdO 15 rfl (fun K hK=>?_)
    go_simp
    go_wp2_with fail
    refine(uh HCK (w9) gz ((uh HFW).trans' (f9) nE) (g9.obj ok id)).mono ?_
    rintro e wF ⟨ua,uc,rfl,hu,hub,gF⟩
    have fF:St W wF:=(f9).trans' gF nE
    have s9F:St w9 wF:=gF
    refine hK.out _ _ (uh HSW _ fF) (fun _=>?_)
    clear hK K
    refine rdO 16 rfl (fun K hK=>?_)
    go_simp
    refine hK.out _ _ (uh HSW _ fF) (fun _=>?_)
    clear hK K
    refine rdO 17 rfl (fun K hK=>?_)
    go_simp
    refine hK.out _ _ (uh HSW _ fF) (fun _=>?_)
    clear hK K
    refine rdO 18 rfl (fun K hK=>?_)
    go_simp
    refine hK.out _ _ (uh HSW _ fF) (fun _=>?_)
    clear hK K
    refine wpAnyH_done (by kernel_rfl) ?_ _
    have HZ:=Hd (show NdO (fun k=>g<=k/\k<wF.heap.size) wF (.iface 96 (brV hh va RB.length vc ua RK.length uc)) (.br hh RB RK)/\St w wF from⟨⟨va,vc,ua,uc,rfl,hv.still s9F,hu,fun y hy=>⟨by
     have h1:=(hvb y hy).1;have h2:=(uh HFW).size;have h3:=(fk).size;omega,Nat.lt_of_lt_of_le (hvb y hy).2 s9F.size⟩,fun y hy=>⟨by
     have h1:=(hub y hy).1;have h2:=(uh HFW).size;have h3:=(f9).size;omega,(hub y hy).2⟩⟩,(uh HFW).trans' fF nE⟩)
    clear hv hu hvb hub gF fF s9F
    go_wp2_with fail
    go_ret
    exact⟨_,rfl,uh HZ⟩
  ·go_simp
   obtain⟨WK,hWK⟩:∃X,(W5).alloc (.cells #[.slice ka nk kc,.slice ka2 nk2 kc2] 94)=X:=⟨_,rfl⟩
   have gk:St (W5) WK:=hWK▸(Fr.refl _ _).alloc _
   have fk:St W WK:=(f5).trans' gk nE
   obtain⟨gz,hgz⟩:∃gz,(W5).heap.size=gz:=⟨_,rfl⟩
   have ok:WK.heap[gz]? = some (.cells #[.slice ka nk kc,.slice ka2 nk2 kc2] 94 (0,0)):=by rw[<-hgz,<-hWK];exact heap_alloc_new _ _
   rw[hWK,hgz]
   refine hK.out _ _ (uh HSW _ fk) (fun _=>?_)
   clear hK K hWK hgz
   refine rdO 8 rfl (fun K hK=>?_)
   go_simp
   obtain⟨W8,hW8⟩:∃X,(WK).alloc (.cells #[.slice ba nb bc,.slice (some ⟨gx,0,none⟩) 1 1,.slice ba2 nb2 bc2] 93)=X:=⟨_,rfl⟩
   have g8:St (WK) W8:=hW8▸(Fr.refl _ _).alloc _
   have f8:St W W8:=(fk).trans' g8 nE
   obtain⟨gs,hgs⟩:∃gs,(WK).heap.size=gs:=⟨_,rfl⟩
   have o8:W8.heap[gs]? = some (.cells #[.slice ba nb bc,.slice (some ⟨gx,0,none⟩) 1 1,.slice ba2 nb2 bc2] 93 (0,0)):=by rw[<-hgs,<-hW8];exact heap_alloc_new _ _
   have p8:=g8.obj (gk.obj o5 id) id
   rw[hW8,hgs]
   refine hK.out _ _ (uh HSW _ f8) (fun _=>?_)
   clear hK K hW8 hgs
   refine rdO 9 rfl (fun K hK=>?_)
   go_simp
   go_wp2_with fail
   refine(uh HCS (W8) gs gx ((uh HFW).trans' (f8) nE) (p8) (o8)).mono ?_
   rintro e w9 ⟨va,vc,rfl,hv,hvb,g9⟩
   have f9:St W w9:=(f8).trans' g9 nE
   refine hK.out _ _ (uh HSW _ f9) (fun _=>?_)
   clear hK K
   refine rdO 15 rfl (fun K hK=>?_)
   go_simp
   go_wp2_with fail
   refine(uh HCK (w9) gz ((uh HFW).trans' (f9) nE) (g9.obj (g8.obj ok id) id)).mono ?_
   rintro e wF ⟨ua,uc,rfl,hu,hub,gF⟩
   have fF:St W wF:=(f9).trans' gF nE
   have s9F:St w9 wF:=gF
   refine hK.out _ _ (uh HSW _ fF) (fun _=>?_)
   clear hK K
   refine rdO 16 rfl (fun K hK=>?_)
   go_simp
   refine hK.out _ _ (uh HSW _ fF) (fun _=>?_)
   clear hK K
   refine rdO 17 rfl (fun K hK=>?_)
   go_simp
   refine hK.out _ _ (uh HSW _ fF) (fun _=>?_)
   clear hK K
   refine rdO 18 rfl (fun K hK=>?_)
   go_simp
   refine hK.out _ _ (uh HSW _ fF) (fun _=>?_)
   clear hK K
   refine wpAnyH_done (by kernel_rfl) ?_ _
   have HZ:=Hd (show NdO (fun k=>g<=k/\k<wF.heap.size) wF (.iface 96 (brV hh va RB.length vc ua RK.length uc)) (.br hh RB RK)/\St w wF from⟨⟨va,vc,ua,uc,rfl,hv.still s9F,hu,fun y hy=>⟨by
    have h1:=(hvb y hy).1;have h2:=(uh HFW).size;have h3:=(f8).size;omega,Nat.lt_of_lt_of_le (hvb y hy).2 s9F.size⟩,fun y hy=>⟨by
    have h1:=(hub y hy).1;have h2:=(uh HFW).size;have h3:=(f9).size;omega,(hub y hy).2⟩⟩,(uh HFW).trans' fF nE⟩)
   clear hv hu hvb hub gF fF s9F
   go_wp2_with fail
   go_ret
   exact⟨_,rfl,uh HZ⟩
 ·go_simp
  obtain⟨WK,hWK⟩:∃X,(WD).alloc (.cells #[.slice ka nk kc,.slice ka2 nk2 kc2] 94)=X:=⟨_,rfl⟩
  have gk:St (WD) WK:=hWK▸(Fr.refl _ _).alloc _
  have fk:St W WK:=(fD).trans' gk nE
  obtain⟨gz,hgz⟩:∃gz,(WD).heap.size=gz:=⟨_,rfl⟩
  have ok:WK.heap[gz]? = some (.cells #[.slice ka nk kc,.slice ka2 nk2 kc2] 94 (0,0)):=by rw[<-hgz,<-hWK];exact heap_alloc_new _ _
  rw[hWK,hgz]
  refine hK.out _ _ (uh HSW _ fk) (fun _=>?_)
  clear hK K hWK hgz
  refine rdO 5 rfl (fun K hK=>?_)
  go_simp
  obtain⟨W5,hW5⟩:∃X,(WK).alloc (.cells #[.string x] 9)=X:=⟨_,rfl⟩
  have g5:St (WK) W5:=hW5▸(Fr.refl _ _).alloc _
  have f5:St W W5:=(fk).trans' g5 nE
  obtain⟨gx,hgx⟩:∃gx,(WK).heap.size=gx:=⟨_,rfl⟩
  have o5:W5.heap[gx]? = some (.cells #[.string x] 9 (0,0)):=by rw[<-hgx,<-hW5];exact heap_alloc_new _ _
  rw[hW5,hgx]
  refine hK.out _ _ (uh HSW _ f5) (fun _=>?_)
  clear hK K hW5 hgx
  refine rdO 8 rfl (fun K hK=>?_)
  go_simp
  obtain⟨W8,hW8⟩:∃X,(W5).alloc (.cells #[.slice ba nb bc,.slice (some ⟨gx,0,none⟩) 1 1,.slice ba2 nb2 bc2] 93)=X:=⟨_,rfl⟩
  have g8:St (W5) W8:=hW8▸(Fr.refl _ _).alloc _
  have f8:St W W8:=(f5).trans' g8 nE
  obtain⟨gs,hgs⟩:∃gs,(W5).heap.size=gs:=⟨_,rfl⟩
  have o8:W8.heap[gs]? = some (.cells #[.slice ba nb bc,.slice (some ⟨gx,0,none⟩) 1 1,.slice ba2 nb2 bc2] 93 (0,0)):=by rw[<-hgs,<-hW8];exact heap_alloc_new _ _
  have p8:=g8.obj (o5) id
  rw[hW8,hgs]
  refine hK.out _ _ (uh HSW _ f8) (fun _=>?_)
  clear hK K hW8 hgs
  refine rdO 9 rfl (fun K hK=>?_)
  go_simp
  go_wp2_with fail
  refine(uh HCS (W8) gs gx ((uh HFW).trans' (f8) nE) (p8) (o8)).mono ?_
  rintro e w9 ⟨va,vc,rfl,hv,hvb,g9⟩
  have f9:St W w9:=(f8).trans' g9 nE
  refine hK.out _ _ (uh HSW _ f9) (fun _=>?_)
  clear hK K
  refine rdO 15 rfl (fun K hK=>?_)
  go_simp
  go_wp2_with fail
  refine(uh HCK (w9) gz ((uh HFW).trans' (f9) nE) (g9.obj (g8.obj (g5.obj ok id) id) id)).mono ?_
  rintro e wF ⟨ua,uc,rfl,hu,hub,gF⟩
  have fF:St W wF:=(f9).trans' gF nE
  have s9F:St w9 wF:=gF
  refine hK.out _ _ (uh HSW _ fF) (fun _=>?_)
  clear hK K
  refine rdO 16 rfl (fun K hK=>?_)
  go_simp
  refine hK.out _ _ (uh HSW _ fF) (fun _=>?_)
  clear hK K
  refine rdO 17 rfl (fun K hK=>?_)
  go_simp
  refine hK.out _ _ (uh HSW _ fF) (fun _=>?_)
  clear hK K
  refine rdO 18 rfl (fun K hK=>?_)
  go_simp
  refine hK.out _ _ (uh HSW _ fF) (fun _=>?_)
  clear hK K
  refine wpAnyH_done (by kernel_rfl) ?_ _
  have HZ:=Hd (show NdO (fun k=>g<=k/\k<wF.heap.size) wF (.iface 96 (brV hh va RB.length vc ua RK.length uc)) (.br hh RB RK)/\St w wF from⟨⟨va,vc,ua,uc,rfl,hv.still s9F,hu,fun y hy=>⟨by
   have h1:=(hvb y hy).1;have h2:=(uh HFW).size;have h3:=(f8).size;omega,Nat.lt_of_lt_of_le (hvb y hy).2 s9F.size⟩,fun y hy=>⟨by
   have h1:=(hub y hy).1;have h2:=(uh HFW).size;have h3:=(f9).size;omega,(hub y hy).2⟩⟩,(uh HFW).trans' fF nE⟩)
  clear hv hu hvb hub gF fF s9F
  go_wp2_with fail
  go_ret
  exact⟨_,rfl,uh HZ⟩
end Go.Proofs.YtbiopjmpdhcjgaaGreatDoor
