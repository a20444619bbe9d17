/- TreePlays: one op, by the laws' own Do: a key taken away, a kept root, nothing, a key that may not be. -/
import Derived.Test.YtbiopjmpdhcjgaaGreatDoorJd
namespace Go.Proofs.YtbiopjmpdhcjgaaGreatDoor
open Go.RowKit
theorem getP_no {x:ByteArray}:∀{l:List Pr},getP l x=none->∀p∈l,p.1≠x
 | [],_,p,hp=>by cases hp
 | q :: l,h,p,hp=>by
  unfold getP at h
  split at h
  ·cases h
  ·next e=>
   rcases List.mem_cons.1 hp with rfl | hp
   ·exact e
   ·exact getP_no h p hp
section
variable {nu sz:Nat} {w w' w0:World} {hb sb b:Nat} {T:Tay} {A:Ab} {P:List (Int×Int)}
set_option maxRecDepth 100000 in
set_option maxHeartbeats 4000000 in
theorem do_del (h:Hp nu sz w hb sb b T A P) (s:HpS nu (says P A)) {r:Nat} {L:List Pr} {Q:List Nat} (rt:Rt nu sz (says P A) r L Q) (pk:Pok L) (ri:Rise L) (hl:L.length<=200) (la:Option Addr) (lc:Nat) (hL:Lf w la lc L) (hla:∀y,la=some y->¬tfoot sb b T y.block) (x:ByteArray) (v:Nat) (kv:Value) (hP:P.length+3000<=6144) (room:cnt nu (ask nu (says P A))+30<nu / 4) (low:∀u,ask nu (says P A) u<=32) :
  Calls Tryz.prog 26 #[ptr sb,ptr hb,.agg #[.int .u64 (r:Nat),.slice la L.length lc],.agg #[.int .i64 1,.string x,.int .u64 (v:Nat)],kv] w fun e w'=>DoE nu sz w sb b T A P (delP L x) w' e:=by
 obtain⟨g,hg⟩:∃g,w.heap.size=g:=⟨_,rfl⟩
 obtain⟨W1,hW1⟩:∃W,w.alloc (.cells #[.int .u64 (r:Nat),.slice la L.length lc] 35)=W:=⟨_,rfl⟩
 obtain⟨W2,hW2⟩:∃W,W1.alloc (.cells #[.int .i64 1,.string x,.int .u64 (v:Nat)] 54)=W:=⟨_,rfl⟩
 obtain⟨W,hW⟩:∃W,W2.alloc (.cells #[.int .u64 0,.slice none 0 0] 35)=W:=⟨_,rfl⟩
 have z1:W1.heap.size=g+1:=by rw[<-hW1];simp[hg]
 have z2:W2.heap.size=g+2:=by rw[<-hW2];simp;omega
 have f1:St w W1:=hW1▸(Fr.refl _ w).alloc _
 have f2:St W1 W2:=hW2▸(Fr.refl _ W1).alloc _
 have f3:St W2 W:=hW▸(Fr.refl _ W2).alloc _
 have f23:St W1 W:=f2.trans' f3 nE
 have fW:St w W:=f1.trans' f23 nE
 have o0:W.heap[g]? = some (.cells #[.int .u64 (r:Nat),.slice la L.length lc] 35 (0,0)):=by
  have:=heap_alloc_new w (.cells #[.int .u64 (r:Nat),.slice la L.length lc] 35)
  rw[hW1,hg] at this;exact f23.obj this id
 have o1:W.heap[g+1]? = some (.cells #[.int .i64 1,.string x,.int .u64 (v:Nat)] 54 (0,0)):=by
  have:=heap_alloc_new W1 (.cells #[.int .i64 1,.string x,.int .u64 (v:Nat)] 54)
  rw[hW2,z1] at this;exact f3.obj this id
 have o2:W.heap[g+2]? = some (.cells #[.int .u64 0,.slice none 0 0] 35 (0,0)):=by
  have:=heap_alloc_new W2 (.cells #[.int .u64 0,.slice none 0 0] 35)
  rw[hW,z2] at this;exact this
 have c10:W.cell? ⟨g+1,0,none⟩=some (.int .i64 1):=cOo o1 0
 have HW:=Hd (ai hW1 (ai hW2 hW))
 have PT:=y_Del (h.still fW) s rt pk ri hl x hP room low
 have HCE:=@Hd _ (fun(w':World) (F:Nat->Prop) (f:Fr F W w') (n:∀k,F k->k<g)=>show w'.cell? ⟨g,0,none⟩=some (.int .u64 (r:Nat))/\w'.cell? ⟨g,1,none⟩=some (.slice la L.length lc)/\w'.cell? ⟨g+1,1,none⟩=some (.string x)/\w'.heap[g+1+1]? = some (.cells #[.int .u64 0,.slice none 0 0] 35 (0,0)) from⟨cOo (f.obj o0 (fun x=>by have:=n _ x;omega)) 0,cOo (f.obj o0 (fun x=>by have:=n _ x;omega)) 1,cOo (f.obj o1 (fun x=>by have:=n _ x;omega)) 1,f.obj o2 (fun x=>by have:=n _ x;omega)⟩)
 have c11:W.cell? ⟨g+1,1,none⟩=some (.string x):=cOo o1 1
 have c00:W.cell? ⟨g,0,none⟩=some (.int .u64 (r:Nat)):=cOo o0 0
 have lR:g+1+1<W.heap.size:=(Array.getElem?_eq_some_iff.1 o2).1
 have HX:=Hd (ai h (ai s (ai rt (ai pk (ai ri (ai hl (ai hL (ai hla (ai fW lR)))))))))
 have HP:=Hd PT
 clear PT h s rt pk ri hl hL hla hP room low fW f1 f2 f3 f23 o0 o1 o2 z1 z2 lR
 rw[<-hW,<-hW2,<-hW1] at c10 c11 c00
 clear hW hW1 hW2
 go_enter Tryz.func26,Tryz.ntmps26
 go_wp2_with fail
 obtain⟨hW1,hW2,hW⟩:=uh HW
 rw[hW1,hW2,hW]
 clear hW1 hW2 hW HW c10 c11 c00
 refine(uh HP).mono ?_
 clear HP
 rintro e w2 (⟨hno,rfl,f2⟩ | ⟨v2,hin,r',rfl,T2,P2,Q2,k2,hk2,oD,l2,ch2,rt2⟩)
 ·skip
  obtain⟨T2,P2,Q2,k2,oD,hk2,l2,ch2,rt2⟩:∃T2 P2 Q2 k2,Onx W sb b T w2 T2 sz A P2 false/\((delP L x).length<=62->k2<=13)/\P2.length<=P.length+1600/\Chg nu (says P A) k2 (says P2 A)/\Rt nu sz (says P2 A) r (delP L x) Q2:=by
   obtain⟨h,s,rt,pk,ri,hl,hL,hla,fW,lR⟩:=uh HX
   exact⟨T,P,Q,0,(Onx.start (h.still fW).st).quiet f2,fun _=>by omega,by omega,Chg.refl s,by rw[delP_none (getP_no hno)];exact rt⟩
  have hlen:(delP L x).length=L.length:=by rw[delP_none (getP_no hno)]
  have hlt:(((delP L x).length:Int)<L.length)=False:=by rw[hlen];simp
  clear f2 hno hlen
  obtain⟨h,s,rt,pk,ri,hl,hL,hla,fW,lR⟩:=uh HX
  have h2:=(h.still fW).call oD
  have o02:Onx w sb b T w2 T2 sz A P2 false:=oD.after fW
  have lt:∀k,tfoot sb b T k->k<g:=fun k hk=>by rw[<-hg];exact h.st.lt k hk
  obtain⟨e0,e1,e2,oR⟩:=uh HCE w2 _ oD.fr lt
  have nR:¬tfoot sb b T2 (g+1+1):=oD.other lR (fun x=>by have:=lt _ x;omega)
  have lR2:g+1+1<w2.heap.size:=Nat.lt_of_lt_of_le lR oD.fr.size
  have hL2:Lf w2 la lc L:=hL.kept o02.fr hla
  have HWT:=Hd (with_del la lc L x w2 hL2 (by omega) ri)
  have HY:=Hd (ai h2 (ai o02 (ai hk2 (ai l2 (ai ch2 (ai rt2 (ai oR (ai nR (ai lR2 (ai e0 e1))))))))))
  clear h s rt pk ri hl hL hla fW lR oD h2 o02 lt hL2 hk2 l2 ch2 rt2 oR nR lR2 HX HCE
  go_wp2_with fail
  refine(uh HWT).mono ?_
  clear HWT e0 e1 e2
  rintro e w3 ⟨v',rfl,rv,f3⟩
  obtain⟨h2,o02,hk2,l2,ch2,rt2,oR,nR,lR2,e0,e1⟩:=uh HY
  obtain⟨va,vc,ev⟩:∃va vc,v' = .slice va (delP L x).length vc:=by
   rcases rowp_form rv with ⟨e,h0⟩ | ⟨gg,cap,e⟩
   ·exact⟨none,0,by rw[e,h0]⟩
   ·exact⟨_,cap,e⟩
  subst ev
  have oR3:=f3.obj oR id
  obtain⟨wD,hwD⟩:∃wD,w3.drew=wD:=⟨_,rfl⟩
  obtain⟨W4,hW4⟩:∃W,(wD.setCell ⟨g+1+1,0,none⟩ (.int .u64 (r:Nat))).setCell ⟨g+1+1,1,none⟩ (.slice va (delP L x).length vc)=W:=⟨_,rfl⟩
  have fD:St w3 wD:=hwD▸(Fr.refl _ w3).drewN 1
  have fD':Fr (fun k=>k=g+1+1) w3 wD:=hwD▸(Fr.refl _ w3).drewN 1
  have f34:Fr (fun k=>k=g+1+1) w3 W4:=hW4▸(fD'.setCell (.inl rfl) _).setCell (.inl rfl) _
  have oRD:=fD.obj oR3 id
  have o4:W4.heap[g+1+1]? = some (.cells #[.int .u64 (r:Nat),.slice va (delP L x).length vc] 35 (0,0)):=hW4▸heap_setCell_same _ (g+1+1) 1 _ _ (.slice va (delP L x).length vc) (heap_setCell_same wD (g+1+1) 0 _ _ (.int .u64 (r:Nat)) oRD)
  have c0:wD.cell? ⟨g+1+1,0,none⟩=some (.int .u64 0):=cOo oRD 0
  have c1:wD.cell? ⟨g+1+1,1,none⟩=some (.slice none 0 0):=cOo oRD 1
  have z3:∀o,wD.frozen? ⟨g+1+1,o,none⟩=false:=fun o=>by simp[World.frozen?,oRD]
  have s0:=fD.cell' (f3.cell' e0 id) id;have s1:=fD.cell' (f3.cell' e1 id) id
  have S4:W4.cell? ⟨g,0,none⟩=some (.int .u64 (r:Nat))/\W4.cell? ⟨g,1,none⟩=some (.slice la L.length lc):=⟨f34.cell' (f3.cell' e0 id) (fun e=>by have e:g=g+1+1:=e;omega),f34.cell' (f3.cell' e1 id) (fun e=>by have e:g=g+1+1:=e;omega)⟩
  have HZ:=Hd (show DoE nu sz w sb b T A P (delP L x) W4 (.returned (.tuple #[.agg #[.int .u64 (r:Nat),.slice va (delP L x).length vc],.bool true])) from
   ⟨T2,P2,Q2,k2,va,vc,r,rfl,hk2,(o02.quiet f3).turn f34 (fun k hk=>by rw[hk];exact nR) (fun k hk=>by rw[hk];omega),l2,ch2,rt2,row_lo (row_kept rv f34 (fun k hk e=>by have:=(rv.lt k hk).1;have e:k=g+1+1:=e;omega)) o02.fr.size,fun j _ _ hj ht=>by have:=(rv.lt j hj).1;have:=h2.st.lt j ht;omega⟩)
  have HW4:=Hd hW4;have HO4:=Hd o4
  clear h2 o02 hk2 l2 ch2 rt2 oR nR lR2 oR3 oRD f34 o4 hW4 rv f3 fD fD' e0 e1 HY
  have HWD:=Hd hwD
  clear hwD
  go_wp2_with fail
  refine wp_region_held_drew (S:=fun w'=>w'.cell? ⟨g,0,none⟩=some (.int .u64 (r:Nat))/\w'.cell? ⟨g,1,none⟩=some (.slice la L.length lc)) (by kernel_rfl) (by rw[uh HWD];exact⟨s0,s1⟩) (fun hHeld=>?_)
  rw[uh HWD] at hHeld ⊢
  clear s0 s1
  refine tkO 0 ?_ hHeld rfl ?_ ?_
  rotate_left
  ·intro w q;go_simp;try with_reducible rfl
  simp only[apt,List.set]
  refine tkO 1 ?_ hHeld rfl ?_ ?_
  rotate_left
  ·intro w q;go_simp;try with_reducible rfl
  simp only[apt,List.set]
  refine tkO 2 ?_ hHeld rfl ?_ ?_
  rotate_left
  ·intro w q;go_simp;try with_reducible rfl
  simp only[apt,List.set]
  refine tkO 3 ?_ hHeld rfl ?_ ?_
  rotate_left
  ·intro w q;go_simp;try with_reducible rfl
  simp only[apt,List.set]
  refine tkO 4 ?_ hHeld rfl ?_ ?_
  rotate_left
  ·intro w q;go_simp;try with_reducible rfl
  simp only[apt,List.set]
  refine tkO 5 ?_ hHeld rfl ?_ ?_
  rotate_left
  ·intro w q;go_simp;try with_reducible rfl
  simp only[apt,List.set]
  refine tkO 6 ?_ hHeld rfl ?_ ?_
  rotate_left
  ·intro w q;go_simp;try with_reducible rfl
  simp only[apt,List.set]
  refine tkO 7 ?_ hHeld rfl ?_ ?_
  rotate_left
  ·intro w q;go_simp;try with_reducible rfl
  simp only[apt,List.set]
  refine tkO 8 ?_ hHeld rfl ?_ ?_
  rotate_left
  ·intro w q;go_simp;try with_reducible rfl
  simp only[apt,List.set]
  refine tkO 9 ?_ hHeld rfl ?_ ?_
  rotate_left
  ·intro w q;go_simp;try with_reducible rfl
  simp only[apt,List.set]
  refine tkO 10 ?_ hHeld rfl ?_ ?_
  rotate_left
  ·intro w q;go_simp;try with_reducible rfl
  simp only[apt,List.set]
  refine tkO 11 ?_ hHeld rfl ?_ ?_
  rotate_left
  ·intro w q;go_simp;try with_reducible rfl
  simp only[apt,List.set]
  refine tkO 12 ?_ hHeld rfl ?_ ?_
  rotate_left
  ·intro w q;go_simp;try with_reducible rfl
  simp only[apt,List.set]
  refine tkO 13 ?_ hHeld rfl ?_ ?_
  rotate_left
  ·intro w q;go_simp;try with_reducible rfl
  simp only[apt,List.set]
  refine tkO 14 ?_ hHeld rfl ?_ ?_
  rotate_left
  ·intro w q;go_simp;try with_reducible rfl
  simp only[apt,List.set]
  refine tkO 15 ?_ hHeld rfl ?_ ?_
  rotate_left
  ·intro w q;go_simp;try with_reducible rfl
  simp only[apt,List.set]
  refine tkO 16 ?_ hHeld rfl ?_ ?_
  rotate_left
  ·intro w q;go_simp;try with_reducible rfl
  simp only[apt,List.set]
  refine tkO 17 ?_ hHeld rfl ?_ ?_
  rotate_left
  ·intro w q;go_simp;try with_reducible rfl
  simp only[apt,List.set]
  refine tkO 18 ?_ hHeld rfl ?_ ?_
  rotate_left
  ·intro w q;go_simp;try with_reducible rfl
  simp only[apt,List.set]
  refine tkO 19 ?_ hHeld rfl ?_ ?_
  rotate_left
  ·intro w q;go_simp;try with_reducible rfl
  simp only[apt,List.set]
  refine rdO 20 rfl (fun K hK=>?_)
  go_simp
  rw[uh HW4]
  refine hK.out _ _ S4 (fun hHeld=>?_)
  clear hK K c0 c1 z3
  refine tkO 21 ?_ hHeld rfl ?_ ?_
  rotate_left
  ·intro w q;go_simp;try with_reducible rfl
  simp only[apt,List.set]
  refine wpAnyH_done (by kernel_rfl) ?_ _
  go_wp2_with fail
  refine bodyPost_ret (results_ct Tryz.results26 _ _ (g+1+1) #[.int .u64 (r:Nat),.slice va (delP L x).length vc] (by rfl) (run_loadVar_row _ (g+1+1) 35 35 _ (0,0) _ (uh HO4) Tryz.underlying35 rfl (by kernel_rfl))) rfl ?_
  exact uh HZ
 ·skip
  have hlen:(delP L x).length<L.length:=by
   have ri:=(uh HX).2.2.2.2.1
   have:=delP_len ri hin
   omega
  have hlt:(((delP L x).length:Int)<L.length)=True:=by simp;omega
  replace hk2:=hk2.2
  clear hin hlen
  obtain⟨h,s,rt,pk,ri,hl,hL,hla,fW,lR⟩:=uh HX
  have h2:=(h.still fW).call oD
  have o02:Onx w sb b T w2 T2 sz A P2 false:=oD.after fW
  have lt:∀k,tfoot sb b T k->k<g:=fun k hk=>by rw[<-hg];exact h.st.lt k hk
  obtain⟨e0,e1,e2,oR⟩:=uh HCE w2 _ oD.fr lt
  have nR:¬tfoot sb b T2 (g+1+1):=oD.other lR (fun x=>by have:=lt _ x;omega)
  have lR2:g+1+1<w2.heap.size:=Nat.lt_of_lt_of_le lR oD.fr.size
  have hL2:Lf w2 la lc L:=hL.kept o02.fr hla
  have HWT:=Hd (with_del la lc L x w2 hL2 (by omega) ri)
  have HY:=Hd (ai h2 (ai o02 (ai hk2 (ai l2 (ai ch2 (ai rt2 (ai oR (ai nR (ai lR2 (ai e0 e1))))))))))
  clear h s rt pk ri hl hL hla fW lR oD h2 o02 lt hL2 hk2 l2 ch2 rt2 oR nR lR2 HX HCE
  go_wp2_with fail
  refine(uh HWT).mono ?_
  clear HWT e0 e1 e2
  rintro e w3 ⟨v',rfl,rv,f3⟩
  obtain⟨h2,o02,hk2,l2,ch2,rt2,oR,nR,lR2,e0,e1⟩:=uh HY
  obtain⟨va,vc,ev⟩:∃va vc,v' = .slice va (delP L x).length vc:=by
   rcases rowp_form rv with ⟨e,h0⟩ | ⟨gg,cap,e⟩
   ·exact⟨none,0,by rw[e,h0]⟩
   ·exact⟨_,cap,e⟩
  subst ev
  have oR3:=f3.obj oR id
  obtain⟨wD,hwD⟩:∃wD,w3.drew=wD:=⟨_,rfl⟩
  obtain⟨W4,hW4⟩:∃W,(wD.setCell ⟨g+1+1,0,none⟩ (.int .u64 (r':Nat))).setCell ⟨g+1+1,1,none⟩ (.slice va (delP L x).length vc)=W:=⟨_,rfl⟩
  have fD:St w3 wD:=hwD▸(Fr.refl _ w3).drewN 1
  have fD':Fr (fun k=>k=g+1+1) w3 wD:=hwD▸(Fr.refl _ w3).drewN 1
  have f34:Fr (fun k=>k=g+1+1) w3 W4:=hW4▸(fD'.setCell (.inl rfl) _).setCell (.inl rfl) _
  have oRD:=fD.obj oR3 id
  have o4:W4.heap[g+1+1]? = some (.cells #[.int .u64 (r':Nat),.slice va (delP L x).length vc] 35 (0,0)):=hW4▸heap_setCell_same _ (g+1+1) 1 _ _ (.slice va (delP L x).length vc) (heap_setCell_same wD (g+1+1) 0 _ _ (.int .u64 (r':Nat)) oRD)
  have c0:wD.cell? ⟨g+1+1,0,none⟩=some (.int .u64 0):=cOo oRD 0
  have c1:wD.cell? ⟨g+1+1,1,none⟩=some (.slice none 0 0):=cOo oRD 1
  have z3:∀o,wD.frozen? ⟨g+1+1,o,none⟩=false:=fun o=>by simp[World.frozen?,oRD]
  have s0:=fD.cell' (f3.cell' e0 id) id;have s1:=fD.cell' (f3.cell' e1 id) id
  have S4:W4.cell? ⟨g,0,none⟩=some (.int .u64 (r:Nat))/\W4.cell? ⟨g,1,none⟩=some (.slice la L.length lc):=⟨f34.cell' (f3.cell' e0 id) (fun e=>by have e:g=g+1+1:=e;omega),f34.cell' (f3.cell' e1 id) (fun e=>by have e:g=g+1+1:=e;omega)⟩
  have HZ:=Hd (show DoE nu sz w sb b T A P (delP L x) W4 (.returned (.tuple #[.agg #[.int .u64 (r':Nat),.slice va (delP L x).length vc],.bool true])) from
   ⟨T2,P2,Q2,k2,va,vc,r',rfl,hk2,(o02.quiet f3).turn f34 (fun k hk=>by rw[hk];exact nR) (fun k hk=>by rw[hk];omega),l2,ch2,rt2,row_lo (row_kept rv f34 (fun k hk e=>by have:=(rv.lt k hk).1;have e:k=g+1+1:=e;omega)) o02.fr.size,fun j _ _ hj ht=>by have:=(rv.lt j hj).1;have:=h2.st.lt j ht;omega⟩)
  have HW4:=Hd hW4;have HO4:=Hd o4
  clear h2 o02 hk2 l2 ch2 rt2 oR nR lR2 oR3 oRD f34 o4 hW4 rv f3 fD fD' e0 e1 HY
  have HWD:=Hd hwD
  clear hwD
  go_wp2_with fail
  refine wp_region_held_drew (S:=fun w'=>w'.cell? ⟨g,0,none⟩=some (.int .u64 (r:Nat))/\w'.cell? ⟨g,1,none⟩=some (.slice la L.length lc)) (by kernel_rfl) (by rw[uh HWD];exact⟨s0,s1⟩) (fun hHeld=>?_)
  rw[uh HWD] at hHeld ⊢
  clear s0 s1
  refine tkO 0 ?_ hHeld rfl ?_ ?_
  rotate_left
  ·intro w q;go_simp;try with_reducible rfl
  simp only[apt,List.set]
  refine tkO 1 ?_ hHeld rfl ?_ ?_
  rotate_left
  ·intro w q;go_simp;try with_reducible rfl
  simp only[apt,List.set]
  refine tkO 2 ?_ hHeld rfl ?_ ?_
  rotate_left
  ·intro w q;go_simp;try with_reducible rfl
  simp only[apt,List.set]
  refine tkO 3 ?_ hHeld rfl ?_ ?_
  rotate_left
  ·intro w q;go_simp;try with_reducible rfl
  simp only[apt,List.set]
  refine tkO 4 ?_ hHeld rfl ?_ ?_
  rotate_left
  ·intro w q;go_simp;try with_reducible rfl
  simp only[apt,List.set]
  refine tkO 5 ?_ hHeld rfl ?_ ?_
  rotate_left
  ·intro w q;go_simp;try with_reducible rfl
  simp only[apt,List.set]
  refine tkO 6 ?_ hHeld rfl ?_ ?_
  rotate_left
  ·intro w q;go_simp;try with_reducible rfl
  simp only[apt,List.set]
  refine tkO 7 ?_ hHeld rfl ?_ ?_
  rotate_left
  ·intro w q;go_simp;try with_reducible rfl
  simp only[apt,List.set]
  refine tkO 8 ?_ hHeld rfl ?_ ?_
  rotate_left
  ·intro w q;go_simp;try with_reducible rfl
  simp only[apt,List.set]
  refine tkO 9 ?_ hHeld rfl ?_ ?_
  rotate_left
  ·intro w q;go_simp;try with_reducible rfl
  simp only[apt,List.set]
  refine tkO 10 ?_ hHeld rfl ?_ ?_
  rotate_left
  ·intro w q;go_simp;try with_reducible rfl
  simp only[apt,List.set]
  refine tkO 11 ?_ hHeld rfl ?_ ?_
  rotate_left
  ·intro w q;go_simp;try with_reducible rfl
  simp only[apt,List.set]
  refine tkO 12 ?_ hHeld rfl ?_ ?_
  rotate_left
  ·intro w q;go_simp;try with_reducible rfl
  simp only[apt,List.set]
  refine tkO 13 ?_ hHeld rfl ?_ ?_
  rotate_left
  ·intro w q;go_simp;try with_reducible rfl
  simp only[apt,List.set]
  refine take_l 14 (v:=undef) rfl (by kernel_rfl) (by kernel_rfl) (by kernel_rfl) (fun _ _ _ h=>h) (Or.inr ⟨by rfl,rfl⟩) hHeld ?_
  simp only[apt,List.set]
  refine take_l 15 (v:=undef) rfl (by kernel_rfl) (by kernel_rfl) (by kernel_rfl) (fun _ _ _ h=>h) (Or.inr ⟨by rfl,rfl⟩) hHeld ?_
  simp only[apt,List.set]
  refine take_l 16 (v:=undef) rfl (by kernel_rfl) (by kernel_rfl) (by kernel_rfl) (fun _ _ _ h=>h) (Or.inr ⟨by rfl,rfl⟩) hHeld ?_
  simp only[apt,List.set]
  refine take_l 17 (v:=undef) rfl (by kernel_rfl) (by kernel_rfl) (by kernel_rfl) (fun _ _ _ h=>h) (Or.inr ⟨by rfl,rfl⟩) hHeld ?_
  simp only[apt,List.set]
  refine tkO 18 ?_ hHeld rfl ?_ ?_
  rotate_left
  ·intro w q;go_simp;try with_reducible rfl
  simp only[apt,List.set]
  refine tkO 19 ?_ hHeld rfl ?_ ?_
  rotate_left
  ·intro w q;go_simp;try with_reducible rfl
  simp only[apt,List.set]
  refine rdO 20 rfl (fun K hK=>?_)
  go_simp
  rw[uh HW4]
  refine hK.out _ _ S4 (fun hHeld=>?_)
  clear hK K c0 c1 z3
  refine tkO 21 ?_ hHeld rfl ?_ ?_
  rotate_left
  ·intro w q;go_simp;try with_reducible rfl
  simp only[apt,List.set]
  refine wpAnyH_done (by kernel_rfl) ?_ _
  go_wp2_with fail
  refine bodyPost_ret (results_ct Tryz.results26 _ _ (g+1+1) #[.int .u64 (r':Nat),.slice va (delP L x).length vc] (by rfl) (run_loadVar_row _ (g+1+1) 35 35 _ (0,0) _ (uh HO4) Tryz.underlying35 rfl (by kernel_rfl))) rfl ?_
  exact uh HZ
set_option maxRecDepth 100000 in
set_option maxHeartbeats 4000000 in
theorem do_bad (hv:Value) (r:Nat) (L:List Pr) (la:Option Addr) (lc:Nat) (x:ByteArray) (v:Nat) (hx:x.size<1\/80<x.size) (kv:Value) (w:World) :
  Calls Tryz.prog 26 #[ptr sb,hv,.agg #[.int .u64 (r:Nat),.slice la L.length lc],.agg #[.int .i64 0,.string x,.int .u64 (v:Nat)],kv] w fun e w'=>e = .panicked (errnoQ 1)/\St w w':=by
 obtain⟨g,hg⟩:∃g,w.heap.size=g:=⟨_,rfl⟩
 obtain⟨W1,hW1⟩:∃W,w.alloc (.cells #[.int .u64 (r:Nat),.slice la L.length lc] 35)=W:=⟨_,rfl⟩
 obtain⟨W2,hW2⟩:∃W,W1.alloc (.cells #[.int .i64 0,.string x,.int .u64 (v:Nat)] 54)=W:=⟨_,rfl⟩
 obtain⟨W,hW⟩:∃W,W2.alloc (.cells #[.int .u64 0,.slice none 0 0] 35)=W:=⟨_,rfl⟩
 have z1:W1.heap.size=g+1:=by rw[<-hW1];simp[hg]
 have z2:W2.heap.size=g+2:=by rw[<-hW2];simp;omega
 have f1:St w W1:=hW1▸(Fr.refl _ w).alloc _
 have f2:St W1 W2:=hW2▸(Fr.refl _ W1).alloc _
 have f3:St W2 W:=hW▸(Fr.refl _ W2).alloc _
 have f23:St W1 W:=f2.trans' f3 nE
 have fW:St w W:=f1.trans' f23 nE
 have o0:W.heap[g]? = some (.cells #[.int .u64 (r:Nat),.slice la L.length lc] 35 (0,0)):=by
  have:=heap_alloc_new w (.cells #[.int .u64 (r:Nat),.slice la L.length lc] 35)
  rw[hW1,hg] at this;exact f23.obj this id
 have o1:W.heap[g+1]? = some (.cells #[.int .i64 0,.string x,.int .u64 (v:Nat)] 54 (0,0)):=by
  have:=heap_alloc_new W1 (.cells #[.int .i64 0,.string x,.int .u64 (v:Nat)] 54)
  rw[hW2,z1] at this;exact f3.obj this id
 have o2:W.heap[g+2]? = some (.cells #[.int .u64 0,.slice none 0 0] 35 (0,0)):=by
  have:=heap_alloc_new W2 (.cells #[.int .u64 0,.slice none 0 0] 35)
  rw[hW,z2] at this;exact this
 have c10:W.cell? ⟨g+1,0,none⟩=some (.int .i64 0):=cOo o1 0
 have HW:=Hd (ai hW1 (ai hW2 hW))
 have HCE:=@Hd _ (fun(w':World) (f:St W w')=>show w'.cell? ⟨g,0,none⟩=some (.int .u64 (r:Nat))/\w'.cell? ⟨g,1,none⟩=some (.slice la L.length lc)/\w'.cell? ⟨g+1,1,none⟩=some (.string x)/\w'.cell? ⟨g+1,2,none⟩=some (.int .u64 (v:Nat)) from⟨cOo (f.obj o0 id) 0,cOo (f.obj o0 id) 1,cOo (f.obj o1 id) 1,cOo (f.obj o1 id) 2⟩)
 have HF:=Hd fW
 rw[<-hW,<-hW2,<-hW1] at c10
 clear fW f1 f2 f3 f23 o0 o1 o2 z1 z2 hW hW1 hW2
 go_enter Tryz.func26,Tryz.ntmps26
 go_wp2_with fail
 obtain⟨hW1,hW2,hW⟩:=uh HW
 rw[hW1,hW2,hW]
 clear hW1 hW2 hW HW c10
 have fD:St W W.drew:=(Fr.refl _ W).drewN 1
 have HP:=Hd (y_PutBad (sb:=sb) hv r v x hx W.drew)
 refine wp_region_held_drew (S:=fun w'=>w'.cell? ⟨g,0,none⟩=some (.int .u64 (r:Nat))/\w'.cell? ⟨g,1,none⟩=some (.slice la L.length lc)/\w'.cell? ⟨g+1,1,none⟩=some (.string x)/\w'.cell? ⟨g+1,2,none⟩=some (.int .u64 (v:Nat))) (by kernel_rfl) (uh HCE _ fD) (fun hHeld=>?_)
 refine tkO 0 ?_ hHeld rfl ?_ ?_
 rotate_left
 ·intro w q;go_simp;try with_reducible rfl
 simp only[apt,List.set]
 refine tkO 1 ?_ hHeld rfl ?_ ?_
 rotate_left
 ·intro w q;go_simp;try with_reducible rfl
 simp only[apt,List.set]
 refine tkO 2 ?_ hHeld rfl ?_ ?_
 rotate_left
 ·intro w q;go_simp;try with_reducible rfl
 simp only[apt,List.set]
 refine tkO 3 ?_ hHeld rfl ?_ ?_
 rotate_left
 ·intro w q;go_simp;try with_reducible rfl
 simp only[apt,List.set]
 refine tkO 4 ?_ hHeld rfl ?_ ?_
 rotate_left
 ·intro w q;go_simp;try with_reducible rfl
 simp only[apt,List.set]
 refine tkO 5 ?_ hHeld rfl ?_ ?_
 rotate_left
 ·intro w q;go_simp;try with_reducible rfl
 simp only[apt,List.set]
 refine tkO 6 ?_ hHeld rfl ?_ ?_
 rotate_left
 ·intro w q;go_simp;try with_reducible rfl
 simp only[apt,List.set]
 refine tkO 7 ?_ hHeld rfl ?_ ?_
 rotate_left
 ·intro w q;go_simp;try with_reducible rfl
 simp only[apt,List.set]
 refine tkO 9 ?_ hHeld rfl ?_ ?_
 rotate_left
 ·intro w q;go_simp;try with_reducible rfl
 simp only[apt,List.set]
 refine tkO 10 ?_ hHeld rfl ?_ ?_
 rotate_left
 ·intro w q;go_simp;try with_reducible rfl
 simp only[apt,List.set]
 refine tkO 11 ?_ hHeld rfl ?_ ?_
 rotate_left
 ·intro w q;go_simp;try with_reducible rfl
 simp only[apt,List.set]
 refine tkO 12 ?_ hHeld rfl ?_ ?_
 rotate_left
 ·intro w q;go_simp;try with_reducible rfl
 simp only[apt,List.set]
 refine tkO 13 ?_ hHeld rfl ?_ ?_
 rotate_left
 ·intro w q;go_simp;try with_reducible rfl
 simp only[apt,List.set]
 refine tkO 14 ?_ hHeld rfl ?_ ?_
 rotate_left
 ·intro w q;go_simp;try with_reducible rfl
 simp only[apt,List.set]
 refine tkO 15 ?_ hHeld rfl ?_ ?_
 rotate_left
 ·intro w q;go_simp;try with_reducible rfl
 simp only[apt,List.set]
 refine rdO 8 rfl (fun K hK=>?_)
 go_simp
 go_wp2_with fail
 refine(uh HP).mono ?_
 clear HP
 rintro e w2 ⟨rfl,f2⟩
 exact⟨rfl,rfl,(uh HF).trans' (fD.trans' f2 nE) nE⟩
set_option maxRecDepth 100000 in
set_option maxHeartbeats 4000000 in
theorem do_none (hv:Value) (r:Nat) (L:List Pr) (la:Option Addr) (lc:Nat) (kd:Int) (x:ByteArray) (v:Nat) (ka:Option Addr) (n kc:Nat) (h0:kd≠0) (h1:kd≠1) (h3:kd=3->n=0) (w:World) :
  Calls Tryz.prog 26 #[ptr sb,hv,.agg #[.int .u64 (r:Nat),.slice la L.length lc],.agg #[.int .i64 kd,.string x,.int .u64 (v:Nat)],.slice ka n kc] w fun e w'=>e = .returned (.tuple #[.agg #[.int .u64 (r:Nat),.slice la L.length lc],.bool true])/\St w w':=by
 obtain⟨g,hg⟩:∃g,w.heap.size=g:=⟨_,rfl⟩
 obtain⟨W1,hW1⟩:∃W,w.alloc (.cells #[.int .u64 (r:Nat),.slice la L.length lc] 35)=W:=⟨_,rfl⟩
 obtain⟨W2,hW2⟩:∃W,W1.alloc (.cells #[.int .i64 kd,.string x,.int .u64 (v:Nat)] 54)=W:=⟨_,rfl⟩
 obtain⟨W,hW⟩:∃W,W2.alloc (.cells #[.int .u64 0,.slice none 0 0] 35)=W:=⟨_,rfl⟩
 have z1:W1.heap.size=g+1:=by rw[<-hW1];simp[hg]
 have z2:W2.heap.size=g+2:=by rw[<-hW2];simp;omega
 have f1:St w W1:=hW1▸(Fr.refl _ w).alloc _
 have f2:St W1 W2:=hW2▸(Fr.refl _ W1).alloc _
 have f3:St W2 W:=hW▸(Fr.refl _ W2).alloc _
 have f23:St W1 W:=f2.trans' f3 nE
 have fW:St w W:=f1.trans' f23 nE
 have o0:W.heap[g]? = some (.cells #[.int .u64 (r:Nat),.slice la L.length lc] 35 (0,0)):=by
  have:=heap_alloc_new w (.cells #[.int .u64 (r:Nat),.slice la L.length lc] 35)
  rw[hW1,hg] at this;exact f23.obj this id
 have o1:W.heap[g+1]? = some (.cells #[.int .i64 kd,.string x,.int .u64 (v:Nat)] 54 (0,0)):=by
  have:=heap_alloc_new W1 (.cells #[.int .i64 kd,.string x,.int .u64 (v:Nat)] 54)
  rw[hW2,z1] at this;exact f3.obj this id
 have o2:W.heap[g+2]? = some (.cells #[.int .u64 0,.slice none 0 0] 35 (0,0)):=by
  have:=heap_alloc_new W2 (.cells #[.int .u64 0,.slice none 0 0] 35)
  rw[hW,z2] at this;exact this
 have c10:W.cell? ⟨g+1,0,none⟩=some (.int .i64 kd):=cOo o1 0
 have HW:=Hd (ai hW1 (ai hW2 hW))
 have c00:W.cell? ⟨g,0,none⟩=some (.int .u64 (r:Nat)):=cOo o0 0
 have c01:W.cell? ⟨g,1,none⟩=some (.slice la L.length lc):=cOo o0 1
 have oN:(W2.alloc (.cells #[.int .u64 (r:Nat),.slice la L.length lc] 35)).heap[g+1+1]? = some (.cells #[.int .u64 (r:Nat),.slice la L.length lc] 35 (0,0)):=by
  have:=heap_alloc_new W2 (.cells #[.int .u64 (r:Nat),.slice la L.length lc] 35)
  rw[z2] at this;exact this
 have fN:St w (W2.alloc (.cells #[.int .u64 (r:Nat),.slice la L.length lc] 35)):=(f1.trans' f2 nE).alloc _
 have HF:=Hd (ai fN oN)
 have k0:(kd == 0)=false:=by simpa using h0
 have k0':(kd=0)=False:=eq_false h0
 have k1:(kd == 1)=false:=by simpa using h1
 have k1':(kd=1)=False:=eq_false h1
 rw[<-hW,<-hW2,<-hW1] at c10 c00 c01
 clear fW f1 f2 f3 f23 o0 o1 o2 z1 z2 hW hW1 hW2 h0 h1 oN fN
 by_cases h3':kd=3
 ·subst h3'
  have n0:=h3 rfl
  subst n0
  clear h3 k0 k0' k1 k1'
  go_enter Tryz.func26,Tryz.ntmps26
  go_wp2_with fail
  obtain⟨hW1,hW2,hW⟩:=uh HW
  rw[hW1,hW2]
  clear hW1 hW2 hW HW c10
  obtain⟨f,o⟩:=uh HF
  exact bodyPost_ret (results_ct Tryz.results26 _ _ (g+1+1) #[.int .u64 (r:Nat),.slice la L.length lc] (by rfl) (run_loadVar_row _ (g+1+1) 35 35 _ (0,0) _ o Tryz.underlying35 rfl (by kernel_rfl))) rfl ⟨rfl,f⟩
 ·have k3:(kd == 3)=false:=by simpa using h3'
  have k3':(kd=3)=False:=eq_false h3'
  clear h3 h3'
  go_enter Tryz.func26,Tryz.ntmps26
  go_wp2_with fail
  obtain⟨hW1,hW2,hW⟩:=uh HW
  rw[hW1,hW2]
  clear hW1 hW2 hW HW c10
  obtain⟨f,o⟩:=uh HF
  exact bodyPost_ret (results_ct Tryz.results26 _ _ (g+1+1) #[.int .u64 (r:Nat),.slice la L.length lc] (by rfl) (run_loadVar_row _ (g+1+1) 35 35 _ (0,0) _ o Tryz.underlying35 rfl (by kernel_rfl))) rfl ⟨rfl,f⟩
set_option maxRecDepth 100000 in
set_option maxHeartbeats 4000000 in
theorem do_back (hv:Value) (r:Nat) (L:List Pr) (la:Option Addr) (lc:Nat) (x:ByteArray) (v:Nat) (hv9:v<18446744073709551616) (ka:Option Addr) (kc:Nat) (ks:List Kl) (h0:0<ks.length) (h9:ks.length<=4) (hK:Sl w 2 ka ks.length kc (rtcl (kvs ks))) :
  Calls Tryz.prog 26 #[ptr sb,hv,.agg #[.int .u64 (r:Nat),.slice la L.length lc],.agg #[.int .i64 3,.string x,.int .u64 (v:Nat)],.slice ka ks.length kc] w fun e w'=>∃q∈ks,e = .returned (.tuple #[.agg #[.int .u64 (q.1.1:Nat),.slice q.2.1 q.1.2.1.length q.2.2],.bool true])/\St w w':=by
 obtain⟨g,hg⟩:∃g,w.heap.size=g:=⟨_,rfl⟩
 obtain⟨W1,hW1⟩:∃W,w.alloc (.cells #[.int .u64 (r:Nat),.slice la L.length lc] 35)=W:=⟨_,rfl⟩
 obtain⟨W2,hW2⟩:∃W,W1.alloc (.cells #[.int .i64 3,.string x,.int .u64 (v:Nat)] 54)=W:=⟨_,rfl⟩
 obtain⟨W,hW⟩:∃W,W2.alloc (.cells #[.int .u64 0,.slice none 0 0] 35)=W:=⟨_,rfl⟩
 have z1:W1.heap.size=g+1:=by rw[<-hW1];simp[hg]
 have z2:W2.heap.size=g+2:=by rw[<-hW2];simp;omega
 have f1:St w W1:=hW1▸(Fr.refl _ w).alloc _
 have f2:St W1 W2:=hW2▸(Fr.refl _ W1).alloc _
 have f3:St W2 W:=hW▸(Fr.refl _ W2).alloc _
 have f23:St W1 W:=f2.trans' f3 nE
 have fW:St w W:=f1.trans' f23 nE
 have o0:W.heap[g]? = some (.cells #[.int .u64 (r:Nat),.slice la L.length lc] 35 (0,0)):=by
  have:=heap_alloc_new w (.cells #[.int .u64 (r:Nat),.slice la L.length lc] 35)
  rw[hW1,hg] at this;exact f23.obj this id
 have o1:W.heap[g+1]? = some (.cells #[.int .i64 3,.string x,.int .u64 (v:Nat)] 54 (0,0)):=by
  have:=heap_alloc_new W1 (.cells #[.int .i64 3,.string x,.int .u64 (v:Nat)] 54)
  rw[hW2,z1] at this;exact f3.obj this id
 have o2:W.heap[g+2]? = some (.cells #[.int .u64 0,.slice none 0 0] 35 (0,0)):=by
  have:=heap_alloc_new W2 (.cells #[.int .u64 0,.slice none 0 0] 35)
  rw[hW,z2] at this;exact this
 have c10:W.cell? ⟨g+1,0,none⟩=some (.int .i64 3):=cOo o1 0
 have HW:=Hd (ai hW1 (ai hW2 hW))
 have ix:bits .and .u64 (v:Int) 65535=((v % 65536:Nat):Int):=by
  rw[show(65535:Int)=((65535:Nat):Int) from rfl,bits_and_u64_nat v 65535 hv9 (by omega),show(65535:Nat)=2 ^ 16 - 1 from rfl,Nat.and_two_pow_sub_one_eq_mod]
 have c12:W.cell? ⟨g+1,2,none⟩=some (.int .u64 (v:Nat)):=cOo o1 2
 obtain⟨j,hj⟩:∃j,v % 65536 % ks.length=j:=⟨_,rfl⟩
 have ix2:(wrap64 (bits .and .u64 (v:Int) 65535)).tmod (ks.length:Int)=(j:Int):=by
  rw[ix,small_w64 (x:=((v % 65536:Nat):Int)) ⟨by omega,by omega⟩,Int.tmod_eq_emod_of_nonneg (a:=((v % 65536:Nat):Int)) (by omega),<-hj];rfl
 have hjl:j<ks.length:=by rw[<-hj];exact Nat.mod_lt _ h0
 obtain⟨q,hq⟩:∃q,ks[j]? = some q:=⟨_,List.getElem?_eq_getElem hjl⟩
 obtain⟨b0,o0',rfl,d0⟩:=hK.cells _ _ (rtcl_at (kvs_at hq))
 obtain⟨b1,o1',e1,d1⟩:=hK.cells _ _ (rtcl_snd (kvs_at hq))
 cases e1
 replace d0:=fW.cell' d0 id
 replace d1:=fW.cell' d1 id
 have oN:(W2.alloc (.cells #[.int .u64 (q.1.1:Nat),.slice q.2.1 q.1.2.1.length q.2.2] 35)).heap[g+1+1]? = some (.cells #[.int .u64 (q.1.1:Nat),.slice q.2.1 q.1.2.1.length q.2.2] 35 (0,0)):=by
  have:=heap_alloc_new W2 (.cells #[.int .u64 (q.1.1:Nat),.slice q.2.1 q.1.2.1.length q.2.2] 35)
  rw[z2] at this;exact this
 have fN:St w (W2.alloc (.cells #[.int .u64 (q.1.1:Nat),.slice q.2.1 q.1.2.1.length q.2.2] 35)):=(f1.trans' f2 nE).alloc _
 have HQ:=Hd (ai fN (ai oN (List.mem_of_getElem? hq)))
 rw[<-hW,<-hW2,<-hW1] at c10 c12 d0 d1
 have n0:((0:Int)<ks.length)=True:=by simp;omega
 have n1:((j:Int)<ks.length)=True:=by simp;omega
 have n2:((ks.length:Int)=0)=False:=eq_false (by omega)
 rw[<-Nat.add_assoc] at d1
 clear fW f1 f2 f3 f23 o0 o1 o2 z1 z2 hW hW1 hW2 hK hq ix hj oN fN hv9 h0 h9
 go_enter Tryz.func26,Tryz.ntmps26
 go_wp2_with fail
 obtain⟨hW1,hW2,hW⟩:=uh HW
 rw[hW1,hW2]
 clear hW1 hW2 hW HW c10
 obtain⟨f,o,hm⟩:=uh HQ
 exact bodyPost_ret (results_ct Tryz.results26 _ _ (g+1+1) #[.int .u64 (q.1.1:Nat),.slice q.2.1 q.1.2.1.length q.2.2] (by rfl) (run_loadVar_row _ (g+1+1) 35 35 _ (0,0) _ o Tryz.underlying35 rfl (by kernel_rfl))) rfl ⟨q.1.1,q.1.2.1,q.1.2.2,q.2.1,q.2.2,hm,rfl,f⟩
end
end Go.Proofs.YtbiopjmpdhcjgaaGreatDoor
