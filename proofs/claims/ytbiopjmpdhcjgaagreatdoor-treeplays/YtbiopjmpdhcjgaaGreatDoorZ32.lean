/- Joined: De Df Dg. -/
import Derived.Test.YtbiopjmpdhcjgaaGreatDoorZ31
namespace Go.Proofs.YtbiopjmpdhcjgaaGreatDoor
open Go.RowKit
set_option maxHeartbeats 4000000

section
theorem grown_size2 {B B':List ByteArray} {i n:Nat} (hB':Kok B') (hb:B'.length<=1) (h1:1<=n) (hs:hsz n (kb B)<=32):hsz (n - 1+B'.length) (kb (B.take i ++ B' ++ B.drop (i+1)))<=46:=by
 have h1:=kb_le hB'
 have h2:=kb_split B i
 have h3:=kb_split (B.drop i) 1
 rw[List.drop_drop] at h3
 rw[kb_app,kb_app]
 unfold hsz need at *
 omega
theorem without_size {B:List ByteArray} {k n:Nat} (hs:hsz n (kb B)<=32):hsz (n - 1) (kb (B.take k ++ B.drop (k+1)))<=46:=by
 have h2:=kb_split B k
 have h3:=kb_split (B.drop k) 1
 rw[List.drop_drop] at h3
 rw[kb_app]
 unfold hsz need at *
 omega
theorem join_size {B B1:List ByteArray} {x:ByteArray} {n n1:Nat} (hx:x.size<=80) (h:(n=1/\B = [])\/(n1=1/\B1 = [])) (h1:hsz n (kb B)<=32) (h2:hsz n1 (kb B1)<=32):hsz (n+n1) (kb (B ++ x :: B1))<=46:=by
 rw[kb_app]
 simp only[kb]
 rcases h with ⟨rfl,rfl⟩ | ⟨rfl,rfl⟩
 ·simp only[kb] at *
  unfold hsz need at *
  omega
 ·simp only[kb] at *
  unfold hsz need at *
  omega
theorem sep_near {B:List ByteArray} {M:List (List Pr)} {q:Nat} (h:Sep B M) (hq:q<B.length):Blw (M.getD q []) (B.getD q default)/\Nbl (M.getD (q+1) []) (B.getD q default):=by
 have hl:=h.len
 have e:=h
 rw[getD_split B default q hq,<-List.take_append_drop (q+1) M] at e
 obtain⟨_,_,s3,s4⟩:=sep_split (by simp;omega) e
 refine⟨fun p hp=>s3 p ?_,fun p hp=>s4 p ?_⟩
 ·refine List.mem_flatten.2 ⟨M.getD q [],?_,hp⟩
  have:M.getD q []=M[q]:=by simp[List.getD,List.getElem?_eq_getElem (show q<M.length by omega)]
  rw[this,<-List.take_append_getElem (by omega)]
  exact List.mem_append_right _ (List.mem_singleton.2 rfl)
 ·refine List.mem_flatten.2 ⟨M.getD (q+1) [],?_,hp⟩
  have:M.getD (q+1) []=M[q+1]:=by simp[List.getD,List.getElem?_eq_getElem (show q+1<M.length by omega)]
  rw[this,<-List.getElem_cons_drop (by omega)]
  exact List.mem_cons_self ..
section
variable {T:Nat->List Pr->List Nat->Prop} {B:List ByteArray} {ks:List (Nat×List Pr×List Nat)} {l:List Pr} {Q:List Nat}
theorem For.at {i:Nat} {kk:Nat×List Pr×List Nat} (F:For T B ks l Q) (hk:ks[i]? = some kk):l=((ks.take i).map (·.2.1)).flatten ++ (kk.2.1 ++ ((ks.drop (i+1)).map (·.2.1)).flatten):=by
 have hi:=(List.getElem?_eq_some_iff.1 hk).1
 have e:ks=ks.take i ++ kk :: ks.drop (i+1):=by
  have:=(List.getElem?_eq_some_iff.1 hk).2
  rw[<-this,List.getElem_cons_drop,List.take_append_drop]
 rw[F.2.1]
 conv=>lhs;rw[e]
 rw[List.map_append,List.flatten_append,List.map_cons,List.flatten_cons]
theorem For.at2 {q:Nat} {k1 k2:Nat×List Pr×List Nat} (F:For T B ks l Q) (h1:ks[q]? = some k1) (h2:ks[q+1]? = some k2):l=((ks.take q).map (·.2.1)).flatten ++ ((k1.2.1 ++ k2.2.1) ++ ((ks.drop (q+2)).map (·.2.1)).flatten):=by
 rw[F.at h1]
 congr 1
 have hq:=(List.getElem?_eq_some_iff.1 h2).1
 have e:ks.drop (q+1)=k2 :: ks.drop (q+2):=by
  have:=(List.getElem?_eq_some_iff.1 h2).2
  rw[<-this,List.getElem_cons_drop]
 rw[e,List.map_cons,List.flatten_cons,List.append_assoc]
theorem For.near {q:Nat} {k1 k2:Nat×List Pr×List Nat} {x:ByteArray} (F:For T B ks l Q) (h1:ks[q]? = some k1) (h2:ks[q+1]? = some k2) (hx:B[q]? = some x):Blw k1.2.1 x/\Nbl k2.2.1 x:=by
 have hq:=(List.getElem?_eq_some_iff.1 hx).1
 obtain⟨a,b⟩:=sep_near F.2.2.2.1 hq
 have e1:(ks.map (·.2.1)).getD q []=k1.2.1:=by simp[List.getD,h1]
 have e2:(ks.map (·.2.1)).getD (q+1) []=k2.2.1:=by simp[List.getD,h2]
 have e3:B.getD q default=x:=by simp[List.getD,hx]
 rw[e1,e3] at a
 rw[e2,e3] at b
 exact⟨a,b⟩
end
theorem NdO.aside {F:Nat->Prop} {w w':World} {v:Value} {hh:Nat} {B:List ByteArray} {ks:List (Nat×Nat)} {g:Nat} {a:Int} {x1 y1:Option Addr} {x2 x3 y2 y3:Nat} {ty:TypeId} {z:Nat×Nat} (h:NdO F w v (.br hh B ks)) (o:w.heap[g]? = some (.cells #[.int .i64 a,.slice x1 x2 x3,.slice y1 y2 y3] ty z)) (f:Fr (fun k=>k=g) w w') (G:Nat->Prop) (hG:∀k,F k->G k):NdO G w' v (.br hh B ks):=by
 have no:∀j u,w.cell? ⟨g,j,none⟩=some u->(∃a,u = .int .i64 a)\/∃p q r,u = .slice p q r:=fun j u hu=>by
  rw[cOo o j] at hu
  match j,hu with
  | 0,hu=>exact .inl ⟨_,(Option.some.inj hu).symm⟩
  | 1,hu=>exact .inr ⟨_,_,_,(Option.some.inj hu).symm⟩
  | 2,hu=>exact .inr ⟨_,_,_,(Option.some.inj hu).symm⟩
  | j+3,hu=>simp at hu
 obtain⟨ba,bc,ka,kc,e,h1,h2,g1,g2⟩:=h
 refine⟨ba,bc,ka,kc,e,⟨h1.len,h1.cap,h1.nil,h1.one,fun j u hu=>?_,h1.flat⟩,⟨h2.len,h2.cap,h2.nil,h2.one,fun j u hu=>?_,h2.flat⟩,fun x hx=>hG _ (g1 x hx),fun x hx=>hG _ (g2 x hx)⟩
 ·obtain⟨b,o',e',c⟩:=h1.cells j u hu
  refine⟨b,o',e',f.cell' c fun hb=>?_⟩
  have hb:b=g:=hb
  subst hb
  obtain⟨s,_,rfl⟩:=List.mem_map.1 (List.mem_of_getElem? hu)
  rcases no _ _ c with ⟨_,e⟩ | ⟨_,_,_,e⟩ <;> cases e
 ·obtain⟨b,o',e',c⟩:=h2.cells j u hu
  refine⟨b,o',e',f.cell' c fun hb=>?_⟩
  have hb:b=g:=hb
  subst hb
  -- a row of kids opens with a word that is none of these
  have hk:∃p,ks[j / 2]? = some p:=⟨_,List.getElem?_eq_getElem (by have:=(List.getElem?_eq_some_iff.1 hu).1;rw[kcl_len] at this;omega)⟩
  obtain⟨p,hp⟩:=hk
  obtain⟨c1,_⟩:=kcl_at hp
  obtain⟨b2,o2,e2,c2⟩:=h2.cells _ _ c1
  rw[e'] at e2
  cases e2
  rcases no _ _ c2 with ⟨_,e⟩ | ⟨_,_,_,e⟩ <;> cases e
end

section
def Lss (nu sz:Nat) (w0:World) (hb sb b:Nat) (T0:Tay) (A:Ab) (cb:Nat) (w:World) (T:Tay) (P:List (Int×Int)) (tv:Value) (m h hh:Nat) (l:List Pr) (w':World) (e:Ending):Prop:=
 ∃T' P' tv' k,k<=2/\Wr nu sz w0 hb sb b T0 A cb w T P tv m w' T' P' tv' k/\∃v B ks Q,e = .returned v/\NdO (Off sb b T' cb tv' w') w' (.iface 96 v) (.br hh B (ks.map (kidN nu)))/\For (Tr nu sz (says P' A) (h+1)) B ks l Q/\hsz ks.length (kb B)<=46
section
variable {nu sz:Nat} {w w' w0 w1 w2:World} {hb sb b cb m h hh:Nat} {T T0:Tay} {A:Ab} {P:List (Int×Int)} {tv:Value} {B:List ByteArray} {ks:List (Nat×List Pr×List Nat)} {l lj ln:List Pr} {Q:List Nat} {e:Ending}
theorem Rpl.lss {i j:Nat} (r:Rpl nu sz w0 hb sb b T0 A cb w T P tv m (h+1) hh B (ks.map (kidN nu)) i j lj w' e) (F:For (Tr nu sz (says P A) (h+1)) B ks l Q) (hj:j<=ks.length) (hij:j=i+1\/j=i+2) (hm:∀p∈lj,p∈(((ks.take j).drop i).map (·.2.1)).flatten) (hl:((ks.take i).map (·.2.1)).flatten ++ (lj ++ ((ks.drop j).map (·.2.1)).flatten)=ln) (hs:hsz ks.length (kb B)<=32) :
  Lss nu sz w0 hb sb b T0 A cb w T P tv m h hh ln w' e:=by
 obtain⟨T',P',tv',k,hk,wr,B',ks',Q',fo',hb',v,rfl,nd⟩:=r
 obtain⟨Q2,fo2,_⟩:=For.repl (wr.ch.fo F) (by omega) hj fo' hm
 rw[hl] at fo2
 have hks':ks'.length=B'.length+1:=by have:=fo'.2.2.2.1.len;simpa using this
 have eK:(ks.map (kidN nu)).take i ++ ks'.map (kidN nu) ++ (ks.map (kidN nu)).drop j=(ks.take i ++ ks' ++ ks.drop j).map (kidN nu):=by
  rw[List.map_append,List.map_append,List.map_take,List.map_drop]
 rw[eK] at nd
 refine⟨T',P',tv',k,hk,wr,v,_,_,Q2,rfl,nd,fo2,?_⟩
 rcases hij with rfl | rfl
 ·have eL:(ks.take i ++ ks' ++ ks.drop (i+1)).length=ks.length+B'.length:=by simp[hks'];omega
  rw[eL,Nat.add_sub_cancel]
  exact grown_size fo'.2.2.2.2 hb' hs
 ·have eL:(ks.take i ++ ks' ++ ks.drop (i+2)).length=ks.length - 1+B'.length:=by simp[hks'];omega
  rw[eL,show i+2 - 1=i+1 by omega]
  exact grown_size2 fo'.2.2.2.2 hb' (by omega) hs
theorem Lss.done {g1:Nat} (L:Lss nu sz w0 hb sb b T0 A cb w1 T P tv m h hh l w2 e) (og:Off sb b T cb tv w1 g1) (o1:w1.heap[g1]? = some (.cells #[.int .i64 0,.slice none 0 0,.slice none 0 0] 96 (0,0))) (hw:St w w1) (hg:w.heap.size<=g1) (h0:w0.heap.size<=w.heap.size) :
  ∃va nb vc ua nk uc,e = .returned (brV hh va nb vc ua nk uc)/\w2.heap[g1]? = some (.cells #[.int .i64 0,.slice none 0 0,.slice none 0 0] 96 (0,0))/\∀w3,Fr (fun k=>k=g1) w2 w3->Lss nu sz w0 hb sb b T0 A cb w T P tv m h hh l w3 (.returned (brV hh va nb vc ua nk uc)):=by
 obtain⟨T',P',tv',k,hk,wr,v,B,ks,Q,rfl,nd,fo,hs⟩:=L
 obtain⟨k1,o2⟩:=wr.kp.2 _ og
 have e2:=k1.trans o1
 have nd':=nd
 obtain⟨ba,bc,ka,kc,ev,_⟩:=nd'
 cases ev
 refine⟨ba,_,bc,ka,_,kc,rfl,e2,fun w3 f=>?_⟩
 refine⟨T',P',tv',k,hk,(wr.after hw).own f o2 hg h0,_,B,ks,Q,rfl,nd.aside e2 f _ (fun k hk=>hk.turn (f:=f)),fo,hs⟩
end
end

section
section
variable {nu sz:Nat} {w w0:World} {hb sb b cb m h:Nat} {T T0:Tay} {A:Ab} {P:List (Int×Int)} {tv:Value}
set_option maxRecDepth 100000 in
theorem y_lessL (c:Cg nu sz w0 hb sb b T0 A cb w T P tv m) (hh:Nat) (ba:Option Addr) (nb bc:Nat) (ka:Option Addr) (nk kc i:Nat) (lv:Value) (q lam sn:Nat) (ln:List Pr) (hi:i<nk) (hnk:2<=nk) (hn5:nk<=500) (_hq5:q<=500) (hs5:sn<=500)
  (IT:∀w1,St w w1->Calls Tryz.prog 233 #[lv] w1 fun e w'=>∃ia ic,e = .returned (.slice ia q ic)/\St w1 w')
  (LE:∀w1,Calls Tryz.prog 235 #[lv] w1 fun e w'=>e = .returned (.int .i64 (lam:Nat))/\St w1 w')
  (SZ:∀w1,St w w1->Calls Tryz.prog 137 #[.iface 100 lv] w1 fun e w'=>e = .returned (.int .i64 (sn:Nat))/\St w1 w')
  (WO:q=0->∀w1,St w w1->Calls Tryz.prog 149 #[brV hh ba nb bc ka nk kc,.int .i64 i] w1 fun e w'=>Lss nu sz w0 hb sb b T0 A cb w1 T P tv m h hh ln w' e)
  (RP:lam<=q->q≠0->∀w1,St w w1->Calls Tryz.prog 93 #[ptr cb,brV hh ba nb bc ka nk kc,.int .i64 i,.int .i64 ((i:Int)+1),.iface 100 lv] w1 fun e w'=>Lss nu sz w0 hb sb b T0 A cb w1 T P tv m h hh ln w' e)
  (s16:16<sn->lam<=q)
  (BO:∀left,(left=i\/left+1=i)->left+1<nk->q≠0->∀w1,St w w1->Calls Tryz.prog 150 #[ptr cb,brV hh ba nb bc ka nk kc,.int .i64 (left:Nat),.int .i64 i,.iface 100 lv] w1 fun e w'=>∃nj sj,e = .returned nj/\St w1 w'/\sj<=5000/\(∀w2,St w' w2->Calls Tryz.prog 137 #[nj] w2 fun e w3=>e = .returned (.int .i64 (sj:Nat))/\St w2 w3)/\((sj<=32\/q<lam)->∀w2,St w' w2->Calls Tryz.prog 93 #[ptr cb,brV hh ba nb bc ka nk kc,.int .i64 (left:Nat),.int .i64 ((left:Int)+2),nj] w2 fun e w3=>Lss nu sz w0 hb sb b T0 A cb w2 T P tv m h hh ln w3 e)) :
  Calls Tryz.prog 102 #[ptr cb,brV hh ba nb bc ka nk kc,.int .i64 i,.iface 100 lv] w fun e w'=>Lss nu sz w0 hb sb b T0 A cb w T P tv m h hh ln w' e:=by
 have h0:=c.on.fr.size
 obtain⟨g,hg⟩:∃g,w.heap.size=g:=⟨_,rfl⟩
 obtain⟨W,hW⟩:∃W,(w.alloc (.cells #[.int .i64 hh,.slice ba nb bc,.slice ka nk kc] 96)).alloc (.cells #[.int .i64 0,.slice none 0 0,.slice none 0 0] 96)=W:=⟨_,rfl⟩
 have fW:St w W:=hW▸((Fr.refl _ w).alloc _).alloc _
 have zW:W.heap.size=g+2:=by rw[<-hW];simp[hg]
 have oA:W.heap[g]? = some (.cells #[.int .i64 hh,.slice ba nb bc,.slice ka nk kc] 96 (0,0)):=by
  have:=heap_alloc_new w (.cells #[.int .i64 hh,.slice ba nb bc,.slice ka nk kc] 96)
  rw[hg] at this
  rw[<-hW]
  exact((Fr.refl (fun _=>False) _).alloc _).obj this id
 have oR:W.heap[g+1]? = some (.cells #[.int .i64 0,.slice none 0 0,.slice none 0 0] 96 (0,0)):=by
  have:=heap_alloc_new (w.alloc (.cells #[.int .i64 hh,.slice ba nb bc,.slice ka nk kc] 96)) (.cells #[.int .i64 0,.slice none 0 0,.slice none 0 0] 96)
  rw[hW] at this
  simpa [hg] using this
 have ofR:Off sb b T cb tv W (g+1):=c.fresh (by omega) (by omega)
 have wi1:IntKind.i64.wrap ((i:Int)+1)=(i:Int)+1:=(wrap_small _ (by omega) (by omega)).1
 have FIN:=@Hd _ (fun(w1 w2:World) (e:Ending) (f1:St W w1) (L:Lss nu sz w0 hb sb b T0 A cb w1 T P tv m h hh ln w2 e)=>L.done (g1:=g+1) (ofR.still f1).2 (f1.obj oR id) (fW.trans' f1 nE) (by omega) (by omega))
 have HIT:=@Hd _ IT;have HLE:=@Hd _ LE;have HSZ:=@Hd _ SZ;have HWO:=@Hd _ WO;have HRP:=@Hd _ RP;have HBO:=@Hd _ BO;have HS16:=@Hd _ s16;have HW:=Hd hW;have HFW:=Hd fW
 have HCE:=@Hd _ (fun(w1:World) (f1:St W w1)=>show w1.cell? ⟨g,0,none⟩=some (.int .i64 hh)/\w1.cell? ⟨g,1,none⟩=some (.slice ba nb bc)/\w1.cell? ⟨g,2,none⟩=some (.slice ka nk kc) from⟨cOo (f1.obj oA id) 0,cOo (f1.obj oA id) 1,cOo (f1.obj oA id) 2⟩)
 clear IT LE SZ WO RP BO s16 hW fW zW oA oR ofR c h0
 go_enter Tryz.func102,Tryz.ntmps102
 go_wp2_with fail
 rw[uh HW]
 refine(uh HIT W (uh HFW)).mono ?_
 rintro e w1 ⟨ia,ic,rfl,f1⟩
 by_cases hq0:q=0
 ·have hqe:((q:Int) == 0)=true:=by simp;omega
  have K:=Hd (uh HWO hq0 w1 ((uh HFW).trans' f1 nE))
  obtain⟨d0,d1,d2⟩:=uh HCE w1 f1
  have HF1:=Hd f1
  clear f1
  go_wp2_with fail
  refine(uh K).mono ?_
  clear K d0 d1 d2
  intro e w2 L
  obtain⟨va,nb',vc,ua,nk',uc,rfl,o5,FN⟩:=uh FIN _ w2 e (uh HF1) L
  clear L
  have r0:w2.cell? ⟨g+1,0,none⟩=some (.int .i64 0):=cOo o5 0
  have r1:w2.cell? ⟨g+1,1,none⟩=some (.slice none 0 0):=cOo o5 1
  have r2:w2.cell? ⟨g+1,2,none⟩=some (.slice none 0 0):=cOo o5 2
  have rz:∀o,w2.frozen? ⟨g+1,o,none⟩=false:=fun o=>by simp[World.frozen?,o5]
  have HFN:=@Hd _ FN;have HO5:=Hd o5
  clear FN o5 HBO HRP HWO HIT HLE HSZ HCE FIN
  go_wp2_with fail
  have o5:=uh HO5
  have oF:=heap_setCell_same _ (g+1) 2 _ _ (.slice ua nk' uc) (heap_setCell_same _ (g+1) 1 _ _ (.slice va nb' vc) (heap_setCell_same w2 (g+1) 0 _ _ (.int .i64 (hh:Nat)) o5))
  obtain⟨w3,hw3⟩:∃w3,((w2.setCell ⟨g+1,0,none⟩ (.int .i64 (hh:Nat))).setCell ⟨g+1,1,none⟩ (.slice va nb' vc)).setCell ⟨g+1,2,none⟩ (.slice ua nk' uc)=w3:=⟨_,rfl⟩
  have f6:Fr (fun k=>k=g+1) w2 w3:=hw3▸(((Fr.refl (fun k=>k=g+1) w2).setCell (.inl rfl) _).setCell (.inl rfl) _).setCell (.inl rfl) _
  rw[hw3] at oF
  refine bodyPost_ret (results_cell_row Tryz.results102 _ _ (g+1) 96 #[.int .i64 hh,.slice va nb' vc,.slice ua nk' uc] (0,0) _ (by rfl) (by rw[hw3];exact oF) Tryz.underlying96 rfl (by kernel_rfl)) rfl ?_
  rw[hw3]
  exact uh HFN w3 f6
 ·have hqe:((q:Int) == 0)=false:=by simp;omega
  have K:=Hd (uh HSZ w1 ((uh HFW).trans' f1 nE))
  have HF1:=Hd f1
  clear f1
  go_wp2_with fail
  refine(uh K).mono ?_
  clear K
  rintro e w2 ⟨rfl,f2⟩
  have f02:St W w2:=(uh HF1).trans' f2 nE
  have HF2:=Hd f02
  clear f2 f02
  by_cases h16:16<sn
  ·have h16':((16:Int)<sn)=True:=by simp;omega
   have K:=Hd (uh HRP (uh HS16 h16) hq0 w2 ((uh HFW).trans' (uh HF2) nE))
   obtain⟨d0,d1,d2⟩:=uh HCE w2 (uh HF2)
   go_wp2_with fail
   refine(uh K).mono ?_
   clear K d0 d1 d2
   intro e w2 L
   obtain⟨va,nb',vc,ua,nk',uc,rfl,o5,FN⟩:=uh FIN _ w2 e (uh HF2) L
   clear L
   have r0:w2.cell? ⟨g+1,0,none⟩=some (.int .i64 0):=cOo o5 0
   have r1:w2.cell? ⟨g+1,1,none⟩=some (.slice none 0 0):=cOo o5 1
   have r2:w2.cell? ⟨g+1,2,none⟩=some (.slice none 0 0):=cOo o5 2
   have rz:∀o,w2.frozen? ⟨g+1,o,none⟩=false:=fun o=>by simp[World.frozen?,o5]
   have HFN:=@Hd _ FN;have HO5:=Hd o5
   clear FN o5 HBO HRP HWO HIT HLE HSZ HCE FIN
   go_wp2_with fail
   have o5:=uh HO5
   have oF:=heap_setCell_same _ (g+1) 2 _ _ (.slice ua nk' uc) (heap_setCell_same _ (g+1) 1 _ _ (.slice va nb' vc) (heap_setCell_same w2 (g+1) 0 _ _ (.int .i64 (hh:Nat)) o5))
   obtain⟨w3,hw3⟩:∃w3,((w2.setCell ⟨g+1,0,none⟩ (.int .i64 (hh:Nat))).setCell ⟨g+1,1,none⟩ (.slice va nb' vc)).setCell ⟨g+1,2,none⟩ (.slice ua nk' uc)=w3:=⟨_,rfl⟩
   have f6:Fr (fun k=>k=g+1) w2 w3:=hw3▸(((Fr.refl (fun k=>k=g+1) w2).setCell (.inl rfl) _).setCell (.inl rfl) _).setCell (.inl rfl) _
   rw[hw3] at oF
   refine bodyPost_ret (results_cell_row Tryz.results102 _ _ (g+1) 96 #[.int .i64 hh,.slice va nb' vc,.slice ua nk' uc] (0,0) _ (by rfl) (by rw[hw3];exact oF) Tryz.underlying96 rfl (by kernel_rfl)) rfl ?_
   rw[hw3]
   exact uh HFN w3 f6
  ·have h16':((16:Int)<sn)=False:=by simp;omega
   go_wp2_with fail
   go_loopw [9] (fun l9 wr=>∃left:Nat,l9 = .int .i64 left/\(left=i - 1\/(i - 1<=left/\left<=i+1/\lam<=q))/\St W wr) (fun l9 _=>i+2 - (intOf l9).toNat)
   case atStart=>exact⟨i - 1,by rw[show max ((i:Int) - 1) 0=((i - 1:Nat):Int) by omega],.inl rfl,uh HF2⟩
   case round=>
    obtain⟨left,rfl,hleft,fr⟩:=hrel
    generalize wr=wq at *
    clear wr
    have wl1:IntKind.i64.wrap ((left:Int)+1)=(left:Int)+1:=(wrap_small _ (by omega) (by omega)).1
    have wl2:IntKind.i64.wrap ((left:Int)+2)=(left:Int)+2:=(wrap_small _ (by omega) (by omega)).1
    obtain⟨d0,d1,d2⟩:=uh HCE wq fr
    by_cases hA:left<=i/\left+1<nk
    ·have hA1:((left:Int)<=i)=True:=by simp;omega
     have hA2:((left:Int)+1<nk)=True:=by simp;omega
     have K:=Hd (uh HBO left (by omega) hA.2 hq0 wq ((uh HFW).trans' fr nE))
     have HFR:=Hd fr
     clear fr
     go_wp2_with fail
     refine(uh K).mono ?_
     clear K d0 d1 d2
     rintro e w3 ⟨nj,sj,rfl,f3,hs3,SJ,RJ⟩
     have f03:St W w3:=(uh HFR).trans' f3 nE
     have K:=Hd (SJ w3 (Fr.refl _ _))
     have HF3:=Hd f03;have HRJ:=@Hd _ RJ
     clear SJ RJ f3 f03
     go_wp2_with fail
     refine(uh K).mono ?_
     clear K
     rintro e w4 ⟨rfl,f4⟩
     have f04:St W w4:=(uh HF3).trans' f4 nE
     by_cases h32:sj<=32
     ·have h32':((sj:Int)<=32)=True:=by simp;omega
      have K:=Hd (uh HRJ (.inl h32) w4 f4)
      obtain⟨d0,d1,d2⟩:=uh HCE w4 f04
      have HF4:=Hd f04
      clear f4 f04
      go_wp2_with fail
      refine(uh K).mono ?_
      clear K d0 d1 d2
      intro e w2 L
      obtain⟨va,nb',vc,ua,nk',uc,rfl,o5,FN⟩:=uh FIN _ w2 e (uh HF4) L
      clear L
      have r0:w2.cell? ⟨g+1,0,none⟩=some (.int .i64 0):=cOo o5 0
      have r1:w2.cell? ⟨g+1,1,none⟩=some (.slice none 0 0):=cOo o5 1
      have r2:w2.cell? ⟨g+1,2,none⟩=some (.slice none 0 0):=cOo o5 2
      have rz:∀o,w2.frozen? ⟨g+1,o,none⟩=false:=fun o=>by simp[World.frozen?,o5]
      have HFN:=@Hd _ FN;have HO5:=Hd o5
      clear FN o5 HBO HRP HWO HIT HLE HSZ HCE FIN
      go_wp2_with fail
      have o5:=uh HO5
      have oF:=heap_setCell_same _ (g+1) 2 _ _ (.slice ua nk' uc) (heap_setCell_same _ (g+1) 1 _ _ (.slice va nb' vc) (heap_setCell_same w2 (g+1) 0 _ _ (.int .i64 (hh:Nat)) o5))
      obtain⟨w3,hw3⟩:∃w3,((w2.setCell ⟨g+1,0,none⟩ (.int .i64 (hh:Nat))).setCell ⟨g+1,1,none⟩ (.slice va nb' vc)).setCell ⟨g+1,2,none⟩ (.slice ua nk' uc)=w3:=⟨_,rfl⟩
      have f6:Fr (fun k=>k=g+1) w2 w3:=hw3▸(((Fr.refl (fun k=>k=g+1) w2).setCell (.inl rfl) _).setCell (.inl rfl) _).setCell (.inl rfl) _
      rw[hw3] at oF
      refine bodyPost_ret (results_cell_row Tryz.results102 _ _ (g+1) 96 #[.int .i64 hh,.slice va nb' vc,.slice ua nk' uc] (0,0) _ (by rfl) (by rw[hw3];exact oF) Tryz.underlying96 rfl (by kernel_rfl)) rfl ?_
      rw[hw3]
      exact uh HFN w3 f6
     ·have h32':((sj:Int)<=32)=False:=by simp;omega
      have K:=Hd (uh HIT w4 ((uh HFW).trans' f04 nE))
      have HF4:=Hd (ai f4 f04)
      clear f4 f04
      go_wp2_with fail
      refine(uh K).mono ?_
      clear K
      rintro e w5 ⟨ja,jc,rfl,f5⟩
      have K:=Hd (uh HLE w5)
      have HF5:=Hd f5
      clear f5
      go_wp2_with fail
      refine(uh K).mono ?_
      clear K
      rintro e w6 ⟨rfl,f6⟩
      have f46:St w4 w6:=(uh HF5).trans' f6 nE
      have f06:St W w6:=(uh HF4).2.trans' f46 nE
      by_cases hql:q<lam
      ·have hql':((q:Int)<lam)=True:=by simp;omega
       have K:=Hd (uh HRJ (.inr hql) w6 ((uh HF4).1.trans' f46 nE))
       obtain⟨d0,d1,d2⟩:=uh HCE w6 f06
       have HF6:=Hd f06
       clear f6 f46 f06
       go_wp2_with fail
       refine(uh K).mono ?_
       clear K d0 d1 d2
       intro e w2 L
       obtain⟨va,nb',vc,ua,nk',uc,rfl,o5,FN⟩:=uh FIN _ w2 e (uh HF6) L
       clear L
       have r0:w2.cell? ⟨g+1,0,none⟩=some (.int .i64 0):=cOo o5 0
       have r1:w2.cell? ⟨g+1,1,none⟩=some (.slice none 0 0):=cOo o5 1
       have r2:w2.cell? ⟨g+1,2,none⟩=some (.slice none 0 0):=cOo o5 2
       have rz:∀o,w2.frozen? ⟨g+1,o,none⟩=false:=fun o=>by simp[World.frozen?,o5]
       have HFN:=@Hd _ FN;have HO5:=Hd o5
       clear FN o5 HBO HRP HWO HIT HLE HSZ HCE FIN
       go_wp2_with fail
       have o5:=uh HO5
       have oF:=heap_setCell_same _ (g+1) 2 _ _ (.slice ua nk' uc) (heap_setCell_same _ (g+1) 1 _ _ (.slice va nb' vc) (heap_setCell_same w2 (g+1) 0 _ _ (.int .i64 (hh:Nat)) o5))
       obtain⟨w3,hw3⟩:∃w3,((w2.setCell ⟨g+1,0,none⟩ (.int .i64 (hh:Nat))).setCell ⟨g+1,1,none⟩ (.slice va nb' vc)).setCell ⟨g+1,2,none⟩ (.slice ua nk' uc)=w3:=⟨_,rfl⟩
       have f6:Fr (fun k=>k=g+1) w2 w3:=hw3▸(((Fr.refl (fun k=>k=g+1) w2).setCell (.inl rfl) _).setCell (.inl rfl) _).setCell (.inl rfl) _
       rw[hw3] at oF
       refine bodyPost_ret (results_cell_row Tryz.results102 _ _ (g+1) 96 #[.int .i64 hh,.slice va nb' vc,.slice ua nk' uc] (0,0) _ (by rfl) (by rw[hw3];exact oF) Tryz.underlying96 rfl (by kernel_rfl)) rfl ?_
       rw[hw3]
       exact uh HFN w3 f6
      ·have hql':((q:Int)<lam)=False:=by simp;omega
       have HF6:=Hd f06
       clear f6 f46 f06
       go_wp2_with fail
       exact⟨⟨left+1,by simp,.inr ⟨by omega,by omega,by omega⟩,uh HF6⟩,by simp[intOf];omega⟩
    ·have hlam:lam<=q:=by omega
     have K:=Hd (uh HRP hlam hq0 wq ((uh HFW).trans' fr nE))
     have HFR:=Hd fr
     clear fr
     rcases (show i<left\/(left<=i/\nk<=left+1) by omega) with hB | hB
     ·have hA1:((left:Int)<=i)=False:=by simp;omega
      go_wp2_with fail
      refine(uh K).mono ?_
      clear K d0 d1 d2
      intro e w2 L
      obtain⟨va,nb',vc,ua,nk',uc,rfl,o5,FN⟩:=uh FIN _ w2 e (uh HFR) L
      clear L
      have r0:w2.cell? ⟨g+1,0,none⟩=some (.int .i64 0):=cOo o5 0
      have r1:w2.cell? ⟨g+1,1,none⟩=some (.slice none 0 0):=cOo o5 1
      have r2:w2.cell? ⟨g+1,2,none⟩=some (.slice none 0 0):=cOo o5 2
      have rz:∀o,w2.frozen? ⟨g+1,o,none⟩=false:=fun o=>by simp[World.frozen?,o5]
      have HFN:=@Hd _ FN;have HO5:=Hd o5
      clear FN o5 HBO HRP HWO HIT HLE HSZ HCE FIN
      go_wp2_with fail
      have o5:=uh HO5
      have oF:=heap_setCell_same _ (g+1) 2 _ _ (.slice ua nk' uc) (heap_setCell_same _ (g+1) 1 _ _ (.slice va nb' vc) (heap_setCell_same w2 (g+1) 0 _ _ (.int .i64 (hh:Nat)) o5))
      obtain⟨w3,hw3⟩:∃w3,((w2.setCell ⟨g+1,0,none⟩ (.int .i64 (hh:Nat))).setCell ⟨g+1,1,none⟩ (.slice va nb' vc)).setCell ⟨g+1,2,none⟩ (.slice ua nk' uc)=w3:=⟨_,rfl⟩
      have f6:Fr (fun k=>k=g+1) w2 w3:=hw3▸(((Fr.refl (fun k=>k=g+1) w2).setCell (.inl rfl) _).setCell (.inl rfl) _).setCell (.inl rfl) _
      rw[hw3] at oF
      refine bodyPost_ret (results_cell_row Tryz.results102 _ _ (g+1) 96 #[.int .i64 hh,.slice va nb' vc,.slice ua nk' uc] (0,0) _ (by rfl) (by rw[hw3];exact oF) Tryz.underlying96 rfl (by kernel_rfl)) rfl ?_
      rw[hw3]
      exact uh HFN w3 f6
     ·have hA1:((left:Int)<=i)=True:=by simp;omega
      have hA2:((left:Int)+1<nk)=False:=by simp;omega
      go_wp2_with fail
      refine(uh K).mono ?_
      clear K d0 d1 d2
      intro e w2 L
      obtain⟨va,nb',vc,ua,nk',uc,rfl,o5,FN⟩:=uh FIN _ w2 e (uh HFR) L
      clear L
      have r0:w2.cell? ⟨g+1,0,none⟩=some (.int .i64 0):=cOo o5 0
      have r1:w2.cell? ⟨g+1,1,none⟩=some (.slice none 0 0):=cOo o5 1
      have r2:w2.cell? ⟨g+1,2,none⟩=some (.slice none 0 0):=cOo o5 2
      have rz:∀o,w2.frozen? ⟨g+1,o,none⟩=false:=fun o=>by simp[World.frozen?,o5]
      have HFN:=@Hd _ FN;have HO5:=Hd o5
      clear FN o5 HBO HRP HWO HIT HLE HSZ HCE FIN
      go_wp2_with fail
      have o5:=uh HO5
      have oF:=heap_setCell_same _ (g+1) 2 _ _ (.slice ua nk' uc) (heap_setCell_same _ (g+1) 1 _ _ (.slice va nb' vc) (heap_setCell_same w2 (g+1) 0 _ _ (.int .i64 (hh:Nat)) o5))
      obtain⟨w3,hw3⟩:∃w3,((w2.setCell ⟨g+1,0,none⟩ (.int .i64 (hh:Nat))).setCell ⟨g+1,1,none⟩ (.slice va nb' vc)).setCell ⟨g+1,2,none⟩ (.slice ua nk' uc)=w3:=⟨_,rfl⟩
      have f6:Fr (fun k=>k=g+1) w2 w3:=hw3▸(((Fr.refl (fun k=>k=g+1) w2).setCell (.inl rfl) _).setCell (.inl rfl) _).setCell (.inl rfl) _
      rw[hw3] at oF
      refine bodyPost_ret (results_cell_row Tryz.results102 _ _ (g+1) 96 #[.int .i64 hh,.slice va nb' vc,.slice ua nk' uc] (0,0) _ (by rfl) (by rw[hw3];exact oF) Tryz.underlying96 rfl (by kernel_rfl)) rfl ?_
      rw[hw3]
      exact uh HFN w3 f6
set_option maxRecDepth 100000 in
theorem y_lessB (c:Cg nu sz w0 hb sb b T0 A cb w T P tv m) (hh:Nat) (ba:Option Addr) (nb bc:Nat) (ka:Option Addr) (nk kc i:Nat) (lv:Value) (q lam sn:Nat) (ln:List Pr) (hi:i<nk) (hnk:2<=nk) (hn5:nk<=500) (_hq5:q<=500) (hs5:sn<=500)
  (IT:∀w1,St w w1->Calls Tryz.prog 227 #[lv] w1 fun e w'=>∃ia ic,e = .returned (.slice ia q ic)/\St w1 w')
  (LE:∀w1,Calls Tryz.prog 229 #[lv] w1 fun e w'=>e = .returned (.int .i64 (lam:Nat))/\St w1 w')
  (SZ:∀w1,St w w1->Calls Tryz.prog 137 #[.iface 96 lv] w1 fun e w'=>e = .returned (.int .i64 (sn:Nat))/\St w1 w')
  (WO:q=0->∀w1,St w w1->Calls Tryz.prog 149 #[brV hh ba nb bc ka nk kc,.int .i64 i] w1 fun e w'=>Lss nu sz w0 hb sb b T0 A cb w1 T P tv m h hh ln w' e)
  (RP:lam<=q->q≠0->∀w1,St w w1->Calls Tryz.prog 93 #[ptr cb,brV hh ba nb bc ka nk kc,.int .i64 i,.int .i64 ((i:Int)+1),.iface 96 lv] w1 fun e w'=>Lss nu sz w0 hb sb b T0 A cb w1 T P tv m h hh ln w' e)
  (s16:16<sn->lam<=q)
  (BO:∀left,(left=i\/left+1=i)->left+1<nk->q≠0->∀w1,St w w1->Calls Tryz.prog 150 #[ptr cb,brV hh ba nb bc ka nk kc,.int .i64 (left:Nat),.int .i64 i,.iface 96 lv] w1 fun e w'=>∃nj sj,e = .returned nj/\St w1 w'/\sj<=5000/\(∀w2,St w' w2->Calls Tryz.prog 137 #[nj] w2 fun e w3=>e = .returned (.int .i64 (sj:Nat))/\St w2 w3)/\((sj<=32\/q<lam)->∀w2,St w' w2->Calls Tryz.prog 93 #[ptr cb,brV hh ba nb bc ka nk kc,.int .i64 (left:Nat),.int .i64 ((left:Int)+2),nj] w2 fun e w3=>Lss nu sz w0 hb sb b T0 A cb w2 T P tv m h hh ln w3 e)) :
  Calls Tryz.prog 102 #[ptr cb,brV hh ba nb bc ka nk kc,.int .i64 i,.iface 96 lv] w fun e w'=>Lss nu sz w0 hb sb b T0 A cb w T P tv m h hh ln w' e:=by
 have h0:=c.on.fr.size
 obtain⟨g,hg⟩:∃g,w.heap.size=g:=⟨_,rfl⟩
 obtain⟨W,hW⟩:∃W,(w.alloc (.cells #[.int .i64 hh,.slice ba nb bc,.slice ka nk kc] 96)).alloc (.cells #[.int .i64 0,.slice none 0 0,.slice none 0 0] 96)=W:=⟨_,rfl⟩
 have fW:St w W:=hW▸((Fr.refl _ w).alloc _).alloc _
 have zW:W.heap.size=g+2:=by rw[<-hW];simp[hg]
 have oA:W.heap[g]? = some (.cells #[.int .i64 hh,.slice ba nb bc,.slice ka nk kc] 96 (0,0)):=by
  have:=heap_alloc_new w (.cells #[.int .i64 hh,.slice ba nb bc,.slice ka nk kc] 96)
  rw[hg] at this
  rw[<-hW]
  exact((Fr.refl (fun _=>False) _).alloc _).obj this id
 have oR:W.heap[g+1]? = some (.cells #[.int .i64 0,.slice none 0 0,.slice none 0 0] 96 (0,0)):=by
  have:=heap_alloc_new (w.alloc (.cells #[.int .i64 hh,.slice ba nb bc,.slice ka nk kc] 96)) (.cells #[.int .i64 0,.slice none 0 0,.slice none 0 0] 96)
  rw[hW] at this
  simpa [hg] using this
 have ofR:Off sb b T cb tv W (g+1):=c.fresh (by omega) (by omega)
 have wi1:IntKind.i64.wrap ((i:Int)+1)=(i:Int)+1:=(wrap_small _ (by omega) (by omega)).1
 have FIN:=@Hd _ (fun(w1 w2:World) (e:Ending) (f1:St W w1) (L:Lss nu sz w0 hb sb b T0 A cb w1 T P tv m h hh ln w2 e)=>L.done (g1:=g+1) (ofR.still f1).2 (f1.obj oR id) (fW.trans' f1 nE) (by omega) (by omega))
 have HIT:=@Hd _ IT;have HLE:=@Hd _ LE;have HSZ:=@Hd _ SZ;have HWO:=@Hd _ WO;have HRP:=@Hd _ RP;have HBO:=@Hd _ BO;have HS16:=@Hd _ s16;have HW:=Hd hW;have HFW:=Hd fW
 have HCE:=@Hd _ (fun(w1:World) (f1:St W w1)=>show w1.cell? ⟨g,0,none⟩=some (.int .i64 hh)/\w1.cell? ⟨g,1,none⟩=some (.slice ba nb bc)/\w1.cell? ⟨g,2,none⟩=some (.slice ka nk kc) from⟨cOo (f1.obj oA id) 0,cOo (f1.obj oA id) 1,cOo (f1.obj oA id) 2⟩)
 clear IT LE SZ WO RP BO s16 hW fW zW oA oR ofR c h0
 go_enter Tryz.func102,Tryz.ntmps102
 go_wp2_with fail
 rw[uh HW]
 refine(uh HIT W (uh HFW)).mono ?_
 rintro e w1 ⟨ia,ic,rfl,f1⟩
 by_cases hq0:q=0
 ·have hqe:((q:Int) == 0)=true:=by simp;omega
  have K:=Hd (uh HWO hq0 w1 ((uh HFW).trans' f1 nE))
  obtain⟨d0,d1,d2⟩:=uh HCE w1 f1
  have HF1:=Hd f1
  clear f1
  go_wp2_with fail
  refine(uh K).mono ?_
  clear K d0 d1 d2
  intro e w2 L
  obtain⟨va,nb',vc,ua,nk',uc,rfl,o5,FN⟩:=uh FIN _ w2 e (uh HF1) L
  clear L
  have r0:w2.cell? ⟨g+1,0,none⟩=some (.int .i64 0):=cOo o5 0
  have r1:w2.cell? ⟨g+1,1,none⟩=some (.slice none 0 0):=cOo o5 1
  have r2:w2.cell? ⟨g+1,2,none⟩=some (.slice none 0 0):=cOo o5 2
  have rz:∀o,w2.frozen? ⟨g+1,o,none⟩=false:=fun o=>by simp[World.frozen?,o5]
  have HFN:=@Hd _ FN;have HO5:=Hd o5
  clear FN o5 HBO HRP HWO HIT HLE HSZ HCE FIN
  go_wp2_with fail
  have o5:=uh HO5
  have oF:=heap_setCell_same _ (g+1) 2 _ _ (.slice ua nk' uc) (heap_setCell_same _ (g+1) 1 _ _ (.slice va nb' vc) (heap_setCell_same w2 (g+1) 0 _ _ (.int .i64 (hh:Nat)) o5))
  obtain⟨w3,hw3⟩:∃w3,((w2.setCell ⟨g+1,0,none⟩ (.int .i64 (hh:Nat))).setCell ⟨g+1,1,none⟩ (.slice va nb' vc)).setCell ⟨g+1,2,none⟩ (.slice ua nk' uc)=w3:=⟨_,rfl⟩
  have f6:Fr (fun k=>k=g+1) w2 w3:=hw3▸(((Fr.refl (fun k=>k=g+1) w2).setCell (.inl rfl) _).setCell (.inl rfl) _).setCell (.inl rfl) _
  rw[hw3] at oF
  refine bodyPost_ret (results_cell_row Tryz.results102 _ _ (g+1) 96 #[.int .i64 hh,.slice va nb' vc,.slice ua nk' uc] (0,0) _ (by rfl) (by rw[hw3];exact oF) Tryz.underlying96 rfl (by kernel_rfl)) rfl ?_
  rw[hw3]
  exact uh HFN w3 f6
 ·have hqe:((q:Int) == 0)=false:=by simp;omega
  have K:=Hd (uh HSZ w1 ((uh HFW).trans' f1 nE))
  have HF1:=Hd f1
  clear f1
  go_wp2_with fail
  refine(uh K).mono ?_
  clear K
  rintro e w2 ⟨rfl,f2⟩
  have f02:St W w2:=(uh HF1).trans' f2 nE
  have HF2:=Hd f02
  clear f2 f02
  by_cases h16:16<sn
  ·have h16':((16:Int)<sn)=True:=by simp;omega
   have K:=Hd (uh HRP (uh HS16 h16) hq0 w2 ((uh HFW).trans' (uh HF2) nE))
   obtain⟨d0,d1,d2⟩:=uh HCE w2 (uh HF2)
   go_wp2_with fail
   refine(uh K).mono ?_
   clear K d0 d1 d2
   intro e w2 L
   obtain⟨va,nb',vc,ua,nk',uc,rfl,o5,FN⟩:=uh FIN _ w2 e (uh HF2) L
   clear L
   have r0:w2.cell? ⟨g+1,0,none⟩=some (.int .i64 0):=cOo o5 0
   have r1:w2.cell? ⟨g+1,1,none⟩=some (.slice none 0 0):=cOo o5 1
   have r2:w2.cell? ⟨g+1,2,none⟩=some (.slice none 0 0):=cOo o5 2
   have rz:∀o,w2.frozen? ⟨g+1,o,none⟩=false:=fun o=>by simp[World.frozen?,o5]
   have HFN:=@Hd _ FN;have HO5:=Hd o5
   clear FN o5 HBO HRP HWO HIT HLE HSZ HCE FIN
   go_wp2_with fail
   have o5:=uh HO5
   have oF:=heap_setCell_same _ (g+1) 2 _ _ (.slice ua nk' uc) (heap_setCell_same _ (g+1) 1 _ _ (.slice va nb' vc) (heap_setCell_same w2 (g+1) 0 _ _ (.int .i64 (hh:Nat)) o5))
   obtain⟨w3,hw3⟩:∃w3,((w2.setCell ⟨g+1,0,none⟩ (.int .i64 (hh:Nat))).setCell ⟨g+1,1,none⟩ (.slice va nb' vc)).setCell ⟨g+1,2,none⟩ (.slice ua nk' uc)=w3:=⟨_,rfl⟩
   have f6:Fr (fun k=>k=g+1) w2 w3:=hw3▸(((Fr.refl (fun k=>k=g+1) w2).setCell (.inl rfl) _).setCell (.inl rfl) _).setCell (.inl rfl) _
   rw[hw3] at oF
   refine bodyPost_ret (results_cell_row Tryz.results102 _ _ (g+1) 96 #[.int .i64 hh,.slice va nb' vc,.slice ua nk' uc] (0,0) _ (by rfl) (by rw[hw3];exact oF) Tryz.underlying96 rfl (by kernel_rfl)) rfl ?_
   rw[hw3]
   exact uh HFN w3 f6
  ·have h16':((16:Int)<sn)=False:=by simp;omega
   go_wp2_with fail
   go_loopw [9] (fun l9 wr=>∃left:Nat,l9 = .int .i64 left/\(left=i - 1\/(i - 1<=left/\left<=i+1/\lam<=q))/\St W wr) (fun l9 _=>i+2 - (intOf l9).toNat)
   case atStart=>exact⟨i - 1,by rw[show max ((i:Int) - 1) 0=((i - 1:Nat):Int) by omega],.inl rfl,uh HF2⟩
   case round=>
    obtain⟨left,rfl,hleft,fr⟩:=hrel
    generalize wr=wq at *
    clear wr
    have wl1:IntKind.i64.wrap ((left:Int)+1)=(left:Int)+1:=(wrap_small _ (by omega) (by omega)).1
    have wl2:IntKind.i64.wrap ((left:Int)+2)=(left:Int)+2:=(wrap_small _ (by omega) (by omega)).1
    obtain⟨d0,d1,d2⟩:=uh HCE wq fr
    by_cases hA:left<=i/\left+1<nk
    ·have hA1:((left:Int)<=i)=True:=by simp;omega
     have hA2:((left:Int)+1<nk)=True:=by simp;omega
     have K:=Hd (uh HBO left (by omega) hA.2 hq0 wq ((uh HFW).trans' fr nE))
     have HFR:=Hd fr
     clear fr
     go_wp2_with fail
     refine(uh K).mono ?_
     clear K d0 d1 d2
     rintro e w3 ⟨nj,sj,rfl,f3,hs3,SJ,RJ⟩
     have f03:St W w3:=(uh HFR).trans' f3 nE
     have K:=Hd (SJ w3 (Fr.refl _ _))
     have HF3:=Hd f03;have HRJ:=@Hd _ RJ
     clear SJ RJ f3 f03
     go_wp2_with fail
     refine(uh K).mono ?_
     clear K
     rintro e w4 ⟨rfl,f4⟩
     have f04:St W w4:=(uh HF3).trans' f4 nE
     by_cases h32:sj<=32
     ·have h32':((sj:Int)<=32)=True:=by simp;omega
      have K:=Hd (uh HRJ (.inl h32) w4 f4)
      obtain⟨d0,d1,d2⟩:=uh HCE w4 f04
      have HF4:=Hd f04
      clear f4 f04
      go_wp2_with fail
      refine(uh K).mono ?_
      clear K d0 d1 d2
      intro e w2 L
      obtain⟨va,nb',vc,ua,nk',uc,rfl,o5,FN⟩:=uh FIN _ w2 e (uh HF4) L
      clear L
      have r0:w2.cell? ⟨g+1,0,none⟩=some (.int .i64 0):=cOo o5 0
      have r1:w2.cell? ⟨g+1,1,none⟩=some (.slice none 0 0):=cOo o5 1
      have r2:w2.cell? ⟨g+1,2,none⟩=some (.slice none 0 0):=cOo o5 2
      have rz:∀o,w2.frozen? ⟨g+1,o,none⟩=false:=fun o=>by simp[World.frozen?,o5]
      have HFN:=@Hd _ FN;have HO5:=Hd o5
      clear FN o5 HBO HRP HWO HIT HLE HSZ HCE FIN
      go_wp2_with fail
      have o5:=uh HO5
      have oF:=heap_setCell_same _ (g+1) 2 _ _ (.slice ua nk' uc) (heap_setCell_same _ (g+1) 1 _ _ (.slice va nb' vc) (heap_setCell_same w2 (g+1) 0 _ _ (.int .i64 (hh:Nat)) o5))
      obtain⟨w3,hw3⟩:∃w3,((w2.setCell ⟨g+1,0,none⟩ (.int .i64 (hh:Nat))).setCell ⟨g+1,1,none⟩ (.slice va nb' vc)).setCell ⟨g+1,2,none⟩ (.slice ua nk' uc)=w3:=⟨_,rfl⟩
      have f6:Fr (fun k=>k=g+1) w2 w3:=hw3▸(((Fr.refl (fun k=>k=g+1) w2).setCell (.inl rfl) _).setCell (.inl rfl) _).setCell (.inl rfl) _
      rw[hw3] at oF
      refine bodyPost_ret (results_cell_row Tryz.results102 _ _ (g+1) 96 #[.int .i64 hh,.slice va nb' vc,.slice ua nk' uc] (0,0) _ (by rfl) (by rw[hw3];exact oF) Tryz.underlying96 rfl (by kernel_rfl)) rfl ?_
      rw[hw3]
      exact uh HFN w3 f6
     ·have h32':((sj:Int)<=32)=False:=by simp;omega
      have K:=Hd (uh HIT w4 ((uh HFW).trans' f04 nE))
      have HF4:=Hd (ai f4 f04)
      clear f4 f04
      go_wp2_with fail
      refine(uh K).mono ?_
      clear K
      rintro e w5 ⟨ja,jc,rfl,f5⟩
      have K:=Hd (uh HLE w5)
      have HF5:=Hd f5
      clear f5
      go_wp2_with fail
      refine(uh K).mono ?_
      clear K
      rintro e w6 ⟨rfl,f6⟩
      have f46:St w4 w6:=(uh HF5).trans' f6 nE
      have f06:St W w6:=(uh HF4).2.trans' f46 nE
      by_cases hql:q<lam
      ·have hql':((q:Int)<lam)=True:=by simp;omega
       have K:=Hd (uh HRJ (.inr hql) w6 ((uh HF4).1.trans' f46 nE))
       obtain⟨d0,d1,d2⟩:=uh HCE w6 f06
       have HF6:=Hd f06
       clear f6 f46 f06
       go_wp2_with fail
       refine(uh K).mono ?_
       clear K d0 d1 d2
       intro e w2 L
       obtain⟨va,nb',vc,ua,nk',uc,rfl,o5,FN⟩:=uh FIN _ w2 e (uh HF6) L
       clear L
       have r0:w2.cell? ⟨g+1,0,none⟩=some (.int .i64 0):=cOo o5 0
       have r1:w2.cell? ⟨g+1,1,none⟩=some (.slice none 0 0):=cOo o5 1
       have r2:w2.cell? ⟨g+1,2,none⟩=some (.slice none 0 0):=cOo o5 2
       have rz:∀o,w2.frozen? ⟨g+1,o,none⟩=false:=fun o=>by simp[World.frozen?,o5]
       have HFN:=@Hd _ FN;have HO5:=Hd o5
       clear FN o5 HBO HRP HWO HIT HLE HSZ HCE FIN
       go_wp2_with fail
       have o5:=uh HO5
       have oF:=heap_setCell_same _ (g+1) 2 _ _ (.slice ua nk' uc) (heap_setCell_same _ (g+1) 1 _ _ (.slice va nb' vc) (heap_setCell_same w2 (g+1) 0 _ _ (.int .i64 (hh:Nat)) o5))
       obtain⟨w3,hw3⟩:∃w3,((w2.setCell ⟨g+1,0,none⟩ (.int .i64 (hh:Nat))).setCell ⟨g+1,1,none⟩ (.slice va nb' vc)).setCell ⟨g+1,2,none⟩ (.slice ua nk' uc)=w3:=⟨_,rfl⟩
       have f6:Fr (fun k=>k=g+1) w2 w3:=hw3▸(((Fr.refl (fun k=>k=g+1) w2).setCell (.inl rfl) _).setCell (.inl rfl) _).setCell (.inl rfl) _
       rw[hw3] at oF
       refine bodyPost_ret (results_cell_row Tryz.results102 _ _ (g+1) 96 #[.int .i64 hh,.slice va nb' vc,.slice ua nk' uc] (0,0) _ (by rfl) (by rw[hw3];exact oF) Tryz.underlying96 rfl (by kernel_rfl)) rfl ?_
       rw[hw3]
       exact uh HFN w3 f6
      ·have hql':((q:Int)<lam)=False:=by simp;omega
       have HF6:=Hd f06
       clear f6 f46 f06
       go_wp2_with fail
       exact⟨⟨left+1,by simp,.inr ⟨by omega,by omega,by omega⟩,uh HF6⟩,by simp[intOf];omega⟩
    ·have hlam:lam<=q:=by omega
     have K:=Hd (uh HRP hlam hq0 wq ((uh HFW).trans' fr nE))
     have HFR:=Hd fr
     clear fr
     rcases (show i<left\/(left<=i/\nk<=left+1) by omega) with hB | hB
     ·have hA1:((left:Int)<=i)=False:=by simp;omega
      go_wp2_with fail
      refine(uh K).mono ?_
      clear K d0 d1 d2
      intro e w2 L
      obtain⟨va,nb',vc,ua,nk',uc,rfl,o5,FN⟩:=uh FIN _ w2 e (uh HFR) L
      clear L
      have r0:w2.cell? ⟨g+1,0,none⟩=some (.int .i64 0):=cOo o5 0
      have r1:w2.cell? ⟨g+1,1,none⟩=some (.slice none 0 0):=cOo o5 1
      have r2:w2.cell? ⟨g+1,2,none⟩=some (.slice none 0 0):=cOo o5 2
      have rz:∀o,w2.frozen? ⟨g+1,o,none⟩=false:=fun o=>by simp[World.frozen?,o5]
      have HFN:=@Hd _ FN;have HO5:=Hd o5
      clear FN o5 HBO HRP HWO HIT HLE HSZ HCE FIN
      go_wp2_with fail
      have o5:=uh HO5
      have oF:=heap_setCell_same _ (g+1) 2 _ _ (.slice ua nk' uc) (heap_setCell_same _ (g+1) 1 _ _ (.slice va nb' vc) (heap_setCell_same w2 (g+1) 0 _ _ (.int .i64 (hh:Nat)) o5))
      obtain⟨w3,hw3⟩:∃w3,((w2.setCell ⟨g+1,0,none⟩ (.int .i64 (hh:Nat))).setCell ⟨g+1,1,none⟩ (.slice va nb' vc)).setCell ⟨g+1,2,none⟩ (.slice ua nk' uc)=w3:=⟨_,rfl⟩
      have f6:Fr (fun k=>k=g+1) w2 w3:=hw3▸(((Fr.refl (fun k=>k=g+1) w2).setCell (.inl rfl) _).setCell (.inl rfl) _).setCell (.inl rfl) _
      rw[hw3] at oF
      refine bodyPost_ret (results_cell_row Tryz.results102 _ _ (g+1) 96 #[.int .i64 hh,.slice va nb' vc,.slice ua nk' uc] (0,0) _ (by rfl) (by rw[hw3];exact oF) Tryz.underlying96 rfl (by kernel_rfl)) rfl ?_
      rw[hw3]
      exact uh HFN w3 f6
     ·have hA1:((left:Int)<=i)=True:=by simp;omega
      have hA2:((left:Int)+1<nk)=False:=by simp;omega
      go_wp2_with fail
      refine(uh K).mono ?_
      clear K d0 d1 d2
      intro e w2 L
      obtain⟨va,nb',vc,ua,nk',uc,rfl,o5,FN⟩:=uh FIN _ w2 e (uh HFR) L
      clear L
      have r0:w2.cell? ⟨g+1,0,none⟩=some (.int .i64 0):=cOo o5 0
      have r1:w2.cell? ⟨g+1,1,none⟩=some (.slice none 0 0):=cOo o5 1
      have r2:w2.cell? ⟨g+1,2,none⟩=some (.slice none 0 0):=cOo o5 2
      have rz:∀o,w2.frozen? ⟨g+1,o,none⟩=false:=fun o=>by simp[World.frozen?,o5]
      have HFN:=@Hd _ FN;have HO5:=Hd o5
      clear FN o5 HBO HRP HWO HIT HLE HSZ HCE FIN
      go_wp2_with fail
      have o5:=uh HO5
      have oF:=heap_setCell_same _ (g+1) 2 _ _ (.slice ua nk' uc) (heap_setCell_same _ (g+1) 1 _ _ (.slice va nb' vc) (heap_setCell_same w2 (g+1) 0 _ _ (.int .i64 (hh:Nat)) o5))
      obtain⟨w3,hw3⟩:∃w3,((w2.setCell ⟨g+1,0,none⟩ (.int .i64 (hh:Nat))).setCell ⟨g+1,1,none⟩ (.slice va nb' vc)).setCell ⟨g+1,2,none⟩ (.slice ua nk' uc)=w3:=⟨_,rfl⟩
      have f6:Fr (fun k=>k=g+1) w2 w3:=hw3▸(((Fr.refl (fun k=>k=g+1) w2).setCell (.inl rfl) _).setCell (.inl rfl) _).setCell (.inl rfl) _
      rw[hw3] at oF
      refine bodyPost_ret (results_cell_row Tryz.results102 _ _ (g+1) 96 #[.int .i64 hh,.slice va nb' vc,.slice ua nk' uc] (0,0) _ (by rfl) (by rw[hw3];exact oF) Tryz.underlying96 rfl (by kernel_rfl)) rfl ?_
      rw[hw3]
      exact uh HFN w3 f6
end
end
end Go.Proofs.YtbiopjmpdhcjgaaGreatDoor
