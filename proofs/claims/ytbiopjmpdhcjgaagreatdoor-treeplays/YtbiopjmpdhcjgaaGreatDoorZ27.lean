/- Joined: Vd Ve. -/
import Derived.Test.YtbiopjmpdhcjgaaGreatDoorZ26
namespace Go.Proofs.YtbiopjmpdhcjgaaGreatDoor
open Go.RowKit
set_option maxHeartbeats 4000000

section
def wkP (x:ByteArray) (M:List (List Pr)) (i0 i:Nat):List Pr:=(((M.drop i0).take (i - i0)).map (geP x)).flatten
theorem wkP_zero (x:ByteArray) (M:List (List Pr)) (i0:Nat):wkP x M i0 i0 = []:=by simp[wkP]
theorem wkP_succ {x:ByteArray} {M:List (List Pr)} {i0 i:Nat} {m:List Pr} (h0:i0<=i) (hm:M[i]? = some m):wkP x M i0 (i+1)=wkP x M i0 i ++ geP x m:=by
 unfold wkP
 rw[show i+1 - i0=(i - i0)+1 by omega,List.take_add_one,List.getElem?_drop,show i0+(i - i0)=i by omega,hm]
 simp
theorem wkP_all {x:ByteArray} {M:List (List Pr)} {i0:Nat} (_h0:i0<=M.length):wkP x M i0 M.length=((M.drop i0).map (geP x)).flatten:=by
 unfold wkP
 rw[List.take_of_length_le (by rw[List.length_drop];exact Nat.le_refl _)]
theorem wkP_pre {x:ByteArray} {M:List (List Pr)} {i0 i:Nat} (_h1:i<=M.length):∃r,wkP x M i0 M.length=wkP x M i0 i ++ r:=by
 unfold wkP
 refine⟨(((M.drop i0).drop (i - i0)).map (geP x)).flatten,?_⟩
 rw[List.take_of_length_le (i:=M.length - i0) (by rw[List.length_drop];exact Nat.le_refl _),<-List.flatten_append,<-List.map_append,List.take_append_drop]
theorem parts_lt {M:List (List Pr)} {i:Nat} {m:List Pr} (ri:Rise M.flatten) (hm:M[i]? = some m) {p q:Pr} (hp:p∈m) (hq:q∈(M.drop (i+1)).flatten):ltK p.1 q.1:=by
 obtain⟨h1,h2⟩:=List.getElem?_eq_some_iff.1 hm
 have e:M.flatten=(M.take i).flatten ++ (m ++ (M.drop (i+1)).flatten):=by
  conv=>lhs;rw[<-List.take_append_drop i M,List.flatten_append,List.drop_eq_getElem_cons h1,h2,List.flatten_cons]
 unfold Rise at ri
 rw[e] at ri
 exact(List.pairwise_append.1 (List.pairwise_append.1 ri).2.1).2.2 p hp q hq
section
variable {nu sz:Nat} {hb sb b:Nat} {T:Tay} {A:Ab} {P:List (Int×Int)}
def Wks (hb sb b:Nat) (T:Tay) (bLo bT bS bL bY:Nat) (k:Nat):Prop:=tfoot sb b T k\/k=hb\/k=0\/k=bLo\/k=bT\/k=bS\/k=bL\/k=bY
theorem Wks_lt {x:ByteArray} {W:World} {bLo bT bS bL bY l:Nat} {z:ByteArray} {k:Nat} (hp:Hp nu sz W hb sb b T A P) (wv:Wv W x bLo bT bS bL bY l sb) (hla:W.heap[bL]? = some (.cells #[.string z] 9 (0,0))) (h:Wks hb sb b T bLo bT bS bL bY k):k<W.heap.size:=by
 rcases h with h | h | h | h | h | h | h | h
 ·exact hp.st.lt _ h
 ·exact h▸hp.lth
 ·exact h▸hp.lt0
 ·exact h▸World.block_lt_of_cell? _ _ wv.lo
 ·exact h▸World.block_lt_of_cell? _ _ wv.t
 ·exact h▸World.block_lt_of_cell? _ _ wv.s
 ·exact h▸(Array.getElem?_eq_some_iff.1 hla).1
 ·exact h▸World.block_lt_of_cell? _ _ wv.y
set_option maxRecDepth 100000 in
theorem w_through {x:ByteArray} {bLo bT bS bL bY l:Nat} {L:List Pr} {J':Nat->(Nat->Prop)->World->Prop} {Jx:World->Prop} {Jp:List PanicEntry->World->Prop} (wk:Wkj L l J' Jx Jp)
  (hnn:bL≠bLo/\bL≠bT/\bL≠bS/\bL≠bY/\¬tfoot sb b T bL/\bL≠hb/\bL≠0) :
  ∀(h:Nat) (W:World) (G F:Nat->Prop) (k0:Nat) (z:ByteArray) (v:Value) (n:Nd) (m:List Pr) (Q:List Nat),Hp nu sz W hb sb b T A P->Wv W x bLo bT bS bL bY l sb->NdO F W v n->(∀k,F k->k<W.heap.size/\k≠bL)->
   Un nu (Tr nu sz (says P A) h) (h+1) n m Q->n.size<=32->Rise m->(∀p∈m,ltK z p.1)->J' k0 G W->W.heap[bL]? = some (.cells #[.string z] 9 (0,0))->(∀k,G k->k<W.heap.size/\¬Wks hb sb b T bLo bT bS bL bY k/\¬F k)->(∀i p,(geP x m)[i]? = some p->L[k0+i]? = some p)->
   Calls Tryz.prog 64 #[v,ptr bLo,ptr bT,ptr bS,ptr bL,ptr bY] W fun e W'=>WkE J' Jx Jp (k0+(geP x m).length) G bL W m e W':=by
 have leaf:∀(W:World) (G F:Nat->Prop) (k0:Nat) (z:ByteArray) (v:Value) (m:List Pr),Wv W x bLo bT bS bL bY l sb->NdO F W v (.lf m)->(∀k,F k->k<W.heap.size/\k≠bL)->m ≠ []->(Nd.lf m).size<=32->Rise m->(∀p∈m,ltK z p.1)->J' k0 G W->W.heap[bL]? = some (.cells #[.string z] 9 (0,0))->(∀k,G k->k<W.heap.size/\¬Wks hb sb b T bLo bT bS bL bY k/\¬F k)->(∀i p,(geP x m)[i]? = some p->L[k0+i]? = some p)->
   Calls Tryz.prog 64 #[v,ptr bLo,ptr bT,ptr bS,ptr bL,ptr bY] W fun e W'=>WkE J' Jx Jp (k0+(geP x m).length) G bL W m e W':=by
  intro W G F k0 z v m wv nd hF hm hs ri hz hj hla hG hix
  obtain⟨a,c,rfl,hL,hf⟩:=nd
  have h32:m.length<=32:=by rw[lf_size] at hs;unfold hsz need at hs;omega
  refine w_leaf wk W G k0 z m a c wv hL hm h32 ri hz hj hla (fun k hk=>?_) ⟨hnn.1,hnn.2.1,hnn.2.2.1,hnn.2.2.2.1,fun y hy=>(hF _ (hf y hy)).2.symm⟩ hix
  obtain⟨g1,g2,g3⟩:=hG k hk
  unfold Wks at g2
  exact⟨g1,fun e=>g2 (by simp[e]),fun e=>g2 (by simp[e]),fun e=>g2 (by simp[e]),fun e=>g2 (by simp[e]),fun e=>g2 (by simp[e]),fun y hy e=>g3 (e▸hf y hy)⟩
 intro h
 induction h with
 | zero=>
  intro W G F k0 z v n m Q hp wv nd hF un hs ri hz hj hla hG hix
  rcases un with ⟨_,rfl,hm,_⟩ | ⟨h2,_⟩
  ·exact leaf W G F k0 z v m wv nd hF hm hs ri hz hj hla hG hix
  ·omega
 | succ h ih=>
  intro W G F k0 z v n m Q hp wv nd hF un hs ri hz hj hla hG hix
  rcases un with ⟨h1,_⟩ | ⟨h2,B,ks,rfl,fo⟩
  ·omega
  obtain⟨ba,bc,ka,kc,rfl,hB,hK,hfb,hfk⟩:=nd
  have hmk:(ks.map (kidN nu)).length=ks.length:=List.length_map _
  have hlen:ks.length=B.length+1:=by have:=fo.2.2.2.1.len;simpa using this
  have hks:ks.length<=32:=by rw[br_size,hmk] at hs;unfold hsz need at hs;omega
  obtain⟨k,fk⟩:=fst_of x B fo.2.2.2.1.rise
  have way:=way_of fo.2.2.2.1.rise fk
  obtain⟨i0,hi0⟩:∃i,(if k<B.length/\B.getD k default=x then k+1 else k)=i:=⟨_,rfl⟩
  rw[hi0] at way
  have hil:i0<ks.length:=by have:=way.le;omega
  have TW:∀w1,St W w1->Calls Tryz.prog 54 #[brV (h+1+1) ba B.length bc ka (ks.map (kidN nu)).length kc,.string x] w1 fun e w'=>e = .returned (.int .i64 (i0:Nat))/\St w1 w':=fun w1 f1=>by
   have:=b_towards (h+1+1) ba bc B ka (ks.map (kidN nu)).length kc x k w1 (hB.still f1) fk (by omega)
   rw[hi0] at this
   exact this
  have KD:∀(w1:World) (i:Nat) (kk:Nat×List Pr×List Nat),Fr (fun k=>G k\/k=bL\/W.heap.size<k) W w1->ks[i]? = some kk->∀n1,Std nu sz (says P A) kk.1 n1->h+1=n1.high->Hp nu sz w1 hb sb b T A P->Calls Tryz.prog 53 #[brV (h+1+1) ba B.length bc ka (ks.map (kidN nu)).length kc,ptr sb,.int .i64 i] w1 fun e w'=>∃v,e = .returned v/\NdO (fun k=>w1.heap.size<=k/\k<w'.heap.size) w' v n1/\St w1 w':=fun w1 i kk f1 hkk n1 st1 hh hp1=>by
   refine b_kid hp1 (h+1+1) ba B.length bc ka kc (ks.map (kidN nu)) i kk.1 n1 ?_ (by omega) kk.2.1.length (by rw[List.getElem?_map,hkk];rfl) st1 (by omega)
   refine hK.same fun y hy=>?_
   have hy2:=hF _ (hfk y hy)
   refine f1.block _ hy2.1 fun e=>?_
   rcases e with e | e | e
   ·exact(hG _ e).2.2 (hfk y hy)
   ·exact hy2.2 e
   ·omega
  obtain⟨W1,hW1⟩:∃W1,W.alloc (.cells #[.int .i64 ((h+1+1:Nat):Int),.slice ba B.length bc,.slice ka (ks.map (kidN nu)).length kc] 96)=W1:=⟨_,rfl⟩
  have f1:St W W1:=hW1▸(Fr.refl _ W).alloc _
  have o1:W1.heap[W.heap.size]? = some (.cells #[.int .i64 ((h+1+1:Nat):Int),.slice ba B.length bc,.slice ka (ks.map (kidN nu)).length kc] 96 (0,0)):=hW1▸heap_alloc_new W _
  have HTW:=@Hd _ TW;have HKD:=@Hd _ KD;have HW1:=Hd hW1
  have HC:=Hd (ai hp (ai wv (ai hF (ai fo (ai ri (ai hz (ai hj (ai hla (ai hG (ai hix (ai f1 (ai o1 (ai way (ai hil (ai hlen hks)))))))))))))))
  have ih':=fun(W:World) (G F:Nat->Prop) (k0:Nat) (z:ByteArray) (v:Value) (n:Nd) (m:List Pr) (Q:List Nat)=>ih W G F k0 z v n m Q
  have HIH:=@Hd _ ih'
  have HNN:=Hd hnn;have HWK:=Hd wk;have HNK:=Hd hmk
  have t1:=fun w=>taB_br (brV (h+1+1) ba B.length bc ka (ks.map (kidN nu)).length kc) w
  have hgb:bL<W.heap.size:=(Array.getElem?_eq_some_iff.1 hla).1
  have d0:W1.cell? ⟨W.heap.size,0,none⟩=some (.int .i64 ((h+1+1:Nat):Int)):=cOo o1 0
  have d1:W1.cell? ⟨W.heap.size,1,none⟩=some (.slice ba B.length bc):=cOo o1 1
  have d2:W1.cell? ⟨W.heap.size,2,none⟩=some (.slice ka (ks.map (kidN nu)).length kc):=cOo o1 2
  have dl:=f1.cell' wv.lo id
  clear leaf TW KD ih ih' hp wv hF fo ri hz hj hla hG hix f1 o1 way hil hlen hB hK hfb hfk hs hnn wk fk hi0 h2 hW1 hmk hks
  generalize (ks.map (kidN nu)).length=nk at *
  generalize B.length=nb at *
  generalize hhq:h+1+1=hh at *
  have HHQ:=Hd hhq
  clear hhq
  rw[<-uh HW1] at dl
  go_enter Tryz.func64,Tryz.ntmps64
  go_wp2_with fail
  rw[uh HW1] at dl ⊢
  have f1:=(uh HC).2.2.2.2.2.2.2.2.2.2.1
  refine(uh HTW _ f1).mono ?_
  rintro e w2 ⟨rfl,f2⟩
  have d2':=f2.cell' d2 id
  have HF2:=Hd f2
  clear HTW f1 f2 dl d0 d1 d2 HW1 t1
  go_wp2_with fail
  go_loopw [10] (fun c wr=>∃(i:Nat) (G':Nat->Prop) (z':ByteArray),c = .int .i64 (i:Nat)/\Hid (i0<=i/\i<=ks.length/\Wnt J' (k0+(wkP x (ks.map (·.2.1)) i0 i).length) G bL w2 z' G' wr/\(∀p∈((ks.map (·.2.1)).drop i).flatten,ltK z' p.1)/\(i0<i->∃p∈m,z'=p.1))) (fun c _=>nk - (intOf c).toNat)
  case atStart=>
   obtain⟨hp,wv,hF,fo,ri,hz,hj,hla,hG,hix,f1,o1,way,hil,hlen,hks⟩:=uh HC
   have f12:St W w2:=f1.trans' (uh HF2) nE
   refine⟨i0,G,z,rfl,Hd ⟨Nat.le_refl _,by omega,⟨?_,Fr.refl _ _,fun _ h=>h,fun b h=>.inl h,f12.obj hla id⟩,fun p hp=>hz p ?_,fun h=>by omega⟩⟩
   ·rw[wkP_zero]
    exact(uh HWK).off _ _ _ _ _ hj f12 nE
   ·rw[fo.2.1]
    obtain⟨q,hq,hpq⟩:=List.mem_flatten.1 hp
    exact List.mem_flatten.2 ⟨q,List.mem_of_mem_drop hq,hpq⟩
  case round=>
   obtain⟨i,G',z',rfl,HI⟩:=hrel
   obtain⟨hi0,hin,wt,hzz,hzm⟩:=uh HI
   obtain⟨hp,wv,hF,fo,ri,hz,hj,hla,hG,hix,f1,o1,way,hil,hlen,hks⟩:=uh HC
   have f12:St W w2:=f1.trans' (uh HF2) nE
   have hnk:nk=ks.length:=uh HNK
   have hng:∀k,W.heap.size<=k->¬(G k\/k=bL):=by
    rintro k hk (h | h)
    ·have:=(hG k h).1;omega
    ·omega
   have hs12:W.heap.size<w2.heap.size:=by
    have e1:=(uh HF2).size
    have e2:=(Array.getElem?_eq_some_iff.1 o1).1
    omega
   have fWr:Fr (fun k=>G k\/k=bL) W wr:=(f12.mono nE).trans' wt.fr (fun k hk=>.inl hk)
   have dk:=wt.fr.cell' d2' (hng _ (Nat.le_refl _))
   by_cases hlt:i<ks.length
   ·have hlt':((i:Int)<(nk:Int))=True:=by simp;omega
    obtain⟨kk,hkk⟩:∃kk,ks[i]? = some kk:=⟨_,List.getElem?_eq_getElem hlt⟩
    have hkm:=List.mem_of_getElem? hkk
    have hmm:(ks.map (·.2.1))[i]? = some kk.2.1:=by rw[List.getElem?_map,hkk];rfl
    obtain⟨h1,eh,n1,Q1,st1,un1,hn1⟩:=(fo.1 kk hkm).node
    obtain rfl:h1=h:=by omega
    obtain⟨nn1,nn2,nn3,nn4,nn5,nn6,nn7⟩:=uh HNN
    have hpr:Hp nu sz wr hb sb b T A P:=hp.turn fWr (fun k hk=>by
     rcases hk with h | h
     ·exact fun t=>(hG k h).2.1 (.inl t)
     ·rw[h];exact nn5) (fun h=>by
     rcases h with h | h
     ·exact(hG _ h).2.1 (.inr (.inl rfl))
     ·exact nn6 h.symm) (fun h=>by
     rcases h with h | h
     ·exact(hG _ h).2.1 (.inr (.inr (.inl rfl)))
     ·exact nn7 h.symm)
    have nv:∀k,(k=bLo\/k=bT\/k=bS\/k=bY)->¬(G k\/k=bL):=by
     rintro k hk (h | h)
     ·have q:=(hG k h).2.1
      unfold Wks at q
      rcases hk with e | e | e | e <;> exact q (by simp[e])
     ·rcases hk with e | e | e | e
      ·exact nn1 (h.symm.trans e)
      ·exact nn2 (h.symm.trans e)
      ·exact nn3 (h.symm.trans e)
      ·exact nn4 (h.symm.trans e)
    have wvr:=wv.kept fWr (nv _ (.inl rfl)) (nv _ (.inr (.inl rfl))) (nv _ (.inr (.inr (.inl rfl)))) (nv _ (.inr (.inr (.inr rfl))))
    have ob:wr.heap[W.heap.size]? = some (.cells #[.int .i64 (hh:Nat),.slice ba nb bc,.slice ka nk kc] 96 (0,0)):=by
     exact wt.fr.obj ((uh HF2).obj o1 id) (hng _ (Nat.le_refl _))
    have b0:wr.cell? ⟨W.heap.size,0,none⟩=some (.int .i64 (hh:Nat)):=cOo ob 0
    have b1:wr.cell? ⟨W.heap.size,1,none⟩=some (.slice ba nb bc):=cOo ob 1
    have b2:wr.cell? ⟨W.heap.size,2,none⟩=some (.slice ka nk kc):=cOo ob 2
    have v1:=wvr.t
    have v2:=wvr.s
    have KD1:=uh HKD wr.drew i kk ((fWr.mono (fun k hk=>.inl (hk.imp id .inl))).drewN 1) hkk n1 st1 (by omega) (hpr.still ((Fr.refl _ wr).drewN 1))
    have sub:=fo.sub hkm
    have hsx:∀p∈kk.2.1,ltK z' p.1:=fun p hpk=>hzz p (by
     obtain⟨q1,q2⟩:=List.getElem?_eq_some_iff.1 hmm
     rw[List.drop_eq_getElem_cons q1,q2,List.flatten_cons]
     exact List.mem_append_left _ hpk)
    have hxx:∀j p,(geP x kk.2.1)[j]? = some p->L[k0+(wkP x (ks.map (·.2.1)) i0 i).length+j]? = some p:=fun j p hjp=>by
     rw[Nat.add_assoc]
     refine hix _ p ?_
     have e1:geP x m=wkP x (ks.map (·.2.1)) i0 (ks.map (·.2.1)).length:=by
      rw[wkP_all (by simp;omega),fo.2.1,geP_way fo.2.2.2.1 way]
     obtain⟨r,er⟩:=wkP_pre (x:=x) (M:=ks.map (·.2.1)) (i0:=i0) (i:=i+1) (by simp;omega)
     rw[e1,er,wkP_succ hi0 hmm,List.append_assoc,List.getElem?_append_right (by omega),show(wkP x (ks.map (·.2.1)) i0 i).length+j - (wkP x (ks.map (·.2.1)) i0 i).length=j by omega,List.getElem?_append_left (List.getElem?_eq_some_iff.1 hjp).1]
     exact hjp
    have HIK:=Hd (uh HIH)
    have HZ:=Hd (ai wt (ai hpr (ai wvr (ai un1 (ai st1 (ai hsx (ai hxx (ai (ri.sub sub.1) (ai hng (ai fWr (ai hmm (ai hi0 (ai hlt hkm)))))))))))))
    have HK1:=Hd KD1
    have i5:i<=32:=by omega
    clear HI hin wt hzz hzm hp wv hF fo ri hz hj hla hG hix f1 o1 way hil hlen hks f12 hnk hng hs12 fWr hkk hkm hmm st1 un1 hn1 nn1 nn2 nn3 nn4 nn5 nn6 nn7 hpr nv wvr ob KD1 sub hsx hxx eh d2' hi0 hlt HKD
    go_wp2_with fail
    have fD:St wr wr.drew:=(Fr.refl _ wr).drewN 1
    refine wp_region_held_drew (S:=fun w'=>w'.cell? ⟨bT,0,none⟩=some (.func (.func 64) #[] #[ptr bLo,ptr bT,ptr bS,ptr bL,ptr bY])/\w'.cell? ⟨W.heap.size,0,none⟩=some (.int .i64 (hh:Nat))/\w'.cell? ⟨W.heap.size,1,none⟩=some (.slice ba nb bc)/\w'.cell? ⟨W.heap.size,2,none⟩=some (.slice ka nk kc)/\w'.cell? ⟨bS,0,none⟩=some (ptr sb)) (by kernel_rfl) ⟨v1,b0,b1,b2,v2⟩ (fun hHeld=>?_)
    refine tkO 0 (.func (.func 64) #[] #[ptr bLo,ptr bT,ptr bS,ptr bL,ptr bY]) hHeld rfl ?_ ?_
    ·rintro w ⟨x0,x1,x2,x3,x4⟩;go_simp;try with_reducible rfl
    simp only[apt,List.set]
    refine tkO 1 (brV hh ba nb bc ka nk kc) hHeld rfl ?_ ?_
    ·rintro w ⟨x0,x1,x2,x3,x4⟩;go_simp;try with_reducible rfl
    simp only[apt,List.set]
    refine tkO 2 (ptr sb) hHeld rfl ?_ ?_
    ·rintro w ⟨x0,x1,x2,x3,x4⟩;go_simp;try with_reducible rfl
    simp only[apt,List.set]
    refine tkO 3 ?_ hHeld rfl ?_ ?_
    rotate_left
    ·intro w q;go_simp;try with_reducible rfl
    simp only[apt,List.set]
    refine rdO 4 rfl (fun K hK=>?_)
    go_simp
    go_wp2_with fail
    refine(uh HK1).mono ?_
    rintro e w5 ⟨v5,rfl,nd5,f5⟩
    have fr5:St wr w5:=fD.trans' f5 nE
    refine hK.out _ _ ⟨fr5.cell' v1 id,fr5.cell' b0 id,fr5.cell' b1 id,fr5.cell' b2 id,fr5.cell' v2 id⟩ (fun _=>?_)
    clear hK K hHeld
    have CC:Calls Tryz.prog 64 #[v5,ptr bLo,ptr bT,ptr bS,ptr bL,ptr bY] w5 fun e W'=>WkE J' Jx Jp (k0+(wkP x (ks.map (·.2.1)) i0 i).length+(geP x kk.2.1).length) G' bL w5 kk.2.1 e W':=by
     obtain⟨wt,hpr,wvr,un1,st1,hsx,hxx,rik,hng,fWr,hmm,hi0,hlt,hkm⟩:=uh HZ
     obtain⟨hp,wv,hF,fo,ri,hz,hj,hla,hG,hix,f1,o1,way,hil,hlen,hks⟩:=uh HC
     have hbr:bL<wr.heap.size:=(Array.getElem?_eq_some_iff.1 wt.la).1
     have hsd:wr.drew.heap.size=wr.heap.size:=rfl
     have hs5:=fr5.size
     have hsw:W.heap.size<=w2.heap.size:=(f1.trans' (uh HF2) nE).size
     refine uh HIK w5 G' _ _ z' v5 n1 kk.2.1 Q1 (hpr.still fr5) (wvr.kept fr5 id id id id) nd5 (fun k hk=>⟨hk.2,fun e=>?_⟩) un1 st1.le rik hsx ((uh HWK).off _ _ _ _ _ wt.j fr5 nE) (fr5.obj wt.la id) (fun k hk=>?_) hxx
     ·have:=hk.1;omega
     ·have hkr:=(uh HWK).lt _ _ _ wt.j k hk
      refine⟨by omega,fun hw=>?_,fun h=>by have:=h.1;omega⟩
      rcases wt.new k hk with h | h
      ·exact(hG k h).2.1 hw
      ·have:=Wks_lt hp wv hla hw
       omega
    have HC5:=Hd CC
    have HF5:=Hd fr5
    clear CC HIK HK1 f5 fD nd5
    refine rdO 5 rfl (fun K hK=>?_)
    go_simp
    go_wp2_with fail
    refine(uh HC5).mono ?_
    clear HC5
    have hfr:∀w6,Fr (fun k=>G' k\/k=bL) w5 w6->Fr (fun k=>G k\/k=bL) W w6/\Fr (fun k=>G k\/k=bL) w2 w6:=fun w6 f6=>by
     obtain⟨wt,hpr,wvr,un1,st1,hsx,hxx,rik,hng,fWr,hmm,hi0,hlt,hkm⟩:=uh HZ
     obtain⟨hp,wv,hF,fo,ri,hz,hj,hla,hG,hix,f1,o1,way,hil,hlen,hks⟩:=uh HC
     have hsw:W.heap.size<=w2.heap.size:=(f1.trans' (uh HF2) nE).size
     have f56:=((uh HF5).mono nE).trans' f6 (fun k hk=>.inl hk)
     have q:∀k,G' k\/k=bL->(G k\/k=bL)\/w2.heap.size<=k:=fun k hk=>by
      rcases hk with h | h
      ·exact(wt.new k h).imp .inl id
      ·exact .inl (.inr h)
     exact⟨fWr.trans' f56 (fun k hk=>(q k hk).imp id (fun h=>Nat.le_trans hsw h)),wt.fr.trans' f56 q⟩
    have hcl:∀w6,Fr (fun k=>G' k\/k=bL) w5 w6->w6.cell? ⟨bT,0,none⟩=some (.func (.func 64) #[] #[ptr bLo,ptr bT,ptr bS,ptr bL,ptr bY])/\w6.cell? ⟨W.heap.size,0,none⟩=some (.int .i64 (hh:Nat))/\w6.cell? ⟨W.heap.size,1,none⟩=some (.slice ba nb bc)/\w6.cell? ⟨W.heap.size,2,none⟩=some (.slice ka nk kc)/\w6.cell? ⟨bS,0,none⟩=some (ptr sb):=fun w6 f6=>by
     have fr5:=uh HF5
     obtain⟨wt,hpr,wvr,un1,st1,hsx,hxx,rik,hng,fWr,hmm,hi0,hlt,hkm⟩:=uh HZ
     obtain⟨hp,wv,hF,fo,ri,hz,hj,hla,hG,hix,f1,o1,way,hil,hlen,hks⟩:=uh HC
     obtain⟨nn1,nn2,nn3,nn4,nn5,nn6,nn7⟩:=uh HNN
     have hsw:W.heap.size<=w2.heap.size:=(f1.trans' (uh HF2) nE).size
     have hs12:W.heap.size<w2.heap.size:=by
      have e1:=(uh HF2).size
      have e2:=(Array.getElem?_eq_some_iff.1 o1).1
      omega
     have lT:=World.block_lt_of_cell? _ _ wv.t
     have lS:=World.block_lt_of_cell? _ _ wv.s
     have nT:¬(G' bT\/bT=bL):=by
      rintro(h | h)
      ·rcases wt.new _ h with h | h
       ·exact(hG _ h).2.1 (by unfold Wks;simp)
       ·simp only at lT;omega
      ·exact nn2 h.symm
     have nS:¬(G' bS\/bS=bL):=by
      rintro(h | h)
      ·rcases wt.new _ h with h | h
       ·exact(hG _ h).2.1 (by unfold Wks;simp)
       ·simp only at lS;omega
      ·exact nn3 h.symm
     have nW:¬(G' W.heap.size\/W.heap.size=bL):=by
      rintro(h | h)
      ·rcases wt.new _ h with h | h
       ·exact hng _ (Nat.le_refl _) (.inl h)
       ·omega
      ·exact hng _ (Nat.le_refl _) (.inr h)
     exact⟨f6.cell' (fr5.cell' v1 id) nT,f6.cell' (fr5.cell' b0 id) nW,f6.cell' (fr5.cell' b1 id) nW,f6.cell' (fr5.cell' b2 id) nW,f6.cell' (fr5.cell' v2 id) nS⟩
    have HFR:=Hd hfr
    have HCL:=Hd hcl
    clear hfr hcl v1 b0 b1 b2 v2 fr5
    rintro e w6 (⟨rfl,G2,p,hpk,wnt⟩ | ⟨rfl,hx6,f6⟩ | ⟨ch,rfl,hp6⟩)
    ·have hS6:=uh HCL w6 wnt.fr
     have HN:=Hd (ai hpk wnt)
     clear hpk wnt
     refine hK.out _ _ hS6 (fun _=>?_)
     clear hK K
     refine rdO 6 rfl (fun K hK=>?_)
     go_simp
     refine hK.out _ _ hS6 (fun _=>?_)
     clear hK K hS6
     refine wpAnyH_done (by kernel_rfl) ?_ _
     go_wp2_with fail
     obtain⟨hpk,wnt⟩:=uh HN
     obtain⟨wt,hpr,wvr,un1,st1,hsx,hxx,rik,hng,fWr,hmm,hi0,hlt,hkm⟩:=uh HZ
     obtain⟨hp,wv,hF,fo,ri,hz,hj,hla,hG,hix,f1,o1,way,hil,hlen,hks⟩:=uh HC
     have hnk:nk=ks.length:=uh HNK
     refine⟨⟨i+1,G2,p.1,by go_num,Hd ⟨by omega,by omega,⟨?_,((uh HFR) _ wnt.fr).2,fun b hb=>wnt.up b (wt.up b hb),fun b hb=>?_,wnt.la⟩,fun q hq=>?_,fun _=>⟨p,?_,rfl⟩⟩⟩,by simp[intOf];omega⟩
     ·rw[wkP_succ hi0 hmm,List.length_append,<-Nat.add_assoc]
      exact wnt.j
     ·rcases wnt.new b hb with h | h
      ·exact wt.new b h
      ·exact .inr (Nat.le_trans wt.fr.size (Nat.le_trans (uh HF5).size h))
     ·refine parts_lt ?_ hmm hpk hq
      rw[<-fo.2.1]
      exact ri
     ·rw[fo.2.1]
      exact List.mem_flatten.2 ⟨_,List.mem_of_getElem? hmm,hpk⟩
    ·have hS6:=uh HCL w6 f6
     have HN:=Hd (ai hx6 (uh HFR w6 f6).1)
     clear hx6 f6
     refine hK.out _ _ hS6 (fun _=>?_)
     clear hK K
     refine rdO 6 rfl (fun K hK=>?_)
     go_simp
     refine hK.out _ _ hS6 (fun _=>?_)
     clear hK K hS6
     refine wpAnyH_done (by kernel_rfl) ?_ _
     go_wp2_with fail
     go_ret
     exact .inr (.inl ⟨rfl,(uh HN).1,(uh HN).2⟩)
    ·exact⟨rfl,.inr (.inr ⟨ch,rfl,hp6⟩)⟩
   ·have hlt':((i:Int)<(nk:Int))=False:=by simp;omega
    obtain rfl:i=ks.length:=by omega
    obtain⟨p,hpm,ez⟩:=hzm (by omega)
    have e1:geP x m=wkP x (ks.map (·.2.1)) i0 ks.length:=by
     rw[fo.2.1,geP_way fo.2.2.2.1 way,<-wkP_all (by simp;omega),List.length_map]
    rw[<-e1,ez] at wt
    have HT:=Hd (show Wnt J' (k0+(geP x m).length) G bL W p.1 G' wr from⟨wt.j,fWr,wt.up,fun b hb=>(wt.new b hb).imp id (fun h=>by omega),wt.la⟩)
    have HP:=Hd hpm
    clear HI hin wt hzz hzm hp wv hF fo ri hz hj hla hG hix f1 o1 way hil hlen hks f12 hnk hng hs12 fWr e1 hpm ez d2' hi0 HKD HIH HNN HC
    go_wp2
    go_ret
    exact .inl ⟨rfl,G',p,uh HP,uh HT⟩
end
end

section
theorem ltK_nil {x:ByteArray} (h:1<=x.size):ltK ⟨#[]⟩ x:=by
 show([]:List UInt8)<x.data.toList
 have h1:1<=x.data.toList.length:=h
 cases e:x.data.toList with
 | nil=>rw[e] at h1;exact absurd h1 (by decide)
 | cons a r=>exact List.nil_lt_cons a r
set_option maxRecDepth 100000 in
theorem w_leaf0 (W:World) (a:Option Addr) (c bLo bT bS bL bY:Nat) :
  Calls Tryz.prog 64 #[.iface 100 (.slice a ([]:List Pr).length c),ptr bLo,ptr bT,ptr bS,ptr bL,ptr bY] W fun e W'=>e = .returned (.bool true)/\St W W':=by
 rw[List.length_nil]
 have t1:=fun w=>taB_leaf (.slice a 0 c) w
 have t2:=fun w=>taL_leaf (.slice a 0 c) w
 obtain⟨W1,hW1⟩:∃W1,W.alloc (.cells #[.int .i64 0,.slice none 0 0,.slice none 0 0] 96)=W1:=⟨_,rfl⟩
 have HF:=Hd (show St W W1 from hW1▸(Fr.refl _ W).alloc _)
 have HW:=Hd hW1
 clear hW1
 go_enter Tryz.func64,Tryz.ntmps64
 go_wp2_with fail
 rw[uh HW]
 go_loopw [39] (fun c wr=>c = .int .i64 0/\wr=W1) (fun c wr=>0)
 case atStart=>exact⟨rfl,rfl⟩
 case round=>
  obtain⟨rfl,rfl⟩:=hrel
  go_wp2
  go_ret
  exact⟨rfl,uh HF⟩
section
variable {nu sz:Nat} {hb sb b:Nat} {T:Tay} {A:Ab} {P:List (Int×Int)}
def Wkr (hb sb b:Nat) (T:Tay) (bLo bS bR:Nat) (k:Nat):Prop:=tfoot sb b T k\/k=hb\/k=0\/k=bLo\/k=bS\/k=bR
def WkR (nu sz:Nat) (hb sb b:Nat) (T:Tay) (A:Ab) (P:List (Int×Int)) (x:ByteArray) (r bLo bS bR:Nat) (W:World):Prop:=
 Hp nu sz W hb sb b T A P/\W.cell? ⟨bLo,0,none⟩=some (.string x)/\W.cell? ⟨bS,0,none⟩=some (ptr sb)/\W.cell? ⟨bR,0,none⟩=some (.int .u64 (r:Nat))
theorem WkR.still {x:ByteArray} {r bLo bS bR:Nat} {W W':World} (h:WkR nu sz hb sb b T A P x r bLo bS bR W) (f:St W W'):WkR nu sz hb sb b T A P x r bLo bS bR W':=
 ⟨h.1.still f,f.cell' h.2.1 id,f.cell' h.2.2.1 id,f.cell' h.2.2.2 id⟩
set_option maxRecDepth 100000 in
theorem w_iter {r:Nat} {L:List Pr} {Q:List Nat} (rt:Rt nu sz (says P A) r L Q) (ri:Rise L) (pk:Pok L) (x:ByteArray) (bLo bS bR l:Nat) :
  IterG Tryz.prog 63 #[ptr bLo,ptr bS,ptr bR] (wkE (geP x L)) (geP x L).length l (Wkr hb sb b T bLo bS bR) (WkR nu sz hb sb b T A P x r bLo bS bR):=by
 intro J' Jx Jp off lt y G W rd hj hG
 refine(callsIn_wide (n:=0)).2 ?_
 have wk:Wkj (geP x L) l J' Jx Jp:=⟨lt,off,y⟩
 have HC:=Hd (ai wk (ai rd (ai hj (ai hG (ai rt (ai ri pk))))))
 obtain⟨hp,dlo,ds,dr⟩:=rd
 clear off lt y wk hj hG rt ri pk hp
 show Calls Tryz.prog 63 #[.func (.yield l) #[] #[],ptr bLo,ptr bS,ptr bR] W _
 go_enter Tryz.func63,Tryz.ntmps63
 go_wp2_with fail
 obtain⟨W3,hW3⟩:∃W3,((W.alloc (.cells #[.func (.yield l) #[] #[]] 112)).alloc (.cells #[.string ⟨#[]⟩] 9)).alloc (.cells #[.func (.func 64) #[] #[ptr bLo,ptr (W.heap.size+1+1),ptr bS,ptr (W.heap.size+1),ptr W.heap.size]] 113)=W3:=⟨_,rfl⟩
 have f3:St W W3:=hW3▸(((Fr.refl _ W).alloc _).alloc _).alloc _
 have oY:W3.heap[W.heap.size]? = some (.cells #[.func (.yield l) #[] #[]] 112 (0,0)):=by
  rw[<-hW3]
  refine(Below.heap_alloc _ _ _ (by simp;omega)).trans ((Below.heap_alloc _ _ _ (by simp)).trans (heap_alloc_new W _))
 have oL:W3.heap[W.heap.size+1]? = some (.cells #[.string ⟨#[]⟩] 9 (0,0)):=by
  rw[<-hW3]
  refine(Below.heap_alloc _ _ _ (by simp)).trans ?_
  have:=heap_alloc_new (W.alloc (.cells #[.func (.yield l) #[] #[]] 112)) (.cells #[.string ⟨#[]⟩] 9)
  rwa [World.size_alloc] at this
 have oT:W3.heap[W.heap.size+1+1]? = some (.cells #[.func (.func 64) #[] #[ptr bLo,ptr (W.heap.size+1+1),ptr bS,ptr (W.heap.size+1),ptr W.heap.size]] 113 (0,0)):=by
  rw[<-hW3]
  have:=heap_alloc_new ((W.alloc (.cells #[.func (.yield l) #[] #[]] 112)).alloc (.cells #[.string ⟨#[]⟩] 9)) (.cells #[.func (.func 64) #[] #[ptr bLo,ptr (W.heap.size+1+1),ptr bS,ptr (W.heap.size+1),ptr W.heap.size]] 113)
  rwa [World.size_alloc,World.size_alloc] at this
 change Code.wp Tryz.prog _ _ _ (((W.alloc (.cells #[.func (.yield l) #[] #[]] 112)).alloc (.cells #[.string ⟨#[]⟩] 9)).alloc (.cells #[.func (.func 64) #[] #[ptr bLo,ptr (W.heap.size+1+1),ptr bS,ptr (W.heap.size+1),ptr W.heap.size]] 113))
 rw[hW3]
 have dt:W3.cell? ⟨W.heap.size+1+1,0,none⟩=some (.func (.func 64) #[] #[ptr bLo,ptr (W.heap.size+1+1),ptr bS,ptr (W.heap.size+1),ptr W.heap.size]):=cOo oT 0
 have ds3:=f3.cell' ds id
 have dr3:=f3.cell' dr id
 have HO:=Hd (ai f3 (ai oY (ai oL oT)))
 obtain⟨bT,hbT⟩:∃k,W.heap.size+1+1=k:=⟨_,rfl⟩
 obtain⟨bL,hbL⟩:∃k,W.heap.size+1=k:=⟨_,rfl⟩
 obtain⟨bY,hbY⟩:∃k,W.heap.size=k:=⟨_,rfl⟩
 have HB:=Hd (ai hbT (ai hbL hbY))
 rw[hbT,hbL,hbY] at HO dt ⊢
 clear f3 oY oL oT hW3 dlo ds dr hbT hbL hbY
 have TP:=y_topR (Hd (uh HC).2.1.1 |> uh |>.still ((uh HO).1.drewN 1)) (uh HC).2.2.2.2.1
 have HTP:=Hd TP
 clear TP
 have fD:St W3 W3.drew:=(Fr.refl _ W3).drewN 1
 refine wp_region_held_drew (S:=fun w'=>w'.cell? ⟨bT,0,none⟩=some (.func (.func 64) #[] #[ptr bLo,ptr bT,ptr bS,ptr bL,ptr bY])/\w'.cell? ⟨bS,0,none⟩=some (ptr sb)/\w'.cell? ⟨bR,0,none⟩=some (.int .u64 (r:Nat))) (by kernel_rfl) ⟨dt,ds3,dr3⟩ (fun hHeld=>?_)
 refine tkO 0 (.func (.func 64) #[] #[ptr bLo,ptr bT,ptr bS,ptr bL,ptr bY]) hHeld rfl ?_ ?_
 ·rintro w ⟨x0,x1,x2⟩;go_simp;try with_reducible rfl
 simp only[apt,List.set]
 refine tkO 1 (ptr sb) hHeld rfl ?_ ?_
 ·rintro w ⟨x0,x1,x2⟩;go_simp;try with_reducible rfl
 simp only[apt,List.set]
 refine tkO 2 (.int .u64 (r:Nat)) hHeld rfl ?_ ?_
 ·rintro w ⟨x0,x1,x2⟩;go_simp;try with_reducible rfl
 simp only[apt,List.set]
 refine rdO 3 rfl (fun K hK=>?_)
 go_simp
 go_wp2_with fail
 refine(uh HTP).mono ?_
 rintro e w5 ⟨v,n,rfl,nd,f5,hcs⟩
 have fr5:St W3 w5:=fD.trans' f5 nE
 refine hK.out _ _ ⟨fr5.cell' dt id,fr5.cell' ds3 id,fr5.cell' dr3 id⟩ (fun _=>?_)
 clear hK K hHeld HTP
 have CC:Calls Tryz.prog 64 #[v,ptr bLo,ptr bT,ptr bS,ptr bL,ptr bY] w5 fun e W'=>(e = .returned (.bool true)/\Fr (fun k=>G k\/k=bL) w5 W'/\∃G',J' (geP x L).length G' W')\/(e = .returned (.bool false)/\Fr (fun k=>G k\/k=bL) w5 W'/\Jx W')\/∃ch,e = .panicked ch/\Jp ch W':=by
  obtain⟨wk,⟨hp,dlo,ds,dr⟩,hj,hG,rt,ri,pk⟩:=uh HC
  obtain⟨f3,oY,oL,oT⟩:=uh HO
  obtain⟨hbT,hbL,hbY⟩:=uh HB
  have fW5:St W w5:=f3.trans' fr5 nE
  have hs3:(W3.drewN 1).heap.size=W3.heap.size:=rfl
  have hlT:bT<W3.heap.size:=(Array.getElem?_eq_some_iff.1 oT).1
  have hs5:=fr5.size
  rcases hcs with ⟨rfl,rfl,rfl⟩ | ⟨h',u,Q',st,un,_,_⟩
  ·obtain⟨a,c,rfl,hL,hf⟩:=nd
   refine(w_leaf0 w5 a c bLo bT bS bL bY).mono ?_
   rintro e w6 ⟨rfl,f6⟩
   refine .inl ⟨rfl,f6.mono nE,G,?_⟩
   exact wk.off _ _ _ _ _ hj (fW5.trans' f6 nE) nE
  ·have lLo:=World.block_lt_of_cell? _ _ dlo
   have lS:=World.block_lt_of_cell? _ _ ds
   simp only at lLo lS
   refine(w_through wk ⟨by omega,by omega,by omega,by omega,fun h=>by have:=hp.st.lt _ h;omega,by have:=hp.lth;omega,by omega⟩ h' w5 G _ 0 ⟨#[]⟩ v n L Q' (hp.still fW5) ⟨fW5.cell' dlo id,fr5.cell' (cOo oT 0) id,fW5.cell' ds id,fr5.cell' (cOo oY 0) id⟩ nd (fun k hk=>⟨hk.2,by have:=hk.1;omega⟩) un st.le ri (fun p hp=>?_) (wk.off _ _ _ _ _ hj fW5 nE) (fr5.obj oL id) (fun k hk=>?_) (fun i p h=>by rw[Nat.zero_add];exact h)).mono ?_
   ·exact ltK_nil (pk p hp).1.1
   ·obtain⟨g1,g2⟩:=hG k hk
    have g3:=fW5.size
    refine⟨by omega,fun h=>?_,fun h=>by have:=h.1;omega⟩
    rcases h with h | h | h | h | h | h | h | h
    ·exact g2 (.inl h)
    ·exact g2 (.inr (.inl h))
    ·exact g2 (.inr (.inr (.inl h)))
    ·exact g2 (.inr (.inr (.inr (.inl h))))
    ·omega
    ·exact g2 (.inr (.inr (.inr (.inr (.inl h)))))
    ·omega
    ·omega
   ·rintro e w6 (⟨rfl,G2,p,_,wnt⟩ | ⟨rfl,hx,f6⟩ | ⟨ch,rfl,hp6⟩)
    ·exact .inl ⟨rfl,wnt.fr,G2,by have:=wnt.j;rwa [Nat.zero_add] at this⟩
    ·exact .inr (.inl ⟨rfl,f6,hx⟩)
    ·exact .inr (.inr ⟨ch,rfl,hp6⟩)
 have cl:∀w6,Fr (fun k=>G k\/k=bL) w5 w6->w6.cell? ⟨bT,0,none⟩=some (.func (.func 64) #[] #[ptr bLo,ptr bT,ptr bS,ptr bL,ptr bY])/\w6.cell? ⟨bS,0,none⟩=some (ptr sb)/\w6.cell? ⟨bR,0,none⟩=some (.int .u64 (r:Nat)):=fun w6 f6=>by
  obtain⟨wk,⟨hp,dlo,ds,dr⟩,hj,hG,rt,ri,pk⟩:=uh HC
  obtain⟨hbT,hbL,hbY⟩:=uh HB
  have lS:=World.block_lt_of_cell? _ _ ds
  have lR:=World.block_lt_of_cell? _ _ dr
  simp only at lS lR
  refine⟨f6.cell' (fr5.cell' dt id) ?_,f6.cell' (fr5.cell' ds3 id) ?_,f6.cell' (fr5.cell' dr3 id) ?_⟩
  ·show ¬(G bT\/bT=bL)
   rintro(h | h)
   ·have:=(hG _ h).1;omega
   ·omega
  ·show ¬(G bS\/bS=bL)
   rintro(h | h)
   ·exact(hG _ h).2 (.inr (.inr (.inr (.inr (.inl rfl)))))
   ·omega
  ·show ¬(G bR\/bR=bL)
   rintro(h | h)
   ·exact(hG _ h).2 (.inr (.inr (.inr (.inr (.inr rfl)))))
   ·omega
 have gw:∀w6,Fr (fun k=>G k\/k=bL) w5 w6->Fr G W w6:=fun w6 f6=>by
  obtain⟨hbT,hbL,hbY⟩:=uh HB
  refine(((uh HO).1.trans' fr5 nE).mono nE).trans' f6 fun k hk=>hk.imp id fun h=>?_
  omega
 have HGW:=Hd gw
 have HCC:=Hd CC
 have HCL:=Hd cl
 clear CC cl gw nd f5 hcs fr5 fD dt ds3 dr3 HC HO HB
 refine rdO 4 rfl (fun K hK=>?_)
 go_simp
 go_wp2_with fail
 refine(uh HCC).mono ?_
 clear HCC
 rintro e w6 (⟨rfl,f6,G2,hj6⟩ | ⟨rfl,f6,hx6⟩ | ⟨ch,rfl,hp6⟩)
 ·have HJ:=Hd (ai (uh HGW w6 f6) hj6)
  refine hK.out _ _ (uh HCL w6 f6) (fun _=>?_)
  clear hK K hj6 f6 HCL
  refine wpAnyH_done (by kernel_rfl) ?_ _
  go_end0
  exact .inl ⟨_,rfl,(uh HJ).1,G2,(uh HJ).2⟩
 ·have HJ:=Hd (ai (uh HGW w6 f6) hx6)
  refine hK.out _ _ (uh HCL w6 f6) (fun _=>?_)
  clear hK K hx6 f6 HCL
  refine wpAnyH_done (by kernel_rfl) ?_ _
  go_end0
  exact .inr (.inl ⟨_,rfl,(uh HJ).1,(uh HJ).2⟩)
 ·exact⟨rfl,.inr (.inr ⟨ch,rfl,hp6⟩)⟩
end
end
end Go.Proofs.YtbiopjmpdhcjgaaGreatDoor
