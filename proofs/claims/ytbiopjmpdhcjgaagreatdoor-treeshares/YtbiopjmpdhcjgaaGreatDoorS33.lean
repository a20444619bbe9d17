/- Joined: Dd Zj De Df. -/
import Derived.Test.YtbiopjmpdhcjgaaGreatDoorS19
import Derived.Test.YtbiopjmpdhcjgaaGreatDoorS25
import Derived.Test.YtbiopjmpdhcjgaaGreatDoorS32
namespace Go.Proofs.YtbiopjmpdhcjgaaGreatDoor
open Go.RowKit
set_option maxHeartbeats 4000000

section
section
variable {nu sz:Nat} {w w' w0:World} {hb sb b cb m:Nat} {T T0:Tay} {A:Ab} {P:List (Int×Int)} {tv:Value}
set_option maxRecDepth 100000 in
theorem y_bothR (c:Cg nu sz w0 hb sb b T0 A cb w T P tv m) (hh:Nat) (ba:Option Addr) (bc:Nat) (B:List ByteArray) (ka:Option Addr) (kc:Nat) (ks:List (Nat×Nat)) (i:Nat) (hB:Kys w ba bc B) (hK:Kds w ka kc ks) (hl:ks.length<=500) (hlen:ks.length=B.length+1) (x:ByteArray) (hx:B[i]? = some x) (u kn:Nat) (n1 nj:Nd) (hq:ks[i+1]? = some (fi nu+8 * u,kn)) (st1:Std nu sz (says P A) u n1) (hh1:hh=n1.high+1) (nv:Value)
  (JN:∀w1 w2 nv1,St w w1->St w1 w2->NdO (fun k=>w1.heap.size<=k/\k<w2.heap.size) w2 nv1 n1->Calls Tryz.prog 186 #[nv,.string x,nv1] w2 fun e w'=>∃nv',e = .returned nv'/\NdO (fun k=>w2.heap.size<=k/\k<w'.heap.size) w' nv' nj/\St w2 w') :
  Calls Tryz.prog 150 #[ptr cb,brV hh ba B.length bc ka ks.length kc,.int .i64 i,.int .i64 i,nv] w fun e w'=>∃nv',e = .returned nv'/\NdO (fun k=>w.heap.size<=k/\k<w'.heap.size) w' nv' nj/\St w w':=by
 have hiB:i<B.length:=(List.getElem?_eq_some_iff.1 hx).1
 have KD:∀w1,St w w1->Calls Tryz.prog 53 #[brV hh ba B.length bc ka ks.length kc,ptr sb,.int .i64 ((i:Int)+1)] w1 _:=fun w1 f1=>b_kid (c.still f1).hp hh ba B.length bc ka kc ks (i+1) u n1 (hK.still f1) (by omega) kn hq st1 hh1
 obtain⟨bb,bo,eb,cx⟩:=hB.cells i (.string x) (by rw[List.getElem?_map,hx];rfl)
 obtain⟨W,hW⟩:∃W,w.alloc (.cells #[.int .i64 hh,.slice ba B.length bc,.slice ka ks.length kc] 96)=W:=⟨_,rfl⟩
 have fW:St w W:=hW▸(Fr.refl _ w).alloc _
 have oW:W.heap[w.heap.size]? = some (.cells #[.int .i64 hh,.slice ba B.length bc,.slice ka ks.length kc] 96 (0,0)):=hW▸heap_alloc_new w _
 have wi1:IntKind.i64.wrap ((i:Int)+1)=(i:Int)+1:=(wrap_small _ (by omega) (by omega)).1
 have hlt:((i:Int)<B.length)=True:=by simp;omega
 have HS:=@Hd _ (fun(w':World) (f:St W w')=>show w'.cell? ⟨w.heap.size,0,none⟩=some (.int .i64 hh)/\w'.cell? ⟨w.heap.size,1,none⟩=some (.slice ba B.length bc)/\w'.cell? ⟨w.heap.size,2,none⟩=some (.slice ka ks.length kc)/\w'.cell? ⟨cb,0,none⟩=some (ptr sb)/\w'.cell? ⟨bb,bo+i,none⟩=some (.string x) from⟨cOo (f.obj oW id) 0,cOo (f.obj oW id) 1,cOo (f.obj oW id) 2,cOo ((c.still fW).still f).ob 0,f.cell' (fW.cell' cx id) id⟩)
 have HKD:=@Hd _ KD;have HJN:=@Hd _ JN;have HW:=Hd hW;have HFW:=Hd fW
 subst eb
 have i5:i<=500:=by omega
 clear KD JN hW fW oW c hB hK hl hlen hx hq st1 hh1 cx hiB
 generalize B.length=nb at *
 generalize ks.length=nk at *
 generalize hg:w.heap.size=g at *
 have hie:((i:Int) == (i:Int))=true:=by simp
 go_enter Tryz.func150,Tryz.ntmps150
 go_wp2_with fail
 rw[uh HW]
 have fD:St W W.drew:=(Fr.refl _ W).drewN 1
 refine wp_region_held_drew (S:=fun w'=>w'.cell? ⟨g,0,none⟩=some (.int .i64 hh)/\w'.cell? ⟨g,1,none⟩=some (.slice (some ⟨bb,bo,none⟩) nb bc)/\w'.cell? ⟨g,2,none⟩=some (.slice ka nk kc)/\w'.cell? ⟨cb,0,none⟩=some (ptr sb)/\w'.cell? ⟨bb,bo+i,none⟩=some (.string x)) (by kernel_rfl) (uh HS _ fD) (fun hHeld=>?_)
 clear hHeld
 have hHeld:=uh HS _ fD
 refine tkO 0 ?_ hHeld rfl ?_ ?_
 rotate_left
 ·intro w q;go_simp;try with_reducible rfl
 simp only[apt,List.set]
 refine tkO 1 ?_ hHeld rfl ?_ ?_
 rotate_left
 ·intro w q;go_simp;try with_reducible rfl
 simp only[apt,List.set]
 refine tkO 2 (.slice (some ⟨bb,bo,none⟩) nb bc) hHeld rfl ?_ ?_
 ·rintro w ⟨x0,x1,x2,x3,x4⟩;go_simp;try with_reducible rfl
 simp only[apt,List.set]
 refine tkO 3 ?_ hHeld rfl ?_ ?_
 rotate_left
 ·intro w q;go_simp;try with_reducible rfl
 simp only[apt,List.set]
 refine tkO 4 ?_ hHeld rfl ?_ ?_
 rotate_left
 ·intro w q;go_simp;try with_reducible rfl
 simp only[apt,List.set]
 refine tkO 5 (.string x) hHeld rfl ?_ ?_
 ·rintro w ⟨x0,x1,x2,x3,x4⟩;go_simp;try with_reducible rfl
 simp only[apt,List.set]
 refine tkO 6 (.agg #[.int .i64 (hh:Nat),.slice (some ⟨bb,bo,none⟩) nb bc,.slice ka nk kc]) hHeld rfl ?_ ?_
 ·rintro w ⟨x0,x1,x2,x3,x4⟩;go_simp;try with_reducible rfl
 simp only[apt,List.set]
 refine tkO 7 ?_ hHeld rfl ?_ ?_
 rotate_left
 ·intro w q;go_simp;try with_reducible rfl
 simp only[apt,List.set]
 refine tkO 8 ?_ hHeld rfl ?_ ?_
 rotate_left
 ·intro w q;go_simp;try with_reducible rfl
 simp only[apt,List.set]
 refine tkO 9 ?_ hHeld rfl ?_ ?_
 rotate_left
 ·intro w q;go_simp;try with_reducible rfl
 simp only[apt,List.set]
 refine tkO 10 (ptr sb) hHeld rfl ?_ ?_
 ·rintro w ⟨x0,x1,x2,x3,x4⟩;go_simp;try with_reducible rfl
 simp only[apt,List.set]
 refine tkO 11 ?_ hHeld rfl ?_ ?_
 rotate_left
 ·intro w q;go_simp;try with_reducible rfl
 simp only[apt,List.set]
 refine tkO 12 (.int .i64 ((i:Int)+1)) hHeld rfl ?_ ?_
 ·(intro w q;go_simp;first | done | (rw[wi1]) | (simp[wi1]))
 simp only[apt,List.set]
 refine rdO 13 rfl (fun K hK=>?_)
 go_simp
 go_wp2_with fail
 have fwD:St w W.drew:=(uh HFW).trans' fD nE
 refine(uh HKD _ fwD).mono ?_
 rintro e w3 ⟨nv1,rfl,nd1,f3⟩
 have f03:St W w3:=fD.trans' f3 nE
 refine hK.out _ _ (uh HS _ f03) (fun _=>?_)
 clear hK K hHeld
 have JC:=uh HJN _ w3 nv1 fwD f3 nd1
 refine rdO 14 rfl (fun K hK=>?_)
 go_simp
 go_wp2_with fail
 refine JC.mono ?_
 rintro e w4 ⟨nv',rfl,nd4,f4⟩
 have f04:St W w4:=f03.trans' f4 nE
 refine hK.out _ _ (uh HS _ f04) (fun _=>?_)
 clear hK K
 refine rdO 15 rfl (fun K hK=>?_)
 go_simp
 refine hK.out _ _ (uh HS _ f04) (fun _=>?_)
 clear hK K
 refine wpAnyH_done (by kernel_rfl) ?_ _
 have HZ:=Hd (show NdO (fun k=>g<=k/\k<w4.heap.size) w4 nv' nj/\St w w4 from⟨nd4.mono fun k hk=>⟨by have:=(uh HFW).size;have:=f03.size;omega,hk.2⟩,(uh HFW).trans' f04 nE⟩)
 clear nd1 f3 f03 JC nd4 f4 f04
 go_wp2_with fail
 go_ret
 exact⟨_,rfl,uh HZ⟩
set_option maxRecDepth 100000 in
theorem y_bothL (c:Cg nu sz w0 hb sb b T0 A cb w T P tv m) (hh:Nat) (ba:Option Addr) (bc:Nat) (B:List ByteArray) (ka:Option Addr) (kc:Nat) (ks:List (Nat×Nat)) (q i:Nat) (hqi:q+1=i) (hB:Kys w ba bc B) (hK:Kds w ka kc ks) (hl:ks.length<=500) (hlen:ks.length=B.length+1) (x:ByteArray) (hx:B[q]? = some x) (u kn:Nat) (n1 nj:Nd) (hq:ks[q]? = some (fi nu+8 * u,kn)) (st1:Std nu sz (says P A) u n1) (hh1:hh=n1.high+1) (nv:Value)
  (JN:∀w1 w2 nv1,St w w1->St w1 w2->NdO (fun k=>w1.heap.size<=k/\k<w2.heap.size) w2 nv1 n1->Calls Tryz.prog 186 #[nv1,.string x,nv] w2 fun e w'=>∃nv',e = .returned nv'/\NdO (fun k=>w2.heap.size<=k/\k<w'.heap.size) w' nv' nj/\St w2 w') :
  Calls Tryz.prog 150 #[ptr cb,brV hh ba B.length bc ka ks.length kc,.int .i64 q,.int .i64 i,nv] w fun e w'=>∃nv',e = .returned nv'/\NdO (fun k=>w.heap.size<=k/\k<w'.heap.size) w' nv' nj/\St w w':=by
 have hiB:q<B.length:=(List.getElem?_eq_some_iff.1 hx).1
 have KD:∀w1,St w w1->Calls Tryz.prog 53 #[brV hh ba B.length bc ka ks.length kc,ptr sb,.int .i64 (q:Nat)] w1 _:=fun w1 f1=>b_kid (c.still f1).hp hh ba B.length bc ka kc ks q u n1 (hK.still f1) (by omega) kn hq st1 hh1
 obtain⟨bb,bo,eb,cx⟩:=hB.cells q (.string x) (by rw[List.getElem?_map,hx];rfl)
 obtain⟨W,hW⟩:∃W,w.alloc (.cells #[.int .i64 hh,.slice ba B.length bc,.slice ka ks.length kc] 96)=W:=⟨_,rfl⟩
 have fW:St w W:=hW▸(Fr.refl _ w).alloc _
 have oW:W.heap[w.heap.size]? = some (.cells #[.int .i64 hh,.slice ba B.length bc,.slice ka ks.length kc] 96 (0,0)):=hW▸heap_alloc_new w _
 have hlt:((q:Int)<B.length)=True:=by simp;omega
 have HS:=@Hd _ (fun(w':World) (f:St W w')=>show w'.cell? ⟨w.heap.size,0,none⟩=some (.int .i64 hh)/\w'.cell? ⟨w.heap.size,1,none⟩=some (.slice ba B.length bc)/\w'.cell? ⟨w.heap.size,2,none⟩=some (.slice ka ks.length kc)/\w'.cell? ⟨cb,0,none⟩=some (ptr sb)/\w'.cell? ⟨bb,bo+q,none⟩=some (.string x) from⟨cOo (f.obj oW id) 0,cOo (f.obj oW id) 1,cOo (f.obj oW id) 2,cOo ((c.still fW).still f).ob 0,f.cell' (fW.cell' cx id) id⟩)
 have HKD:=@Hd _ KD;have HJN:=@Hd _ JN;have HW:=Hd hW;have HFW:=Hd fW
 subst eb
 have i5:q<=500:=by omega
 have hie:((q:Int) == (i:Int))=false:=by simp;omega
 clear KD JN hW fW oW c hB hK hl hlen hx hq st1 hh1 cx hiB hqi
 generalize B.length=nb at *
 generalize ks.length=nk at *
 generalize hg:w.heap.size=g at *
 go_enter Tryz.func150,Tryz.ntmps150
 go_wp2_with fail
 rw[uh HW]
 have fD:St W W.drew:=(Fr.refl _ W).drewN 1
 refine wp_region_held_drew (S:=fun w'=>w'.cell? ⟨g,0,none⟩=some (.int .i64 hh)/\w'.cell? ⟨g,1,none⟩=some (.slice (some ⟨bb,bo,none⟩) nb bc)/\w'.cell? ⟨g,2,none⟩=some (.slice ka nk kc)/\w'.cell? ⟨cb,0,none⟩=some (ptr sb)/\w'.cell? ⟨bb,bo+q,none⟩=some (.string x)) (by kernel_rfl) (uh HS _ fD) (fun hHeld=>?_)
 clear hHeld
 have hHeld:=uh HS _ fD
 refine tkO 0 (.agg #[.int .i64 (hh:Nat),.slice (some ⟨bb,bo,none⟩) nb bc,.slice ka nk kc]) hHeld rfl ?_ ?_
 ·rintro w ⟨x0,x1,x2,x3,x4⟩;go_simp;try with_reducible rfl
 simp only[apt,List.set]
 refine tkO 1 ?_ hHeld rfl ?_ ?_
 rotate_left
 ·intro w q;go_simp;try with_reducible rfl
 simp only[apt,List.set]
 refine tkO 2 ?_ hHeld rfl ?_ ?_
 rotate_left
 ·intro w q;go_simp;try with_reducible rfl
 simp only[apt,List.set]
 refine tkO 3 ?_ hHeld rfl ?_ ?_
 rotate_left
 ·intro w q;go_simp;try with_reducible rfl
 simp only[apt,List.set]
 refine tkO 4 (ptr sb) hHeld rfl ?_ ?_
 ·rintro w ⟨x0,x1,x2,x3,x4⟩;go_simp;try with_reducible rfl
 simp only[apt,List.set]
 refine tkO 5 ?_ hHeld rfl ?_ ?_
 rotate_left
 ·intro w q;go_simp;try with_reducible rfl
 simp only[apt,List.set]
 refine tkO 7 ?_ hHeld rfl ?_ ?_
 rotate_left
 ·intro w q;go_simp;try with_reducible rfl
 simp only[apt,List.set]
 refine tkO 8 (.slice (some ⟨bb,bo,none⟩) nb bc) hHeld rfl ?_ ?_
 ·rintro w ⟨x0,x1,x2,x3,x4⟩;go_simp;try with_reducible rfl
 simp only[apt,List.set]
 refine tkO 9 ?_ hHeld rfl ?_ ?_
 rotate_left
 ·intro w q;go_simp;try with_reducible rfl
 simp only[apt,List.set]
 refine tkO 10 ?_ hHeld rfl ?_ ?_
 rotate_left
 ·intro w q;go_simp;try with_reducible rfl
 simp only[apt,List.set]
 refine tkO 11 (.string x) hHeld rfl ?_ ?_
 ·rintro w ⟨x0,x1,x2,x3,x4⟩;go_simp;try with_reducible rfl
 simp only[apt,List.set]
 refine tkO 12 ?_ hHeld rfl ?_ ?_
 rotate_left
 ·intro w q;go_simp;try with_reducible rfl
 simp only[apt,List.set]
 refine rdO 6 rfl (fun K hK=>?_)
 go_simp
 go_wp2_with fail
 have fwD:St w W.drew:=(uh HFW).trans' fD nE
 refine(uh HKD _ fwD).mono ?_
 rintro e w3 ⟨nv1,rfl,nd1,f3⟩
 have f03:St W w3:=fD.trans' f3 nE
 refine hK.out _ _ (uh HS _ f03) (fun _=>?_)
 clear hK K hHeld
 have JC:=uh HJN _ w3 nv1 fwD f3 nd1
 refine rdO 13 rfl (fun K hK=>?_)
 go_simp
 go_wp2_with fail
 refine JC.mono ?_
 rintro e w4 ⟨nv',rfl,nd4,f4⟩
 have f04:St W w4:=f03.trans' f4 nE
 refine hK.out _ _ (uh HS _ f04) (fun _=>?_)
 clear hK K
 refine rdO 14 rfl (fun K hK=>?_)
 go_simp
 refine hK.out _ _ (uh HS _ f04) (fun _=>?_)
 clear hK K
 refine wpAnyH_done (by kernel_rfl) ?_ _
 have HZ:=Hd (show NdO (fun k=>g<=k/\k<w4.heap.size) w4 nv' nj/\St w w4 from⟨nd4.mono fun k hk=>⟨by have:=(uh HFW).size;have:=f03.size;omega,hk.2⟩,(uh HFW).trans' f04 nE⟩)
 clear nd1 f3 f03 JC nd4 f4 f04
 go_wp2_with fail
 go_ret
 exact⟨_,rfl,uh HZ⟩
end
end

section
def delP (l:List Pr) (x:ByteArray):List Pr:=l.filter fun p=>decide (p.1≠x)
theorem delP_app (x:ByteArray) (l m:List Pr):delP (l ++ m) x=delP l x ++ delP m x:=List.filter_append ..
theorem delP_none {x:ByteArray} {l:List Pr} (h:∀p∈l,p.1≠x):delP l x=l:=List.filter_eq_self.2 fun p hp=>by simp[h p hp]
theorem delP_sub (x:ByteArray) (l:List Pr):(delP l x).Sublist l:=List.filter_sublist
theorem delP_way {B:List ByteArray} {x:ByteArray} {i:Nat} {M:List (List Pr)} (w:Way B x i) (h:Sep B M):delP M.flatten x=(M.take i).flatten ++ (delP (M.getD i []) x ++ (M.drop (i+1)).flatten):=by
 have hl:=h.len
 have hle:=w.le
 have hs:=getD_split M [] i (by omega)
 have e:M.flatten=(M.take i).flatten ++ (M.getD i [] ++ (M.drop (i+1)).flatten):=by
  rw[<-List.flatten_cons,<-List.flatten_append,<-hs]
 rw[e,delP_app,delP_app,delP_none (fun p hp=>ltK_ne (w.ahead h p hp)),delP_none (fun p hp=>(ltK_ne (w.behind h p hp)).symm)]
theorem delP_fst {x:ByteArray} {l:List Pr} {k:Nat} (ri:Rise l) (_f:Fst (l.map (·.1)) x k) (hk:k<l.length) (he:(l.getD k default).1=x):l.take k ++ l.drop (k+1)=delP l x:=by
 have hs:=getD_split l default k hk
 have h2:Rise (l.take k ++ l.getD k default :: l.drop (k+1)):=by rw[<-hs];exact ri
 obtain⟨_,h3,h4⟩:=List.pairwise_append.1 h2
 obtain⟨h5,_⟩:=List.pairwise_cons.1 h3
 conv=>rhs;rw[hs]
 rw[delP_app,delP_none (l:=l.take k) (fun p hp=>by rw[<-he];exact ltK_ne (h4 p hp _ (List.mem_cons_self ..)))]
 congr 1
 unfold delP
 rw[List.filter_cons_of_neg (by rw[he];simp)]
 exact(delP_none fun p hp=>by rw[<-he];exact(ltK_ne (h5 p hp)).symm).symm
theorem delP_len {x:ByteArray} {l:List Pr} {v:Nat} (ri:Rise l) (h:(x,v)∈l):(delP l x).length+1=l.length:=by
 obtain⟨k,hk,e⟩:=List.getElem_of_mem h
 have hs:l=l.take k ++ (x,v) :: l.drop (k+1):=by rw[<-e,List.getElem_cons_drop,List.take_append_drop]
 have h2:Rise (l.take k ++ (x,v) :: l.drop (k+1)):=by rw[<-hs];exact ri
 obtain⟨_,h3,h4⟩:=List.pairwise_append.1 h2
 obtain⟨h5,_⟩:=List.pairwise_cons.1 h3
 have e2:delP l x=l.take k ++ l.drop (k+1):=by
  conv=>lhs;rw[hs]
  rw[delP_app,delP_none (l:=l.take k) (fun p hp=>ltK_ne (h4 p hp _ (List.mem_cons_self ..)))]
  congr 1
  unfold delP
  rw[List.filter_cons_of_neg (by simp)]
  exact delP_none fun p hp=>(ltK_ne (h5 p hp)).symm
 rw[e2,List.length_append,List.length_take,List.length_drop]
 omega
theorem sep_replaceG {B:List ByteArray} {i j:Nat} {M:List (List Pr)} {B':List ByteArray} {M':List (List Pr)} (h:Sep B M) (hij:i<j) (hj:j<=M.length) (h':Sep B' M') (hm:∀p∈M'.flatten,p∈((M.take j).drop i).flatten):Sep (B.take i ++ (B' ++ B.drop (j - 1))) (M.take i ++ (M' ++ M.drop j)):=by
 have hl:=h.len
 have hR:Sep (B' ++ B.drop (j - 1)) (M' ++ M.drop j):=by
  by_cases h0:j - 1<B.length
  ·have h2:=h
   rw[getD_split B default (j - 1) h0,<-List.take_append_drop j M] at h2
   obtain⟨_,s2,s3,s4⟩:=sep_split (by simp;omega) h2
   rw[show j - 1+1=j by omega] at s2
   rw[show B.drop (j - 1)=B.getD (j - 1) default :: B.drop j by
    have:B.getD (j - 1) default=B[j - 1]:=by simp[List.getD,List.getElem?_eq_getElem h0]
    rw[this,<-List.getElem_cons_drop h0,show j - 1+1=j by omega]]
   refine sep_join s2 s4 h' fun p hp=>s3 p ?_
   have:=hm p hp
   obtain⟨m,h1,h2⟩:=List.mem_flatten.1 this
   exact List.mem_flatten.2 ⟨m,List.mem_of_mem_drop h1,h2⟩
  ·rw[List.drop_eq_nil_of_le (by omega),List.drop_eq_nil_of_le (by omega),List.append_nil,List.append_nil]
   exact h'
 by_cases h0:i=0
 ·subst h0
  simpa using hR
 ·have h2:=h
  rw[getD_split B default (i - 1) (by omega),<-List.take_append_drop i M] at h2
  obtain⟨s1,_,s3,s4⟩:=sep_split (by simp;omega) h2
  have e1:B.take i=B.take (i - 1) ++ [B.getD (i - 1) default]:=by
   have:B.getD (i - 1) default=B[i - 1]:=by simp[List.getD,List.getElem?_eq_getElem (show i - 1<B.length by omega)]
   rw[this,List.take_append_getElem,show i - 1+1=i by omega]
  rw[e1,List.append_assoc]
  refine sep_join hR (fun p hp=>?_) s1 s3
  rw[List.flatten_append] at hp
  rcases List.mem_append.1 hp with hp | hp
  ·refine s4 p ?_
   obtain⟨m,h1,h2⟩:=List.mem_flatten.1 (hm p hp)
   rw[List.drop_take] at h1
   exact List.mem_flatten.2 ⟨m,List.mem_of_mem_take h1,h2⟩
  ·refine s4 p ?_
   obtain⟨m,h1,h2⟩:=List.mem_flatten.1 hp
   refine List.mem_flatten.2 ⟨m,?_,h2⟩
   rw[show j=i+(j - i) by omega,<-List.drop_drop] at h1
   exact List.mem_of_mem_drop h1
theorem sep_without {B:List ByteArray} {i:Nat} {M:List (List Pr)} (h:Sep B M) (hi:i<M.length) (h2:2<=M.length):Sep (B.take (i - 1) ++ B.drop (i - 1+1)) (M.take i ++ M.drop (i+1)):=by
 have hl:=h.len
 by_cases h0:i=0
 ·subst h0
  have e:=h
  rw[getD_split B default 0 (by omega),<-List.take_append_drop 1 M] at e
  obtain⟨_,s2,_,_⟩:=sep_split (by simp;omega) e
  simpa using s2
 ·have e:=h
  rw[getD_split B default (i - 1) (by omega),<-List.take_append_drop i M] at e
  obtain⟨s1,s2,s3,s4⟩:=sep_split (by simp;omega) e
  rw[show i - 1+1=i by omega] at s2 ⊢
  by_cases hb:i<B.length
  ·have e2:=h
   rw[getD_split B default i hb,<-List.take_append_drop (i+1) M] at e2
   obtain⟨_,t2,t3,t4⟩:=sep_split (by simp;omega) e2
   rw[show B.drop i=B.getD i default :: B.drop (i+1) by
    have:B.getD i default=B[i]:=by simp[List.getD,List.getElem?_eq_getElem hb]
    rw[this,List.getElem_cons_drop]]
   refine sep_join t2 t4 s1 fun p hp=>t3 p ?_
   obtain⟨m,h1,h2⟩:=List.mem_flatten.1 hp
   refine List.mem_flatten.2 ⟨m,?_,h2⟩
   rw[<-List.take_append_getElem (by omega)]
   exact List.mem_append_left _ h1
  ·rw[List.drop_eq_nil_of_le (show M.length<=i+1 by omega),List.drop_eq_nil_of_le (show B.length<=i by omega),List.append_nil,List.append_nil]
   exact s1
section
variable {T:Nat->List Pr->List Nat->Prop} {B B':List ByteArray} {ks ks':List (Nat×List Pr×List Nat)} {l l':List Pr} {Q Q':List Nat}
theorem flat_in {α β : Type} {g : α->List β} {L M:List α} (h:∀a∈L,a∈M) {u : β} (hu:u∈(L.map g).flatten):u∈(M.map g).flatten:=by
 obtain⟨r,hr,hu⟩:=List.mem_flatten.1 hu
 obtain⟨k,hk,rfl⟩:=List.mem_map.1 hr
 exact List.mem_flatten.2 ⟨_,List.mem_map.2 ⟨k,h k hk,rfl⟩,hu⟩
theorem For.repl {i j:Nat} (F:For T B ks l Q) (hij:i<j) (hj:j<=ks.length) (F':For T B' ks' l' Q') (hm:∀p∈l',p∈(((ks.take j).drop i).map (·.2.1)).flatten) :
  ∃Q2,For T (B.take i ++ B' ++ B.drop (j - 1)) (ks.take i ++ ks' ++ ks.drop j) (((ks.take i).map (·.2.1)).flatten ++ (l' ++ ((ks.drop j).map (·.2.1)).flatten)) Q2/\∀u∈Q2,u∈Q\/u∈Q':=by
 obtain⟨f1,f2,f3,f4,f5⟩:=F
 obtain⟨g1,g2,g3,g4,g5⟩:=F'
 refine⟨_,⟨fun k hk=>?_,?_,rfl,?_,(f5.take i).app g5 |>.app (f5.drop (j - 1))⟩,fun u hu=>?_⟩
 ·rcases List.mem_append.1 hk with hk | hk
  ·rcases List.mem_append.1 hk with hk | hk
   ·exact f1 k (List.mem_of_mem_take hk)
   ·exact g1 k hk
  ·exact f1 k (List.mem_of_mem_drop hk)
 ·rw[List.map_append,List.map_append,List.flatten_append,List.flatten_append,<-g2,List.append_assoc]
 ·rw[List.map_append,List.map_append,List.map_take,List.map_drop,List.append_assoc,List.append_assoc]
  refine sep_replaceG f4 hij (by simpa using hj) g4 (fun p hp=>?_)
  rw[<-g2] at hp
  have:=hm p hp
  rwa [List.map_drop,List.map_take] at this
 ·rw[List.map_append,List.map_append,List.flatten_append,List.flatten_append] at hu
  rcases List.mem_append.1 hu with hu | hu
  ·rcases List.mem_append.1 hu with hu | hu
   ·exact .inl (by rw[f3];exact flat_in (fun a ha=>List.mem_of_mem_take ha) hu)
   ·rw[<-g3] at hu
    exact .inr hu
  ·exact .inl (by rw[f3];exact flat_in (fun a ha=>List.mem_of_mem_drop ha) hu)
theorem For.gone {i:Nat} (F:For T B ks l Q) (hi:i<ks.length) (h2:2<=ks.length) :
  ∃Q2,For T (B.take (i - 1) ++ B.drop (i - 1+1)) (ks.take i ++ ks.drop (i+1)) (((ks.take i).map (·.2.1)).flatten ++ ((ks.drop (i+1)).map (·.2.1)).flatten) Q2/\∀u∈Q2,u∈Q:=by
 obtain⟨f1,f2,f3,f4,f5⟩:=F
 refine⟨_,⟨fun k hk=>?_,?_,rfl,?_,(f5.take _).app (f5.drop _)⟩,fun u hu=>?_⟩
 ·rcases List.mem_append.1 hk with hk | hk
  ·exact f1 k (List.mem_of_mem_take hk)
  ·exact f1 k (List.mem_of_mem_drop hk)
 ·rw[List.map_append,List.flatten_append]
 ·rw[List.map_append,List.map_take,List.map_drop]
  exact sep_without f4 (by simpa using hi) (by simpa using h2)
 ·rw[List.map_append,List.flatten_append] at hu
  rw[f3]
  rcases List.mem_append.1 hu with hu | hu
  ·exact flat_in (fun a ha=>List.mem_of_mem_take ha) hu
  ·exact flat_in (fun a ha=>List.mem_of_mem_drop ha) hu
theorem For.join {B2:List ByteArray} {ks2:List (Nat×List Pr×List Nat)} {l2:List Pr} {Q2:List Nat} {x:ByteArray} (F:For T B ks l Q) (F2:For T B2 ks2 l2 Q2) (hb:Blw l x) (hn:Nbl l2 x) (hx:1<=x.size/\x.size<=80):For T (B ++ x :: B2) (ks ++ ks2) (l ++ l2) (Q ++ Q2):=by
 obtain⟨f1,f2,f3,f4,f5⟩:=F
 obtain⟨g1,g2,g3,g4,g5⟩:=F2
 refine⟨fun k hk=>(List.mem_append.1 hk).elim (f1 k) (g1 k),?_,?_,?_,?_⟩
 ·rw[f2,g2,List.map_append,List.flatten_append]
 ·rw[f3,g3,List.map_append,List.flatten_append]
 ·rw[List.map_append]
  refine sep_join g4 ?_ f4 ?_
  ·rw[<-g2];exact hn
  ·rw[<-f2];exact hb
 ·intro k hk
  rcases List.mem_append.1 hk with hk | hk
  ·exact f5 k hk
  ·rcases List.mem_cons.1 hk with rfl | hk
   ·exact hx
   ·exact g5 k hk
end
end

section
theorem grown_size2 {B B':List ByteArray} {i n:Nat} (hB':Kok B') (hb:B'.length<=1) (h1:1<=n) (hs:hsz n (kb B)<=32):hsz (n - 1+B'.length) (kb (B.take i ++ B' ++ B.drop (i+1)))<=46:=by
 have h1:=kb_le hB'
 have h2:=kb_split B i
 have h3:=kb_split (B.drop i) 1
 rw[List.drop_drop] at h3
 rw[kb_app,kb_app]
 unfold hsz need at *
 omega
theorem without_size {B:List ByteArray} {k n:Nat} (hs:hsz n (kb B)<=32):hsz (n - 1) (kb (B.take k ++ B.drop (k+1)))<=46:=by
 have h2:=kb_split B k
 have h3:=kb_split (B.drop k) 1
 rw[List.drop_drop] at h3
 rw[kb_app]
 unfold hsz need at *
 omega
theorem join_size {B B1:List ByteArray} {x:ByteArray} {n n1:Nat} (hx:x.size<=80) (h:(n=1/\B = [])\/(n1=1/\B1 = [])) (h1:hsz n (kb B)<=32) (h2:hsz n1 (kb B1)<=32):hsz (n+n1) (kb (B ++ x :: B1))<=46:=by
 rw[kb_app]
 simp only[kb]
 rcases h with ⟨rfl,rfl⟩ | ⟨rfl,rfl⟩
 ·simp only[kb] at *
  unfold hsz need at *
  omega
 ·simp only[kb] at *
  unfold hsz need at *
  omega
theorem sep_near {B:List ByteArray} {M:List (List Pr)} {q:Nat} (h:Sep B M) (hq:q<B.length):Blw (M.getD q []) (B.getD q default)/\Nbl (M.getD (q+1) []) (B.getD q default):=by
 have hl:=h.len
 have e:=h
 rw[getD_split B default q hq,<-List.take_append_drop (q+1) M] at e
 obtain⟨_,_,s3,s4⟩:=sep_split (by simp;omega) e
 refine⟨fun p hp=>s3 p ?_,fun p hp=>s4 p ?_⟩
 ·refine List.mem_flatten.2 ⟨M.getD q [],?_,hp⟩
  have:M.getD q []=M[q]:=by simp[List.getD,List.getElem?_eq_getElem (show q<M.length by omega)]
  rw[this,<-List.take_append_getElem (by omega)]
  exact List.mem_append_right _ (List.mem_singleton.2 rfl)
 ·refine List.mem_flatten.2 ⟨M.getD (q+1) [],?_,hp⟩
  have:M.getD (q+1) []=M[q+1]:=by simp[List.getD,List.getElem?_eq_getElem (show q+1<M.length by omega)]
  rw[this,<-List.getElem_cons_drop (by omega)]
  exact List.mem_cons_self ..
section
variable {T:Nat->List Pr->List Nat->Prop} {B:List ByteArray} {ks:List (Nat×List Pr×List Nat)} {l:List Pr} {Q:List Nat}
theorem For.at {i:Nat} {kk:Nat×List Pr×List Nat} (F:For T B ks l Q) (hk:ks[i]? = some kk):l=((ks.take i).map (·.2.1)).flatten ++ (kk.2.1 ++ ((ks.drop (i+1)).map (·.2.1)).flatten):=by
 have hi:=(List.getElem?_eq_some_iff.1 hk).1
 have e:ks=ks.take i ++ kk :: ks.drop (i+1):=by
  have:=(List.getElem?_eq_some_iff.1 hk).2
  rw[<-this,List.getElem_cons_drop,List.take_append_drop]
 rw[F.2.1]
 conv=>lhs;rw[e]
 rw[List.map_append,List.flatten_append,List.map_cons,List.flatten_cons]
theorem For.at2 {q:Nat} {k1 k2:Nat×List Pr×List Nat} (F:For T B ks l Q) (h1:ks[q]? = some k1) (h2:ks[q+1]? = some k2):l=((ks.take q).map (·.2.1)).flatten ++ ((k1.2.1 ++ k2.2.1) ++ ((ks.drop (q+2)).map (·.2.1)).flatten):=by
 rw[F.at h1]
 congr 1
 have hq:=(List.getElem?_eq_some_iff.1 h2).1
 have e:ks.drop (q+1)=k2 :: ks.drop (q+2):=by
  have:=(List.getElem?_eq_some_iff.1 h2).2
  rw[<-this,List.getElem_cons_drop]
 rw[e,List.map_cons,List.flatten_cons,List.append_assoc]
theorem For.near {q:Nat} {k1 k2:Nat×List Pr×List Nat} {x:ByteArray} (F:For T B ks l Q) (h1:ks[q]? = some k1) (h2:ks[q+1]? = some k2) (hx:B[q]? = some x):Blw k1.2.1 x/\Nbl k2.2.1 x:=by
 have hq:=(List.getElem?_eq_some_iff.1 hx).1
 obtain⟨a,b⟩:=sep_near F.2.2.2.1 hq
 have e1:(ks.map (·.2.1)).getD q []=k1.2.1:=by simp[List.getD,h1]
 have e2:(ks.map (·.2.1)).getD (q+1) []=k2.2.1:=by simp[List.getD,h2]
 have e3:B.getD q default=x:=by simp[List.getD,hx]
 rw[e1,e3] at a
 rw[e2,e3] at b
 exact⟨a,b⟩
end
theorem NdO.aside {F:Nat->Prop} {w w':World} {v:Value} {hh:Nat} {B:List ByteArray} {ks:List (Nat×Nat)} {g:Nat} {a:Int} {x1 y1:Option Addr} {x2 x3 y2 y3:Nat} {ty:TypeId} {z:Nat×Nat} (h:NdO F w v (.br hh B ks)) (o:w.heap[g]? = some (.cells #[.int .i64 a,.slice x1 x2 x3,.slice y1 y2 y3] ty z)) (f:Fr (fun k=>k=g) w w') (G:Nat->Prop) (hG:∀k,F k->G k):NdO G w' v (.br hh B ks):=by
 have no:∀j u,w.cell? ⟨g,j,none⟩=some u->(∃a,u = .int .i64 a)\/∃p q r,u = .slice p q r:=fun j u hu=>by
  rw[cOo o j] at hu
  match j,hu with
  | 0,hu=>exact .inl ⟨_,(Option.some.inj hu).symm⟩
  | 1,hu=>exact .inr ⟨_,_,_,(Option.some.inj hu).symm⟩
  | 2,hu=>exact .inr ⟨_,_,_,(Option.some.inj hu).symm⟩
  | j+3,hu=>simp at hu
 obtain⟨ba,bc,ka,kc,e,h1,h2,g1,g2⟩:=h
 refine⟨ba,bc,ka,kc,e,⟨h1.len,h1.cap,h1.nil,h1.one,fun j u hu=>?_,h1.flat⟩,⟨h2.len,h2.cap,h2.nil,h2.one,fun j u hu=>?_,h2.flat⟩,fun x hx=>hG _ (g1 x hx),fun x hx=>hG _ (g2 x hx)⟩
 ·obtain⟨b,o',e',c⟩:=h1.cells j u hu
  refine⟨b,o',e',f.cell' c fun hb=>?_⟩
  have hb:b=g:=hb
  subst hb
  obtain⟨s,_,rfl⟩:=List.mem_map.1 (List.mem_of_getElem? hu)
  rcases no _ _ c with ⟨_,e⟩ | ⟨_,_,_,e⟩ <;> cases e
 ·obtain⟨b,o',e',c⟩:=h2.cells j u hu
  refine⟨b,o',e',f.cell' c fun hb=>?_⟩
  have hb:b=g:=hb
  subst hb
  -- a row of kids opens with a word that is none of these
  have hk:∃p,ks[j / 2]? = some p:=⟨_,List.getElem?_eq_getElem (by have:=(List.getElem?_eq_some_iff.1 hu).1;rw[kcl_len] at this;omega)⟩
  obtain⟨p,hp⟩:=hk
  obtain⟨c1,_⟩:=kcl_at hp
  obtain⟨b2,o2,e2,c2⟩:=h2.cells _ _ c1
  rw[e'] at e2
  cases e2
  rcases no _ _ c2 with ⟨_,e⟩ | ⟨_,_,_,e⟩ <;> cases e
end

section
def Lss (nu sz:Nat) (w0:World) (hb sb b:Nat) (T0:Tay) (A:Ab) (cb:Nat) (w:World) (T:Tay) (P:List (Int×Int)) (tv:Value) (m h hh:Nat) (l:List Pr) (w':World) (e:Ending):Prop:=
 ∃T' P' tv' k,k<=2/\Wr nu sz w0 hb sb b T0 A cb w T P tv m w' T' P' tv' k/\∃v B ks Q,e = .returned v/\NdO (Off sb b T' cb tv' w') w' (.iface 96 v) (.br hh B (ks.map (kidN nu)))/\For (Tr nu sz (says P' A) (h+1)) B ks l Q/\hsz ks.length (kb B)<=46
section
variable {nu sz:Nat} {w w' w0 w1 w2:World} {hb sb b cb m h hh:Nat} {T T0:Tay} {A:Ab} {P:List (Int×Int)} {tv:Value} {B:List ByteArray} {ks:List (Nat×List Pr×List Nat)} {l lj ln:List Pr} {Q:List Nat} {e:Ending}
theorem Rpl.lss {i j:Nat} (r:Rpl nu sz w0 hb sb b T0 A cb w T P tv m (h+1) hh B (ks.map (kidN nu)) i j lj w' e) (F:For (Tr nu sz (says P A) (h+1)) B ks l Q) (hj:j<=ks.length) (hij:j=i+1\/j=i+2) (hm:∀p∈lj,p∈(((ks.take j).drop i).map (·.2.1)).flatten) (hl:((ks.take i).map (·.2.1)).flatten ++ (lj ++ ((ks.drop j).map (·.2.1)).flatten)=ln) (hs:hsz ks.length (kb B)<=32) :
  Lss nu sz w0 hb sb b T0 A cb w T P tv m h hh ln w' e:=by
 obtain⟨T',P',tv',k,hk,wr,B',ks',Q',fo',hb',v,rfl,nd⟩:=r
 obtain⟨Q2,fo2,_⟩:=For.repl (wr.ch.fo F) (by omega) hj fo' hm
 rw[hl] at fo2
 have hks':ks'.length=B'.length+1:=by have:=fo'.2.2.2.1.len;simpa using this
 have eK:(ks.map (kidN nu)).take i ++ ks'.map (kidN nu) ++ (ks.map (kidN nu)).drop j=(ks.take i ++ ks' ++ ks.drop j).map (kidN nu):=by
  rw[List.map_append,List.map_append,List.map_take,List.map_drop]
 rw[eK] at nd
 refine⟨T',P',tv',k,hk,wr,v,_,_,Q2,rfl,nd,fo2,?_⟩
 rcases hij with rfl | rfl
 ·have eL:(ks.take i ++ ks' ++ ks.drop (i+1)).length=ks.length+B'.length:=by simp[hks'];omega
  rw[eL,Nat.add_sub_cancel]
  exact grown_size fo'.2.2.2.2 hb' hs
 ·have eL:(ks.take i ++ ks' ++ ks.drop (i+2)).length=ks.length - 1+B'.length:=by simp[hks'];omega
  rw[eL,show i+2 - 1=i+1 by omega]
  exact grown_size2 fo'.2.2.2.2 hb' (by omega) hs
theorem Lss.done {g1:Nat} (L:Lss nu sz w0 hb sb b T0 A cb w1 T P tv m h hh l w2 e) (og:Off sb b T cb tv w1 g1) (o1:w1.heap[g1]? = some (.cells #[.int .i64 0,.slice none 0 0,.slice none 0 0] 96 (0,0))) (hw:St w w1) (hg:w.heap.size<=g1) (h0:w0.heap.size<=w.heap.size) :
  ∃va nb vc ua nk uc,e = .returned (brV hh va nb vc ua nk uc)/\w2.heap[g1]? = some (.cells #[.int .i64 0,.slice none 0 0,.slice none 0 0] 96 (0,0))/\∀w3,Fr (fun k=>k=g1) w2 w3->Lss nu sz w0 hb sb b T0 A cb w T P tv m h hh l w3 (.returned (brV hh va nb vc ua nk uc)):=by
 obtain⟨T',P',tv',k,hk,wr,v,B,ks,Q,rfl,nd,fo,hs⟩:=L
 obtain⟨k1,o2⟩:=wr.kp.2 _ og
 have e2:=k1.trans o1
 have nd':=nd
 obtain⟨ba,bc,ka,kc,ev,_⟩:=nd'
 cases ev
 refine⟨ba,_,bc,ka,_,kc,rfl,e2,fun w3 f=>?_⟩
 refine⟨T',P',tv',k,hk,(wr.after hw).own f o2 hg h0,_,B,ks,Q,rfl,nd.aside e2 f _ (fun k hk=>hk.turn (f:=f)),fo,hs⟩
theorem Lss.after {w':World} (L:Lss nu sz w0 hb sb b T0 A cb w1 T P tv m h hh l w' e) (hw:St w w1):Lss nu sz w0 hb sb b T0 A cb w T P tv m h hh l w' e:=by
 obtain⟨T',P',tv',k,hk,wr,r⟩:=L
 exact⟨T',P',tv',k,hk,wr.after hw,r⟩
end
end
end Go.Proofs.YtbiopjmpdhcjgaaGreatDoor
