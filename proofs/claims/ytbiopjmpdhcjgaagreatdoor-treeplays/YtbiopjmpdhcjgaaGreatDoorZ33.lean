/- Joined: Dh Dj Dk. -/
import Derived.Test.YtbiopjmpdhcjgaaGreatDoorZ32
namespace Go.Proofs.YtbiopjmpdhcjgaaGreatDoor
open Go.RowKit
set_option maxHeartbeats 4000000

section
def jnN (n:Nd) (x:ByteArray) (k:Nd):Nd:=match n,k with
 | ⟨.inl l1⟩,⟨.inl l2⟩=>.lf (l1 ++ l2)
 | ⟨.inr (h,B,ks)⟩,⟨.inr (_,B2,ks2)⟩=>.br h (B ++ x :: B2) (ks ++ ks2)
 | n,_=>n
def Twin (n k:Nd):Prop:=(∃l1 l2,n = .lf l1/\k = .lf l2)\/∃h1 B1 k1 h2 B2 k2,n = .br h1 B1 k1/\k = .br h2 B2 k2
theorem y_join {F G:Nat->Prop} {w:World} {vA vB:Value} {nA nB:Nd} (x:ByteArray) (hA:NdO F w vA nA) (hB:NdO G w vB nB) (tw:Twin nA nB) (i1:nA.items.length<=400) (i2:nB.items.length<=400) (k1:nA.keys.length<=400) (k2:nB.keys.length<=400) :
  Calls Tryz.prog 186 #[vA,.string x,vB] w fun e w'=>∃nv,e = .returned nv/\NdO (fun k=>w.heap.size<=k/\k<w'.heap.size) w' nv (jnN nA x nB)/\St w w':=by
 rcases tw with ⟨l1,l2,rfl,rfl⟩ | ⟨h1,B1,K1,h2,B2,K2,rfl,rfl⟩
 ·obtain⟨a1,c1,rfl,L1,_⟩:=hA
  obtain⟨a2,c2,rfl,L2,_⟩:=hB
  simp only[Nd.items,List.length_map] at i1 i2
  exact y_joinL a1 a2 c1 c2 l1 l2 x w L1 L2 (by omega) (by omega)
 ·obtain⟨ba,bc,ka,kc,rfl,a1,a2,_,_⟩:=hA
  obtain⟨ba2,bc2,ka2,kc2,rfl,b1,b2,_,_⟩:=hB
  simp only[Nd.items,Nd.keys,List.length_map] at i1 i2 k1 k2
  exact y_joinB h1 h2 ba bc B1 ka kc K1 ba2 bc2 B2 ka2 kc2 K2 x w a1 a2 b1 b2 (by omega) (by omega) (by omega) (by omega)
section
variable {nu sz h:Nat} {f:Nat->Int} {nA nB:Nd} {lA lB:List Pr} {QA QB:List Nat} {x:ByteArray}
theorem Un.twin {hh:Nat} {T T':Nat->List Pr->List Nat->Prop} (a:Un nu T hh nA lA QA) (b:Un nu T' hh nB lB QB):Twin nA nB:=by
 rcases a with ⟨e,rfl,_⟩ | ⟨e,B,ks,rfl,_⟩
 ·rcases b with ⟨_,rfl,_⟩ | ⟨e2,_⟩
  ·exact .inl ⟨_,_,rfl,rfl⟩
  ·omega
 ·rcases b with ⟨e2,_⟩ | ⟨_,B2,ks2,rfl,_⟩
  ·omega
  ·exact .inr ⟨_,_,_,_,_,_,rfl,rfl⟩
theorem Un.join (a:Un nu (Tr nu sz f h) (h+1) nA lA QA) (b:Un nu (Tr nu sz f h) (h+1) nB lB QB) (hb:Blw lA x) (hn:Nbl lB x) (hx:1<=x.size/\x.size<=80):Un nu (Tr nu sz f h) (h+1) (jnN nA x nB) (lA ++ lB) (QA ++ QB)/\(jnN nA x nB).items.length=nA.items.length+nB.items.length:=by
 rcases a with ⟨e,rfl,h1,rfl⟩ | ⟨e,B,ks,rfl,F⟩
 ·rcases b with ⟨_,rfl,h2,rfl⟩ | ⟨e2,_⟩
  ·exact⟨.inl ⟨e,rfl,by simp[h1],rfl⟩,by simp[jnN,Nd.items]⟩
  ·omega
 ·rcases b with ⟨e2,_⟩ | ⟨_,B2,ks2,rfl,F2⟩
  ·omega
  ·refine⟨.inr ⟨e,_,ks ++ ks2,?_,F.join F2 hb hn hx⟩,by simp[jnN,Nd.items]⟩
   simp[jnN]
theorem Un.one (a:Un nu (Tr nu sz f h) (h+1) nA lA QA) (h1:1<=h) (hi:nA.items.length<2):nA.items.length=1/\nA.keys = []:=by
 rcases a with ⟨e,_⟩ | ⟨_,B,ks,rfl,F⟩
 ·omega
 ·have hl:=F.2.2.2.1.len
  simp only[Nd.items,Nd.keys,List.length_map] at *
  exact⟨by omega,List.length_eq_zero_iff.1 (by omega)⟩
theorem jn_size (tw:Twin nA nB) (hk:∃B ks h,nA = .br h B ks) (hx:x.size<=80) (hh:(nA.items.length=1/\nA.keys = [])\/(nB.items.length=1/\nB.keys = [])) (s1:nA.size<=32) (s2:nB.size<=32):(jnN nA x nB).size<=46:=by
 rcases tw with ⟨l1,l2,rfl,rfl⟩ | ⟨h1,B1,K1,h2,B2,K2,rfl,rfl⟩
 ·obtain⟨_,_,_,e⟩:=hk;cases e
 ·show(Nd.br h1 (B1 ++ x :: B2) (K1 ++ K2)).size<=46
  rw[br_size] at s1 s2 ⊢
  simp only[Nd.items,Nd.keys,List.length_map] at hh
  rw[List.length_append]
  exact join_size hx hh s1 s2
theorem Un.few (a:Un nu (Tr nu sz f h) (h+1) nA lA QA) (s:nA.size<=46):nA.items.length<=46/\nA.keys.length<=46:=by
 have e:nA.size=hsz nA.items.length (kb nA.keys):=rfl
 unfold hsz need at e
 rcases a with ⟨_,rfl,_⟩ | ⟨_,B,ks,rfl,F⟩
 ·simp only[Nd.items,Nd.keys,List.length_map] at *;omega
 ·have hl:=F.2.2.2.1.len
  simp only[Nd.items,Nd.keys,List.length_map] at *
  omega
end
end

section
section
variable {nu sz h:Nat} {f:Nat->Int} {n:Nd} {l:List Pr} {Q:List Nat}
theorem For.kids {B:List ByteArray} {ks:List (Nat×List Pr×List Nat)} (F:For (Tr nu sz f h) B ks l Q) (hz:sz<=40000) (hl:l.length<1000000):∀k∈ks.map (kidN nu),k.1<4294967296/\k.2<2147483648:=fun k hk=>by
 obtain⟨kk,hkk,rfl⟩:=List.mem_map.1 hk
 obtain⟨n,s⟩:=(F.1 kk hkk).std
 have h1:=s.fit
 have h2:=(F.sub hkk).1.length_le
 have h3:=n.size_pos
 exact⟨by show fi nu+8 * kk.1<_;omega,by show kk.2.1.length<_;omega⟩
theorem Un.kok (a:Un nu (Tr nu sz f h) (h+1) n l Q) (pk:Pok l):Kok n.keys:=by
 rcases a with ⟨_,rfl,_⟩ | ⟨_,B,ks,rfl,F⟩
 ·exact pk.kok
 ·exact F.2.2.2.2
theorem Un.kids (a:Un nu (Tr nu sz f h) (h+1) n l Q) (hz:sz<=40000) (hl:l.length<1000000):∀hh B ks,n = .br hh B ks->∀k∈ks,k.1<4294967296/\k.2<2147483648:=by
 rintro hh B ks rfl
 rcases a with ⟨_,e,_⟩ | ⟨_,B',ks',e,F⟩
 ·cases e
 ·cases e;exact F.kids hz hl
theorem y_sizeU {F:Nat->Prop} {w:World} {v:Value} (nd:NdO F w v n) (a:Un nu (Tr nu sz f h) (h+1) n l Q) (pk:Pok l) (hz:sz<=40000) (hl:l.length<1000000) (i1:n.items.length<=100) (i2:n.keys.length<=100) :
  Calls Tryz.prog 137 #[v] w fun e w'=>e = .returned (.int .i64 (n.size:Nat))/\St w w':=y_sizeN nd (a.kok pk) i1 i2 (a.kids hz hl)
end
section
variable {nu sz:Nat} {w w0:World} {hb sb b cb m h:Nat} {T T0:Tay} {A:Ab} {P:List (Int×Int)} {tv:Value}
theorem y_lessened (c:Cg nu sz w0 hb sb b T0 A cb w T P tv m) (s:HpS nu (says P A)) (hm:m<=90) (hP:P.length+200<=6144) (room:cnt nu (ask nu (says P A))+2<nu / 4) (low:∀u,ask nu (says P A) u<=32)
  (ba:Option Addr) (bc:Nat) (B:List ByteArray) (ka:Option Addr) (kc:Nat) (ks:List (Nat×List Pr×List Nat)) {l:List Pr} {Q:List Nat} (fo:For (Tr nu sz (says P A) (h+1)) B ks l Q) (hB:Kys w ba bc B) (hK:Kds w ka kc (ks.map (kidN nu))) (oB:∀x,ba=some x->Off sb b T cb tv w x.block) (oK:∀x,ka=some x->Off sb b T cb tv w x.block) (hs:hsz ks.length (kb B)<=32) (h2:2<=ks.length) (pk:Pok l) (ri:Rise l) (hl:l.length<900000) (h16:h+1<=16)
  (i:Nat) (kk:Nat×List Pr×List Nat) (hkk:ks[i]? = some kk) {nv:Value} {n:Nd} {l':List Pr} {Qn:List Nat} (nd:NdO (Off sb b T cb tv w) w nv n) (sub:l'.Sublist kk.2.1) (hN:(n = .lf []/\l' = []/\h=0)\/Un nu (Tr nu sz (says P A) h) (h+1) n l' Qn) (le:n.size<=46) :
  Calls Tryz.prog 102 #[ptr cb,brV (h+2) ba B.length bc ka (ks.map (kidN nu)).length kc,.int .i64 i,nv] w fun e w'=>Lss nu sz w0 hb sb b T0 A cb w T P tv m h (h+2) (((ks.take i).map (·.2.1)).flatten ++ (l' ++ ((ks.drop (i+1)).map (·.2.1)).flatten)) w' e:=by
 have hz:=c.hp.hp.geo.b.2.2.2.2.2
 have hlen:ks.length=B.length+1:=by have:=fo.2.2.2.1.len;simpa using this
 have hmk:(ks.map (kidN nu)).length=ks.length:=List.length_map _
 have hi:i<ks.length:=(List.getElem?_eq_some_iff.1 hkk).1
 have hks:ks.length<=32:=by unfold hsz need at hs;omega
 have hkm:=List.mem_of_getElem? hkk
 have subk:=(fo.sub hkm).1
 have subl:l'.Sublist l:=sub.trans subk
 have pk':=pk.sub subl
 have ri':=ri.sub subl
 have hl':=subl.length_le
 have fi1:=fo.at hkk
 -- the kid stands alone
 have RP:∀Qx,Un nu (Tr nu sz (says P A) h) (h+1) n l' Qx->(1<=h->2<=n.items.length)->∀w1,St w w1->Calls Tryz.prog 93 #[ptr cb,brV (h+2) ba B.length bc ka (ks.map (kidN nu)).length kc,.int .i64 i,.int .i64 ((i:Int)+1),nv] w1 fun e w'=>Lss nu sz w0 hb sb b T0 A cb w1 T P tv m h (h+2) (((ks.take i).map (·.2.1)).flatten ++ (l' ++ ((ks.drop (i+1)).map (·.2.1)).flatten)) w' e:=fun Qx un it w1 f1=>by
  have R:=y_replaced (c.still f1) s (nd.kept fun k hk=>hk.still f1) un (un.ok hz pk' ri' (by omega) h16 it) pk' ri' le (by omega) hm hP room low (h+2) ba bc B ka kc (ks.map (kidN nu)) (hB.still f1) (hK.still f1) (fun x hx=>((oB x hx).still f1).2) (fun x hx=>((oK x hx).still f1).2) i (i+1) (by omega) (by omega) (by omega) (by omega) (by omega) (by omega) (by omega)
  rw[show((i+1:Nat):Int)=(i:Int)+1 by omega] at R
  refine R.mono fun e w' r=>r.lss fo (by omega) (.inl rfl) (fun p hp=>?_) rfl hs
  have e:(ks.take (i+1)).drop i = [kk]:=by
   rw[List.take_add_one,hkk,List.drop_append_of_le_length (by rw[List.length_take];omega),List.drop_eq_nil_of_le (by rw[List.length_take];omega)]
   rfl
  rw[e]
  simpa using sub.subset hp
 -- with the one beside it
 have BO:∀Qx,Un nu (Tr nu sz (says P A) h) (h+1) n l' Qx->∀lam q,q=n.items.length->(q<lam->1<=h/\n.items.length<2)->∀left,(left=i\/left+1=i)->left+1<(ks.map (kidN nu)).length->∀w1,St w w1->Calls Tryz.prog 150 #[ptr cb,brV (h+2) ba B.length bc ka (ks.map (kidN nu)).length kc,.int .i64 (left:Nat),.int .i64 i,nv] w1 fun e w'=>∃nj sj,e = .returned nj/\St w1 w'/\sj<=5000/\(∀w2,St w' w2->Calls Tryz.prog 137 #[nj] w2 fun e w3=>e = .returned (.int .i64 (sj:Nat))/\St w2 w3)/\((sj<=32\/q<lam)->∀w2,St w' w2->Calls Tryz.prog 93 #[ptr cb,brV (h+2) ba B.length bc ka (ks.map (kidN nu)).length kc,.int .i64 (left:Nat),.int .i64 ((left:Int)+2),nj] w2 fun e w3=>Lss nu sz w0 hb sb b T0 A cb w2 T P tv m h (h+2) (((ks.take i).map (·.2.1)).flatten ++ (l' ++ ((ks.drop (i+1)).map (·.2.1)).flatten)) w3 e):=by
  intro Qx un lam q hq hql left hleft hlt w1 f1
  rw[hmk] at hlt
  obtain⟨k1,hk1⟩:∃k1,ks[left]? = some k1:=⟨_,List.getElem?_eq_getElem (by omega)⟩
  obtain⟨k2,hk2⟩:∃k2,ks[left+1]? = some k2:=⟨_,List.getElem?_eq_getElem (by omega)⟩
  obtain⟨x,hx⟩:∃x,B[left]? = some x:=⟨_,List.getElem?_eq_getElem (by omega)⟩
  have hxk:1<=x.size/\x.size<=80:=fo.2.2.2.2 x (List.mem_of_getElem? hx)
  obtain⟨nb1,nb2⟩:=fo.near hk1 hk2 hx
  have at2:=fo.at2 hk1 hk2
  have dr:(ks.take (left+2)).drop left = [k1,k2]:=by
   rw[show left+2=left+1+1 by omega,List.take_add_one,hk2,List.take_add_one,hk1,List.append_assoc,List.drop_append_of_le_length (by rw[List.length_take];omega),List.drop_eq_nil_of_le (by rw[List.length_take];omega)]
   rfl
  have n46:=un.few le
  -- what follows, whichever of the two it is
  have key:∀(nA nB nX:Nd) (lA lB:List Pr) (QA QB:List Nat),Un nu (Tr nu sz (says P A) h) (h+1) nA lA QA->Un nu (Tr nu sz (says P A) h) (h+1) nB lB QB->Blw lA x->Nbl lB x->(lA ++ lB).Sublist l->(∀p∈lA ++ lB,p∈k1.2.1 ++ k2.2.1)->((ks.take left).map (·.2.1)).flatten ++ ((lA ++ lB) ++ ((ks.drop (left+2)).map (·.2.1)).flatten)=((ks.take i).map (·.2.1)).flatten ++ (l' ++ ((ks.drop (i+1)).map (·.2.1)).flatten)->(nA.items.length<=46/\nA.keys.length<=46)->(nB.items.length<=46/\nB.keys.length<=46)->(q<lam->(nA.items.length<2\/nB.items.length<2)/\nA.size<=32/\nB.size<=32)->nX=jnN nA x nB->
    ∀w' njv,NdO (fun k=>w1.heap.size<=k/\k<w'.heap.size) w' njv nX->St w1 w'->∃nj sj,(Ending.returned njv) = .returned nj/\St w1 w'/\sj<=5000/\(∀w2,St w' w2->Calls Tryz.prog 137 #[nj] w2 fun e w3=>e = .returned (.int .i64 (sj:Nat))/\St w2 w3)/\((sj<=32\/q<lam)->∀w2,St w' w2->Calls Tryz.prog 93 #[ptr cb,brV (h+2) ba B.length bc ka (ks.map (kidN nu)).length kc,.int .i64 (left:Nat),.int .i64 ((left:Int)+2),nj] w2 fun e w3=>Lss nu sz w0 hb sb b T0 A cb w2 T P tv m h (h+2) (((ks.take i).map (·.2.1)).flatten ++ (l' ++ ((ks.drop (i+1)).map (·.2.1)).flatten)) w3 e):=by
   intro nA nB nX lA lB QA QB unA unB bA bB subAB hin eqL fA fB hone eX w' njv ndj f'
   subst eX
   obtain⟨unJ,itJ⟩:=unA.join unB bA bB hxk
   have pkJ:=pk.sub subAB
   have riJ:=ri.sub subAB
   have hlJ:=subAB.length_le
   have keJ:(jnN nA x nB).keys.length<=100:=by
    rcases unA.twin unB with ⟨l1,l2,rfl,rfl⟩ | ⟨h1,B1,K1,h2,B2,K2,rfl,rfl⟩
    ·simp only[jnN,Nd.keys,List.length_map,List.length_append] at *;omega
    ·simp only[jnN,Nd.keys,List.length_map,List.length_append,List.length_cons] at *;omega
   have kbJ:=kb_le (unJ.kok pkJ)
   have esz:(jnN nA x nB).size=hsz (jnN nA x nB).items.length (kb (jnN nA x nB).keys):=rfl
   have f01:St w w':=f1.trans' f' nE
   refine⟨njv,(jnN nA x nB).size,rfl,f',?_,fun w2 f2=>y_sizeU (ndj.kept (G:=fun _=>True) fun k hk=>⟨f2.block k hk.2 id,trivial⟩) unJ pkJ hz (by omega) (by omega) keJ,fun hacc w2 f2=>?_⟩
   ·unfold hsz need at esz
    omega
   ·have le46:(jnN nA x nB).size<=46:=by
     rcases hacc with h1 | h1
     ·omega
     ·obtain⟨ho,sA,sB⟩:=hone h1
      have hh1:=(hql h1).1
      refine jn_size (unA.twin unB) ?_ hxk.2 (ho.imp (fun e=>unA.one hh1 e) (fun e=>unB.one hh1 e)) sA sB
      rcases unA with ⟨e,_⟩ | ⟨_,B1,ks1,rfl,_⟩
      ·omega
      ·exact⟨_,_,_,rfl⟩
    have f02:St w w2:=f01.trans' f2 nE
    have c2:=c.still f02
    have itm:1<=h->2<=(jnN nA x nB).items.length:=fun _=>by
     have h1:1<=nA.items.length:=by
      rcases unA with ⟨_,rfl,hne,_⟩ | ⟨_,B1,ks1,rfl,F1⟩
      ·simp only[Nd.items,List.length_map];exact List.length_pos_iff.2 hne
      ·have:=F1.2.2.2.1.len;simp only[Nd.items,List.length_map] at *;omega
     have h2:1<=nB.items.length:=by
      rcases unB with ⟨_,rfl,hne,_⟩ | ⟨_,B1,ks1,rfl,F1⟩
      ·simp only[Nd.items,List.length_map];exact List.length_pos_iff.2 hne
      ·have:=F1.2.2.2.1.len;simp only[Nd.items,List.length_map] at *;omega
     omega
    have R:=y_replaced c2 s (ndj.kept fun k hk=>⟨f2.block k hk.2 id,(c.still f1).fresh hk.1 (Nat.lt_of_lt_of_le hk.2 f2.size)⟩) unJ (unJ.ok hz pkJ riJ (by omega) h16 itm) pkJ riJ le46 (by omega) hm hP room low (h+2) ba bc B ka kc (ks.map (kidN nu)) (hB.still f02) (hK.still f02) (fun x hx=>((oB x hx).still f02).2) (fun x hx=>((oK x hx).still f02).2) left (left+2) (by omega) (by omega) (by omega) (by omega) (by omega) (by omega) (by omega)
    rw[show((left+2:Nat):Int)=(left:Int)+2 by omega] at R
    refine R.mono fun e w' r=>r.lss fo (by omega) (.inr rfl) (fun p hp=>?_) eqL hs
    rw[dr]
    simpa using hin p hp
  rcases hleft with rfl | rfl
  ·have e1:k1=kk:=by rw[hkk] at hk1;exact(Option.some.inj hk1).symm
   subst e1
   have hkm2:=List.mem_of_getElem? hk2
   obtain⟨n1,Q1,st1,un1,_⟩:=fo.1 k2 hkm2
   have hq2:(ks.map (kidN nu))[left+1]? = some (fi nu+8 * k2.1,k2.2.1.length):=by rw[List.getElem?_map,hk2];rfl
   have hh1:h+2=n1.high+1:=by
    rcases un1 with ⟨e,rfl,_⟩ | ⟨_,B1,ks1,rfl,_⟩
    ·show h+2=1+1;omega
    ·rfl
   have n146:=un1.few (by have:=st1.le;omega)
   refine(y_bothR (c.still f1) (h+2) ba bc B ka kc (ks.map (kidN nu)) left (hB.still f1) (hK.still f1) (by omega) (by omega) x hx k2.1 k2.2.1.length n1 (jnN n x n1) hq2 st1 hh1 nv (fun w2 w3 nv1 f2 f3 nd1=>y_join x (nd.kept (G:=fun _=>True) fun k hk=>⟨((hk.still (f1.trans' f2 nE)).2.still f3).1.trans (hk.still (f1.trans' f2 nE)).1,trivial⟩) nd1 (un.twin un1) (by omega) (by omega) (by omega) (by omega))).mono ?_
   rintro e w' ⟨njv,rfl,ndj,f'⟩
   exact key n n1 _ l' k2.2.1 Qx Q1 un un1 (fun p hp=>nb1 p (sub.subset hp)) nb2 ((List.Sublist.append sub (List.Sublist.refl _)).trans (by rw[at2];exact(List.sublist_append_left _ _).trans (List.sublist_append_right _ _))) (fun p hp=>by
    rcases List.mem_append.1 hp with hp | hp
    ·exact List.mem_append_left _ (sub.subset hp)
    ·exact List.mem_append_right _ hp) (by
    congr 1
    rw[List.append_assoc]
    congr 1
    have e:ks.drop (left+1)=k2 :: ks.drop (left+2):=by
     have:=(List.getElem?_eq_some_iff.1 hk2).2
     rw[<-this,List.getElem_cons_drop]
    rw[e,List.map_cons,List.flatten_cons]) n46 n146 (fun hh=>⟨.inl (hql hh).2,by
     obtain⟨e1,e2⟩:=un.one (hql hh).1 (hql hh).2
     have:n.size=hsz n.items.length (kb n.keys):=rfl
     rw[this,e1,e2];decide,st1.le⟩) rfl w' njv ndj f'
  ·have e1:k2=kk:=by rw[hkk] at hk2;exact(Option.some.inj hk2).symm
   subst e1
   have hkm1:=List.mem_of_getElem? hk1
   obtain⟨n1,Q1,st1,un1,_⟩:=fo.1 k1 hkm1
   have hq2:(ks.map (kidN nu))[left]? = some (fi nu+8 * k1.1,k1.2.1.length):=by rw[List.getElem?_map,hk1];rfl
   have hh1:h+2=n1.high+1:=by
    rcases un1 with ⟨e,rfl,_⟩ | ⟨_,B1,ks1,rfl,_⟩
    ·show h+2=1+1;omega
    ·rfl
   have n146:=un1.few (by have:=st1.le;omega)
   refine(y_bothL (c.still f1) (h+2) ba bc B ka kc (ks.map (kidN nu)) left (left+1) rfl (hB.still f1) (hK.still f1) (by omega) (by omega) x hx k1.1 k1.2.1.length n1 (jnN n1 x n) hq2 st1 hh1 nv (fun w2 w3 nv1 f2 f3 nd1=>y_join x nd1 (nd.kept (G:=fun _=>True) fun k hk=>⟨((hk.still (f1.trans' f2 nE)).2.still f3).1.trans (hk.still (f1.trans' f2 nE)).1,trivial⟩) (un1.twin un) (by omega) (by omega) (by omega) (by omega))).mono ?_
   rintro e w' ⟨njv,rfl,ndj,f'⟩
   exact key n1 n _ k1.2.1 l' Q1 Qx un1 un nb1 (fun p hp=>nb2 p (sub.subset hp)) ((List.Sublist.append (List.Sublist.refl _) sub).trans (by rw[at2];exact(List.sublist_append_left _ _).trans (List.sublist_append_right _ _))) (fun p hp=>by
    rcases List.mem_append.1 hp with hp | hp
    ·exact List.mem_append_left _ hp
    ·exact List.mem_append_right _ (sub.subset hp)) (by
    rw[List.take_add_one,hk1]
    simp[List.append_assoc]) n146 n46 (fun hh=>⟨.inr (hql hh).2,st1.le,by
     obtain⟨e1,e2⟩:=un.one (hql hh).1 (hql hh).2
     have:n.size=hsz n.items.length (kb n.keys):=rfl
     rw[this,e1,e2];decide⟩) rfl w' njv ndj f'
 have ki:∀n' lx Qx,Un nu (Tr nu sz (says P A) h) (h+1) n' lx Qx->1<=n'.items.length:=fun n' lx Qx un=>by
  rcases un with ⟨_,rfl,hne,_⟩ | ⟨_,B1,ks1,rfl,F1⟩
  ·simp only[Nd.items,List.length_map];exact List.length_pos_iff.2 hne
  ·have:=F1.2.2.2.1.len;simp only[Nd.items,List.length_map] at *;omega
 have hil:((ks.map (kidN nu)).length:Nat)=ks.length:=hmk
 cases n using Nd.cs with
 | lf ll=>
  obtain⟨a,cc,rfl,hL,hF⟩:=nd
  have ell:ll=l'/\h=0:=by
   rcases hN with ⟨e,e2,e3⟩ | hU
   ·cases e;exact⟨e2.symm,e3⟩
   ·rcases hU with ⟨e,e2,_⟩ | ⟨_,_,_,e2,_⟩
    ·cases e2;exact⟨rfl,by omega⟩
    ·cases e2
  obtain⟨rfl,rfl⟩:=ell
  have hl46:ll.length<=46:=by rw[lf_size] at le;unfold hsz need at le;omega
  have hUn:ll.length≠0->Un nu (Tr nu sz (says P A) 0) (0+1) (.lf ll) ll []:=fun hne=>.inl ⟨rfl,rfl,fun e=>hne (by rw[e];rfl),rfl⟩
  refine y_lessL c 2 ba B.length bc ka (ks.map (kidN nu)).length kc i (.slice a ll.length cc) ll.length 1 (Nd.lf ll).size _ (by omega) (by omega) (by omega) (by omega) (by omega) (fun w1 f1=>?_) (fun w1=>?_) (fun w1 f1=>?_) (fun hq0 w1 f1=>?_) (fun h1 hq w1 f1=>?_) (fun h16=>?_) (fun left hleft hlt hq w1 f1=>?_)
  ·refine(l_items a cc ll w1 (hL.still f1) (by omega)).mono ?_
   rintro e w' ⟨v,rfl,row,f⟩
   obtain⟨va,vc,rfl⟩:=rowZ row
   exact⟨va,vc,rfl,f⟩
  ·refine(l_least a ll.length cc w1).mono ?_
   rintro e w' ⟨rfl,rfl⟩
   exact⟨rfl,Fr.refl _ _⟩
  ·refine y_sizeN (F:=fun _=>True) (n:=.lf ll) ⟨a,cc,rfl,hL.still f1,fun _ _=>trivial⟩ (pk'.kok) (by simp[Nd.items];omega) (by simp[Nd.keys];omega) (fun _ _ _ e=>by cases e)
  ·have e0:ll = []:=List.length_eq_zero_iff.1 hq0
   obtain⟨Q2,fo2,_⟩:=fo.gone hi h2
   have eK:(ks.map (kidN nu)).take i ++ (ks.map (kidN nu)).drop (i+1)=(ks.take i ++ ks.drop (i+1)).map (kidN nu):=by
    rw[List.map_append,List.map_take,List.map_drop]
   refine(b_without 2 ba bc B ka kc (ks.map (kidN nu)) i w1 (hB.still f1) (hK.still f1) (by omega) (by omega) (by omega) (by omega)).mono ?_
   rintro e w' ⟨va,vc,ua,uc,rfl,hva,hua,bva,bua,f⟩
   rw[eK] at hua ⊢
   refine⟨T,P,tv,0,by omega,(Wr.base w' (c.still f1) s f),_,_,_,Q2,rfl,⟨va,vc,ua,uc,rfl,hva,hua,fun y hy=>(c.still f1).fresh (bva y hy).1 (bva y hy).2,fun y hy=>(c.still f1).fresh (bua y hy).1 (bua y hy).2⟩,?_,?_⟩
   ·rw[e0,List.nil_append];exact fo2
   ·have eL:(ks.take i ++ ks.drop (i+1)).length=ks.length - 1:=by simp;omega
    rw[eL]
    exact without_size hs
  ·exact RP [] (hUn hq) (fun e=>by omega) w1 f1
  ·refine Nat.pos_of_ne_zero fun e0=>?_
   have:ll = []:=List.length_eq_zero_iff.1 e0
   rw[this] at h16
   exact absurd h16 (by decide)
  ·exact BO [] (hUn hq) 1 ll.length (by simp[Nd.items]) (fun e=>by omega) left hleft hlt w1 f1
 | br hb' B' ks'=>
  obtain⟨ba',bc',ka',kc',rfl,hB',hK',oB',oK'⟩:=nd
  rcases hN with ⟨e,_⟩ | hU
  ·cases e
  have hfew:=hU.few le
  have hki:=ki _ _ _ hU
  have hkids:=hU.kids hz (by omega) _ _ _ rfl
  have hh1:1<=h:=by
   rcases hU with ⟨_,e,_⟩ | ⟨e,_⟩
   ·cases e
   ·omega
  have hit:(Nd.br hb' B' ks').items.length=ks'.length:=by simp[Nd.items]
  rw[hit] at hfew hki
  refine y_lessB c (h+2) ba B.length bc ka (ks.map (kidN nu)).length kc i (brV hb' ba' B'.length bc' ka' ks'.length kc') ks'.length 2 (Nd.br hb' B' ks').size _ (by omega) (by omega) (by omega) (by omega) (by omega) (fun w1 f1=>?_) (fun w1=>?_) (fun w1 f1=>?_) (fun hq0 w1 f1=>by omega) (fun h1 hq w1 f1=>?_) (fun h16=>?_) (fun left hleft hlt hq w1 f1=>?_)
  ·refine(b_items hb' ba' B'.length bc' ka' kc' ks' w1 (hK'.still f1) (by omega) hkids).mono ?_
   rintro e w' ⟨v,rfl,row,f⟩
   obtain⟨va,vc,rfl⟩:=rowZ row
   exact⟨va,vc,rfl,f⟩
  ·exact b_least hb' ba' B'.length bc' ka' ks'.length kc' w1
  ·exact y_sizeU (F:=fun _=>True) (n:=.br hb' B' ks') ⟨ba',bc',ka',kc',rfl,hB'.still f1,hK'.still f1,fun _ _=>trivial,fun _ _=>trivial⟩ hU pk' hz (by omega) (by rw[hit];omega) (by omega)
  ·exact RP Qn hU (fun _=>by rw[hit];exact h1) w1 f1
  ·refine Nat.le_of_not_lt fun e=>?_
   obtain⟨e1,e2⟩:=hU.one hh1 (by rw[hit];exact e)
   have:(Nd.br hb' B' ks').size=hsz (Nd.br hb' B' ks').items.length (kb (Nd.br hb' B' ks').keys):=rfl
   rw[this,e1,e2] at h16
   exact absurd h16 (by decide)
  ·exact BO Qn hU 2 ks'.length hit.symm (fun e=>⟨hh1,by rw[hit];exact e⟩) left hleft hlt w1 f1
end
end

section
theorem kb_sub:∀{K L:List ByteArray},K.Sublist L->kb K<=kb L
 | _,_,.slnil=>Nat.le_refl _
 | _,_,.cons a s=>by have:=kb_sub s;simp only[kb];omega
 | _,_,.cons_cons a s=>by have:=kb_sub s;simp only[kb];omega
theorem delP_size (l:List Pr) (x:ByteArray):(Nd.lf (delP l x)).size<=(Nd.lf l).size:=by
 have h1:=kb_sub ((delP_sub x l).map (·.1))
 have h2:=(delP_sub x l).length_le
 rw[lf_size,lf_size]
 unfold hsz need
 omega
theorem way_in {B:List ByteArray} {x:ByteArray} {i v:Nat} {M:List (List Pr)} (w:Way B x i) (h:Sep B M) (hm:(x,v)∈M.flatten):(x,v)∈M.getD i []:=by
 have hl:=h.len
 have hle:=w.le
 have hs:=getD_split M [] i (by omega)
 have e:M.flatten=(M.take i).flatten ++ (M.getD i [] ++ (M.drop (i+1)).flatten):=by
  rw[<-List.flatten_cons,<-List.flatten_append,<-hs]
 rw[e] at hm
 rcases List.mem_append.1 hm with hm | hm
 ·exact absurd (w.ahead h _ hm) (ltK_irr x)
 ·rcases List.mem_append.1 hm with hm | hm
  ·exact hm
  ·exact absurd (w.behind h _ hm) (ltK_irr x)
section
variable {nu sz:Nat} {w w' w0:World} {hb sb b cb m:Nat} {T T0:Tay} {A:Ab} {P:List (Int×Int)} {tv:Value}
set_option maxRecDepth 100000 in
theorem y_del_leaf (cv:Value) (a:Option Addr) (c:Nat) (l:List Pr) (x:ByteArray) (v:Nat) (w:World) (hL:Lf w a c l) (ri:Rise l) (hl:l.length<=100) (hin:(x,v)∈l) :
  Calls Tryz.prog 57 #[cv,.iface 100 (.slice a l.length c),.string x] w fun e w'=>∃nv,e = .returned nv/\NdO (fun k=>w.heap.size<=k/\k<w'.heap.size) w' nv (.lf (delP l x))/\St w w':=by
 obtain⟨k,f⟩:=fst_of x (l.map (·.1)) ri.keys
 have hkl:k<=l.length:=by have:=f.le;simpa using this
 have hke:k<l.length/\(l.getD k default).1=x:=by
  have g:=getP_fst ri f
  by_cases hc:k<l.length/\(l.getD k default).1=x
  ·exact hc
  ·rw[if_neg hc] at g
   exfalso
   obtain⟨j,hj,e⟩:=List.getElem_of_mem hin
   have hlt:∀t,t<k->ltK (l.getD t default).1 x:=fun t ht=>by rw[<-keys_getD l t (by omega)];exact f.lo t ht
   have hge:∀t,k<=t->t<l.length->¬ltK (l.getD t default).1 x:=fun t h1 h2=>by rw[<-keys_getD l t h2];exact f.hi t h1 (by simpa using h2)
   have ej:l.getD j default=(x,v):=by simp[List.getD,List.getElem?_eq_getElem hj,e]
   have hkj:k<=j:=Nat.le_of_not_lt fun h=>by have:=hlt j h;rw[ej] at this;exact ltK_irr x this
   have hk2:k<l.length:=by omega
   have hne:(l.getD k default).1≠x:=fun e=>hc ⟨hk2,e⟩
   have h3:¬ltK (l.getD k default).1 x:=hge k (Nat.le_refl _) hk2
   have hne2:k≠j:=fun e=>by rw[e,ej] at hne;exact hne rfl
   have hp:=List.pairwise_iff_getElem.1 ri k j hk2 hj (by omega)
   rw[e] at hp
   have:l.getD k default=l[k]:=by simp[List.getD,List.getElem?_eq_getElem hk2]
   rw[this] at h3
   exact h3 hp
 have WI:∀w1,St w w1->Calls Tryz.prog 101 #[.slice a l.length c,.string x] w1 _:=fun w1 f1=>l_without a c l x k w1 (hL.still f1) (by omega) hke.1 (fun t ht=>by rw[<-keys_getD l t (by omega)];exact f.lo t ht) (fun t h1 h2=>by rw[<-keys_getD l t h2];exact f.hi t h1 (by simpa using h2)) hke.2
 rw[delP_fst ri f hke.1 hke.2] at WI
 have HW:=@Hd _ WI
 clear WI hL f hke hin
 generalize l.length=n at *
 generalize delP l x=pl at *
 obtain⟨W,hW⟩:∃W,w.alloc (.cells #[.int .i64 0,.slice none 0 0,.slice none 0 0] 96)=W:=⟨_,rfl⟩
 have fW:St w W:=hW▸(Fr.refl _ w).alloc _
 have HA:=Hd hW
 clear hW
 have t1:=fun w=>taB_leaf (.slice a n c) w
 have t2:=fun w=>taL_leaf (.slice a n c) w
 go_enter Tryz.func57,Tryz.ntmps57
 go_wp2_with fail
 rw[uh HA]
 refine(uh HW W fW).mono ?_
 rintro e w2 ⟨u,rfl,hu,f2⟩
 clear HW HA t1 t2
 obtain⟨ua,uc,rfl⟩:=rowZ hu
 have HU:=Hd hu
 clear hu
 go_wp2_with fail
 go_ret
 have hu:=uh HU
 have ob:=own_block hu
 exact⟨_,rfl,⟨ua,uc,rfl,sl_of_row hu pcl_one,fun y hy=>⟨Nat.le_trans fW.size (ob y hy).1,(ob y hy).2⟩⟩,fW.trans' f2 nE⟩
def Dtd (nu sz:Nat) (w0:World) (hb sb b:Nat) (T0:Tay) (A:Ab) (cb:Nat) (w:World) (T:Tay) (P:List (Int×Int)) (tv:Value) (m h:Nat) (l:List Pr) (w':World) (e:Ending):Prop:=
 ∃T' P' tv' k,k<=2 * h/\Wr nu sz w0 hb sb b T0 A cb w T P tv m w' T' P' tv' k/\∃nv n Q,e = .returned nv/\NdO (Off sb b T' cb tv' w') w' nv n/\((n = .lf []/\l = []/\h=0)\/Un nu (Tr nu sz (says P' A) h) (h+1) n l Q)/\n.size<=46
set_option maxRecDepth 100000 in
theorem y_del (x:ByteArray) (v:Nat):∀(h:Nat) {w:World} {T:Tay} {P:List (Int×Int)} {tv:Value} {m:Nat} {nv:Value} {n:Nd} {l:List Pr} {Q:List Nat},Cg nu sz w0 hb sb b T0 A cb w T P tv m->HpS nu (says P A)->NdO (Off sb b T cb tv w) w nv n->Un nu (Tr nu sz (says P A) h) (h+1) n l Q->n.Ok->n.size<=32->Pok l->Rise l->l.length<900000->m+2 * h<=90->P.length+160 * h+200<=6144->cnt nu (ask nu (says P A))+2 * h+2<nu / 4->(∀u,ask nu (says P A) u<=32)->(x,v)∈l->
  Calls Tryz.prog 57 #[ptr cb,nv,.string x] w fun e w'=>Dtd nu sz w0 hb sb b T0 A cb w T P tv m h (delP l x) w' e:=by
 intro h
 induction h with
 | zero=>
  intro w T P tv m nv n l Q c s nd un ok le pk ri hl hm hP room low hin
  rcases un with ⟨_,rfl,hne,rfl⟩ | ⟨h2,_⟩
  ·obtain⟨a,cc,rfl,hL,hF⟩:=nd
   have hl1:l.length<=100:=by rw[lf_size] at le;unfold hsz need at le;omega
   refine(y_del_leaf (ptr cb) a cc l x v w hL ri hl1 hin).mono ?_
   rintro e w' ⟨nv,rfl,nd,f⟩
   refine⟨T,P,tv,0,by omega,Wr.base w' c s f,nv,_,[],rfl,nd.mono fun k hk=>c.fresh hk.1 hk.2,?_,by have:=delP_size l x;omega⟩
   by_cases h0:delP l x = []
   ·exact .inl ⟨by rw[h0],h0,rfl⟩
   ·exact .inr (.inl ⟨rfl,rfl,h0,rfl⟩)
  ·omega
 | succ h ih=>
  intro w T P tv m nv n l Q c s nd un ok le pk ri hl hm hP room low hin
  rcases un with ⟨h1,_⟩ | ⟨h2,B,ks,rfl,fo⟩
  ·omega
  ·obtain⟨ba,bc,ka,kc,rfl,hB,hK,oB,oK⟩:=nd
   have hform:=ok.form
   have hmk:(ks.map (kidN nu)).length=ks.length:=List.length_map _
   have hlen:ks.length=B.length+1:=by have:=fo.2.2.2.1.len;simpa using this
   have hks:ks.length<=32:=by rw[br_size,hmk] at le;unfold hsz need at le;omega
   obtain⟨k,fk⟩:=fst_of x B fo.2.2.2.1.rise
   have way:=way_of fo.2.2.2.1.rise fk
   obtain⟨i,hi⟩:∃i,(if k<B.length/\B.getD k default=x then k+1 else k)=i:=⟨_,rfl⟩
   rw[hi] at way
   have TW:∀w1,St w w1->Calls Tryz.prog 54 #[brV (h+2) ba B.length bc ka (ks.map (kidN nu)).length kc,.string x] w1 fun e w'=>e = .returned (.int .i64 (i:Nat))/\St w1 w':=fun w1 f1=>by
    have:=b_towards (h+2) ba bc B ka (ks.map (kidN nu)).length kc x k w1 (hB.still f1) fk (by omega)
    rw[hi] at this
    exact this
   have hil:i<ks.length:=by have:=way.le;omega
   obtain⟨kk,hkk⟩:∃kk,ks[i]? = some kk:=⟨_,List.getElem?_eq_getElem hil⟩
   have hkm:=List.mem_of_getElem? hkk
   obtain⟨n1,Q1,st1,un1,eQ1⟩:=fo.1 kk hkm
   have sub:=fo.sub hkm
   have pk1:=pk.sub sub.1
   have ri1:=ri.sub sub.1
   have hl1:=sub.1.length_le
   have egd:(ks.map (·.2.1)).getD i []=kk.2.1:=by simp[List.getD,hkk]
   have hin1:(x,v)∈kk.2.1:=by
    have:=way_in way fo.2.2.2.1 (v:=v) (by rw[<-fo.2.1];exact hin)
    rwa [egd] at this
   have edel:((ks.take i).map (·.2.1)).flatten ++ (delP kk.2.1 x ++ ((ks.drop (i+1)).map (·.2.1)).flatten)=delP l x:=by
    rw[fo.2.1,delP_way way fo.2.2.2.1,egd,List.map_take,List.map_drop]
   have hk2:(ks.map (kidN nu))[i]? = some (fi nu+8 * kk.1,kk.2.1.length):=by rw[List.getElem?_map,hkk];rfl
   have hh1:h+2=n1.high+1:=by
    rcases un1 with ⟨e,rfl,_⟩ | ⟨_,B1,ks1,rfl,_⟩
    ·show h+2=1+1;omega
    ·rfl
   have KD:∀w1,St w w1->Calls Tryz.prog 53 #[brV (h+2) ba B.length bc ka (ks.map (kidN nu)).length kc,ptr sb,.int .i64 i] w1 _:=fun w1 f1=>b_kid (c.still f1).hp (h+2) ba B.length bc ka kc (ks.map (kidN nu)) i kk.1 n1 (hK.still f1) (by omega) kk.2.1.length hk2 st1 hh1
   have h0:=c.on.fr.size
   have h16:h+1<=16:=by have:h+1+1<=16:=ok.h16;omega
   obtain⟨W,hW⟩:∃W,w.alloc (.cells #[.int .i64 ((h+2:Nat):Int),.slice ba B.length bc,.slice ka (ks.map (kidN nu)).length kc] 96)=W:=⟨_,rfl⟩
   have fW:St w W:=hW▸(Fr.refl _ w).alloc _
   have oW:W.heap[w.heap.size]? = some (.cells #[.int .i64 ((h+2:Nat):Int),.slice ba B.length bc,.slice ka (ks.map (kidN nu)).length kc] 96 (0,0)):=hW▸heap_alloc_new w _
   have zW:w.heap.size<W.heap.size:=by rw[<-hW];simp
   have hs32:hsz ks.length (kb B)<=32:=by rw[br_size,hmk] at le;exact le
   have h2k:2<=ks.length:=by have:=hform.2.2.1;rw[hmk] at this;exact this
   -- the three calls
   have DEL:∀w1 w3 nv1,St w w1->St w1 w3->NdO (fun k=>w1.heap.size<=k/\k<w3.heap.size) w3 nv1 n1->Calls Tryz.prog 57 #[ptr cb,nv1,.string x] w3 fun e w'=>Dtd nu sz w0 hb sb b T0 A cb w3 T P tv m h (delP kk.2.1 x) w' e:=fun w1 w3 nv1 f1 f3 nd1=>
    ih ((c.still f1).still f3) s (nd1.mono fun y hy=>(c.still f1).fresh hy.1 hy.2) un1 st1.ok st1.le pk1 ri1 (by omega) (by omega) (by omega) (by omega) low hin1
   have FIN:∀w3 w4 e4,St w w3->Dtd nu sz w0 hb sb b T0 A cb w3 T P tv m h (delP kk.2.1 x) w4 e4->∃nv4,e4 = .returned nv4/\w4.cell? ⟨cb,0,none⟩=some (ptr sb)/\(∀y o u,w3.cell? ⟨y,o,none⟩=some u->Off sb b T cb tv w3 y->w4.cell? ⟨y,o,none⟩=some u)/\Calls Tryz.prog 102 #[ptr cb,brV (h+2) ba B.length bc ka (ks.map (kidN nu)).length kc,.int .i64 i,nv4] w4 fun e w'=>∃u,e = .returned u/\w'.cell? ⟨cb,0,none⟩=some (ptr sb)/\(∀y o u,w3.cell? ⟨y,o,none⟩=some u->Off sb b T cb tv w3 y->w'.cell? ⟨y,o,none⟩=some u)/\Dtd nu sz w0 hb sb b T0 A cb w T P tv m (h+1) (delP l x) w' (.returned (.iface 96 u)):=fun w3 w4 e4 f03 pt=>by
    obtain⟨T4,P4,tv4,k4,hk4,wr4,nv4,n4,Q4,rfl,nd4,un4,le4⟩:=pt
    refine⟨nv4,rfl,cOo wr4.cg.ob 0,fun y o u hc ho=>(World.cell?_of_block (a:=⟨y,o,none⟩) (wr4.kp.2 y ho).1).trans hc,?_⟩
    have few:=wr4.ch.few
    have ln:=wr4.len
    have RP:=y_lessened wr4.cg wr4.ch.st (by omega) (by omega) (by omega) (wr4.ch.low low) ba bc B ka kc ks (wr4.ch.fo fo) ((hB.still f03).same fun y hy=>(wr4.kp.2 _ ((oB y hy).still f03).2).1) ((hK.still f03).same fun y hy=>(wr4.kp.2 _ ((oK y hy).still f03).2).1) (fun y hy=>(wr4.kp.2 _ ((oB y hy).still f03).2).2) (fun y hy=>(wr4.kp.2 _ ((oK y hy).still f03).2).2) hs32 h2k pk ri hl h16 i kk hkk nd4 (delP_sub x kk.2.1) un4 le4
    refine RP.mono ?_
    rintro e w5 ⟨T5,P5,tv5,k5,hk5,wr5,u,B5,ks5,Q5,rfl,nd5,fo5,hs5⟩
    have wr:=wr4.trans wr5
    rw[edel] at fo5
    refine⟨u,rfl,cOo wr5.cg.ob 0,fun y o u hc ho=>(World.cell?_of_block (a:=⟨y,o,none⟩) (wr.kp.2 y ho).1).trans hc,?_⟩
    exact⟨T5,P5,tv5,k4+k5,by omega,wr.after f03,_,_,Q5,rfl,nd5,.inr (.inr ⟨by omega,_,_,rfl,fo5⟩),by rw[br_size,List.length_map];exact hs5⟩
   have HTW:=@Hd _ TW;have HKD:=@Hd _ KD;have HDEL:=@Hd _ DEL;have HFIN:=@Hd _ FIN
   have HC:=Hd (ai c (ai fW (ai oW zW)))
   have HW:=Hd hW
   have k0:∀w1,St w w1->w1.cell? ⟨cb,0,none⟩=some (ptr sb):=fun w1 f1=>cOo (c.still f1).ob 0
   have HK0:=@Hd _ k0
   have i5:i<=500:=by omega
   have hq5:h+2<=20:=by omega
   clear TW KD DEL FIN c fW oW zW hW k0 ih s ok le pk ri hl hm hP room low fo hB hK oB oK hform hlen hks fk way hi hil hkk hkm st1 un1 eQ1 sub pk1 ri1 hl1 hk2 hh1 h0 h16 h2 egd hin1 edel hs32 h2k hin
   clear hmk
   rw[show h+1+1=h+2 from rfl]
   generalize (ks.map (kidN nu)).length=nk at *
   generalize B.length=nb at *
   generalize h+2=hq at *
   have t1:=fun w=>taB_br (brV hq ba nb bc ka nk kc) w
   go_enter Tryz.func57,Tryz.ntmps57
   go_wp2_with fail
   rw[uh HW]
   obtain⟨c,fW,oW,zW⟩:=uh HC
   refine(uh HTW W fW).mono ?_
   clear HTW t1
   rintro e w2 ⟨rfl,f2⟩
   have fw2:St w w2:=fW.trans' f2 nE
   have o2:=f2.obj oW id
   have of2:Off sb b T cb tv w2 w.heap.size:=c.fresh (Nat.le_refl _) (Nat.lt_of_lt_of_le zW f2.size)
   have d0:w2.cell? ⟨w.heap.size,0,none⟩=some (.int .i64 (hq:Nat)):=cOo o2 0
   have d1:w2.cell? ⟨w.heap.size,1,none⟩=some (.slice ba nb bc):=cOo o2 1
   have d2:w2.cell? ⟨w.heap.size,2,none⟩=some (.slice ka nk kc):=cOo o2 2
   have d3:=uh HK0 w2 fw2
   have HF:=Hd (ai fw2 of2)
   clear c fW oW zW f2 fw2 o2 of2 HC HW HK0
   generalize hg:w.heap.size=g at *
   go_wp2_with fail
   refine wp_region_held_drew (S:=fun w'=>w'.cell? ⟨g,0,none⟩=some (.int .i64 (hq:Nat))/\w'.cell? ⟨g,1,none⟩=some (.slice ba nb bc)/\w'.cell? ⟨g,2,none⟩=some (.slice ka nk kc)/\w'.cell? ⟨cb,0,none⟩=some (ptr sb)) (by kernel_rfl) ⟨d0,d1,d2,d3⟩ (fun hHeld=>?_)
   refine tkO 0 ?_ hHeld rfl ?_ ?_
   rotate_left
   ·intro w q;go_simp;try with_reducible rfl
   simp only[apt,List.set]
   refine tkO 1 (.agg #[.int .i64 (hq:Nat),.slice ba nb bc,.slice ka nk kc]) hHeld rfl ?_ ?_
   ·rintro w ⟨x0,x1,x2,x3⟩;go_simp;try with_reducible rfl
   simp only[apt,List.set]
   refine tkO 2 ?_ hHeld rfl ?_ ?_
   rotate_left
   ·intro w q;go_simp;try with_reducible rfl
   simp only[apt,List.set]
   refine tkO 3 ?_ hHeld rfl ?_ ?_
   rotate_left
   ·intro w q;go_simp;try with_reducible rfl
   simp only[apt,List.set]
   refine tkO 4 (.agg #[.int .i64 (hq:Nat),.slice ba nb bc,.slice ka nk kc]) hHeld rfl ?_ ?_
   ·rintro w ⟨x0,x1,x2,x3⟩;go_simp;try with_reducible rfl
   simp only[apt,List.set]
   refine tkO 5 ?_ hHeld rfl ?_ ?_
   rotate_left
   ·intro w q;go_simp;try with_reducible rfl
   simp only[apt,List.set]
   refine tkO 6 ?_ hHeld rfl ?_ ?_
   rotate_left
   ·intro w q;go_simp;try with_reducible rfl
   simp only[apt,List.set]
   refine tkO 7 ?_ hHeld rfl ?_ ?_
   rotate_left
   ·intro w q;go_simp;try with_reducible rfl
   simp only[apt,List.set]
   refine tkO 8 (ptr sb) hHeld rfl ?_ ?_
   ·rintro w ⟨x0,x1,x2,x3⟩;go_simp;try with_reducible rfl
   simp only[apt,List.set]
   refine tkO 9 ?_ hHeld rfl ?_ ?_
   rotate_left
   ·intro w q;go_simp;try with_reducible rfl
   simp only[apt,List.set]
   refine tkO 11 ?_ hHeld rfl ?_ ?_
   rotate_left
   ·intro w q;go_simp;try with_reducible rfl
   simp only[apt,List.set]
   refine rdO 10 rfl (fun K hK=>?_)
   go_simp
   go_wp2_with fail
   obtain⟨fw2,of2⟩:=uh HF
   have fD2:St w2 w2.drew:=(Fr.refl _ w2).drewN 1
   have fD:St w w2.drew:=fw2.trans' fD2 nE
   refine(uh HKD _ fD).mono ?_
   rintro e w3 ⟨nv1,rfl,nd1,f3⟩
   have f23:St w2 w3:=fD2.trans' f3 nE
   have f03:St w w3:=fD.trans' f3 nE
   have of3:=(of2.still f23).2
   have e0:=f23.cell' d0 id
   have e1:=f23.cell' d1 id
   have e2:=f23.cell' d2 id
   have e3:=f23.cell' d3 id
   refine hK.out _ _ ⟨e0,e1,e2,e3⟩ (fun _=>?_)
   clear hK K hHeld d0 d1 d2 d3
   have PU:=uh HDEL _ w3 nv1 fD f3 nd1
   clear HDEL HKD HF fw2 of2 fD2 fD f23 f3 nd1
   refine rdO 12 rfl (fun K hK=>?_)
   go_simp
   go_wp2_with fail
   refine PU.mono ?_
   intro e w4 pt
   obtain⟨nv4,rfl,q0,qk,RP⟩:=uh HFIN w3 w4 e f03 pt
   clear HFIN PU pt
   refine hK.out _ _ ⟨qk g 0 _ e0 of3,qk g 1 _ e1 of3,qk g 2 _ e2 of3,q0⟩ (fun _=>?_)
   clear hK K
   refine rdO 13 rfl (fun K hK=>?_)
   go_simp
   go_wp2_with fail
   refine RP.mono ?_
   rintro e w5 ⟨u,rfl,q5,qk5,pt5⟩
   refine hK.out _ _ ⟨qk5 g 0 _ e0 of3,qk5 g 1 _ e1 of3,qk5 g 2 _ e2 of3,q5⟩ (fun _=>?_)
   clear hK K
   refine rdO 14 rfl (fun K hK=>?_)
   go_simp
   refine hK.out _ _ ⟨qk5 g 0 _ e0 of3,qk5 g 1 _ e1 of3,qk5 g 2 _ e2 of3,q5⟩ (fun _=>?_)
   clear hK K
   refine rdO 15 rfl (fun K hK=>?_)
   go_simp
   refine hK.out _ _ ⟨qk5 g 0 _ e0 of3,qk5 g 1 _ e1 of3,qk5 g 2 _ e2 of3,q5⟩ (fun _=>?_)
   clear hK K
   refine wpAnyH_done (by kernel_rfl) ?_ _
   have HP5:=Hd pt5
   clear pt5 qk qk5 q0 q5 RP e0 e1 e2 e3 of3 f03
   go_wp2_with fail
   go_ret
   exact uh HP5
end
end
end Go.Proofs.YtbiopjmpdhcjgaaGreatDoor
