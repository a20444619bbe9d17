/- TreePlays: between two rounds, and within one. -/
import Derived.Test.YtbiopjmpdhcjgaaGreatDoorJh
namespace Go.Proofs.YtbiopjmpdhcjgaaGreatDoor
open Go.RowKit
def AsW (i:Nat) (ks:List Kl) (c len:Nat):Prop:=∀T',T'<=c->T'<=cntK 1467 (kps ks)+2 * len->∃p q K,Nms (i+1) ks.length p q T' K len/\cntK 1467 (kps ks)<=K/\∀x∈ks,x.1.2.1.length<=p
structure TpH (w wr:World) (i n1 n2 b hb sb:Nat) (T:Tay) (A:Ab) (s:Int) (base:Nat->Int) (r:Nat) (L:List Pr) (Q:List Nat) (la:Option Addr) (lc:Nat) (ks:List Kl) (Y:Nat->Prop) (kv:Value):Prop where
 hc:HpC 1467 12176 w (TpX hb n1 n2 Y kv) wr hb sb b T A 3072 True s base
 m:TpM wr n1 n2 hb sb r L la lc ks Y kv
 t:Frs 1467 12176 (rb base) r L Q (kps ks)
 nm:∃p q K,Nms i ks.length p q (cnt 1467 (ask 1467 (rb base))) K L.length/\cntK 1467 (kps ks)<=K/\∀x∈ks,x.1.2.1.length<=p
 hs:s<=43021+61458 * i
 d:0<w.heap.size/\hb<n1
structure TpJ (w wr:World) (i n1 n2 b hb sb:Nat) (T:Tay) (A:Ab) (s:Int) (base:Nat->Int) (r:Nat) (L:List Pr) (Q:List Nat) (la:Option Addr) (lc:Nat) (ks:List Kl) (Y:Nat->Prop) (kv:Value):Prop where
 hc:HpC 1467 12176 w (TpX hb n1 n2 Y kv) wr hb sb b T A 3072 True s base
 m:TpM wr n1 n2 hb sb r L la lc ks Y kv
 t:Stds 1467 12176 (rb base) r L Q (kps ks)
 n4:ks.length<=4
 few:cnt 1467 (ask 1467 (rb base))<=400
 len:L.length<=100/\∀x∈ks,x.1.2.1.length<=100
 nx:AsW i ks (cnt 1467 (ask 1467 (rb base))) L.length
 hs:s<=43021+61458 * i+30729
 d:0<w.heap.size/\hb<n1
structure TpI (w wr:World) (q:Nat) (kd:Int) (x:ByteArray) (v:Nat) (i n1 n2 b hb sb:Nat) (T:Tay) (A:Ab) (s:Int) (base:Nat->Int) (r:Nat) (L:List Pr) (Q:List Nat) (la:Option Addr) (lc:Nat) (ks:List Kl) (Y:Nat->Prop) (kv:Value):Prop where
 j:TpJ w wr i n1 n2 b hb sb T A s base r L Q la lc ks Y kv
 o:wr.heap[q]? = some (.cells #[.int .i64 kd,.string x,.int .u64 (v:Nat)] 54 (0,0))
 two:kd=2->Frs 1467 12176 (rb base) r L Q (kps ks)/\∃p q K,Nms i ks.length p q (cnt 1467 (ask 1467 (rb base))) K L.length/\cntK 1467 (kps ks)<=K/\∀x∈ks,x.1.2.1.length<=p
section
variable {w wr w':World} {i q n1 n2 b hb sb:Nat} {T T':Tay} {A A':Ab} {s s':Int} {base base':Nat->Int} {r:Nat} {L:List Pr} {Q:List Nat} {la:Option Addr} {lc:Nat} {ks:List Kl} {Y Z:Nat->Prop} {kv:Value} {kd:Int} {x:ByteArray} {v:Nat}
theorem TpX.mono (hY:∀k,Y k->Z k) {k:Nat} (h:TpX hb n1 n2 Y kv k):TpX hb n1 n2 Z kv k:=by
 rcases h with h | h | h | h | h | h | h
 ·exact .inl h
 ·exact .inr (.inl h)
 ·exact .inr (.inr (.inl h))
 ·exact .inr (.inr (.inr (.inl h)))
 ·exact .inr (.inr (.inr (.inr (.inl h))))
 ·exact .inr (.inr (.inr (.inr (.inr (.inl (hY k h))))))
 ·exact .inr (.inr (.inr (.inr (.inr (.inr h)))))
theorem TpX.y {k:Nat} (h:Y k):TpX hb n1 n2 Y kv k:=.inr (.inr (.inr (.inr (.inr (.inl h)))))
theorem Nms.lens {i n p q T K len:Nat} (h:Nms i n p q T K len) (hi:i<50):len<=50/\p<=50/\n<=4:=⟨by have:=h.len;have:=h.pi;omega,by have:=h.pi;omega,h.n4⟩
theorem AsW.same {p q' K:Nat} {T l len:Nat} (h:Nms i ks.length p q' T K l) (hK:cntK 1467 (kps ks)<=K) (hk:∀x∈ks,x.1.2.1.length<=p) (hl:len<=p):AsW i ks T len:=fun _ h1 _=>⟨p,q',K,h.same h1 hl,hK,hk⟩
theorem AsW.put {p q' K:Nat} {T l len c:Nat} (h:Nms i ks.length p q' T K l) (hK:cntK 1467 (kps ks)<=K) (hk:∀x∈ks,x.1.2.1.length<=p) (hc:c<=T+13) (hl:len<=l+1):AsW i ks c len:=fun _ h1 h2=>⟨p+1,q',K,h.put (by omega) hl (by omega),hK,fun x hx=>Nat.le_succ_of_le (hk x hx)⟩
theorem AsW.keep {p q' K:Nat} (f:Frs 1467 12176 (rb base) r L Q (kps ks)) (h:Nms i ks.length p q' (cnt 1467 (ask 1467 (rb base))) K L.length) (hk:∀x∈ks,x.1.2.1.length<=p) (h4:ks.length<4):AsW i (ks ++ [((r,L,Q),la,lc)]) (cnt 1467 (ask 1467 (rb base))) L.length:=fun T' h1 _=>by
 have e:kps (ks ++ [((r,L,Q),la,lc)])=kps ks ++ [(r,L,Q)]:=by unfold kps;rw[List.map_append];rfl
 rw[e,List.length_append]
 refine⟨p,p,_,h.keep h4 h1,f.keep,fun y hy=>?_⟩
 rcases List.mem_append.1 hy with hy | hy
 ·exact hk y hy
 ·rw[List.mem_singleton.1 hy];exact h.len
theorem TpH.old (S:TpH w wr i n1 n2 b hb sb T A s base r L Q la lc ks Y kv) {k:Nat} (hk:TpX hb n1 n2 Y kv k):k<wr.heap.size:=(S.hc.hd.xl k hk).2
theorem TpH.still (S:TpH w wr i n1 n2 b hb sb T A s base r L Q la lc ks Y kv) (f:St wr w'):TpH w w' i n1 n2 b hb sb T A s base r L Q la lc ks Y kv:=⟨S.hc.still f,S.m.still f,S.t,S.nm,S.hs,S.d⟩
theorem TpH.did {W w6:World} {r6:Nat} {L6:List Pr} {Q6:List Nat} {la6:Option Addr} {lc6:Nat} (S:TpH w wr i n1 n2 b hb sb T A s base r L Q la lc ks Y kv) (hi:i<50) (fW:St wr W) (hq:wr.heap.size=q) (qW:q+2<W.heap.size) (fr:Fr (fun k=>tfoot sb b T k\/(k=q+1\/k=q+2)) W w6)
  (hc6:HpC 1467 12176 w (fun k=>(((TpX hb n1 n2 Y kv k\/k=q)\/k=q+1)\/k=q+2)\/Z k) w6 hb sb b T' A' 3072 True (s+30729) base') (oo:W.heap[q]? = some (.cells #[.int .i64 kd,.string x,.int .u64 (v:Nat)] 54 (0,0))) (nq:¬tfoot sb b T q) (st6:Stds 1467 12176 (rb base') r6 L6 Q6 (kps ks)) (hZ:∀k,Z k->W.heap.size<=k)
  (oc:(kd<2/\cnt 1467 (ask 1467 (rb base'))<=cnt 1467 (ask 1467 (rb base))+13/\L6.length<=L.length+1/\LiY w6 Z la6 lc6 L6)\/(base'=base/\(((r6,L6,Q6),la6,lc6)=((r,L,Q),la,lc)\/(kd=3/\((r6,L6,Q6),la6,lc6)∈ks)))) :
  TpI w ((w6.setCell ⟨n2,0,none⟩ (.int .u64 (r6:Nat))).setCell ⟨n2,1,none⟩ (.slice la6 L6.length lc6)) q kd x v i n1 n2 b hb sb T' A' (s+30729) base' r6 L6 Q6 la6 lc6 ks (fun k=>Y k\/Z k) kv:=by
 obtain⟨p,q',K,nm,hK,hks⟩:=S.nm
 obtain⟨hlen,hp,hn4⟩:=nm.lens hi
 have room:=nm.room hi
 have M6:=(S.m.still fW).kept fr (fun k hk e=>by
  have:=S.old hk
  rcases e with e | e | e
  ·exact S.hc.hd.ap k hk e
  ·omega
  ·omega)
 have M6':TpM w6 n1 n2 hb sb r L la lc ks (fun k=>Y k\/Z k) kv:=M6.more (fun k hk=>.inl hk) (fun k hk=>by
  rcases hk with hk | hk
  ·exact⟨S.m.dY k hk,fun e=>S.m.ry k e hk⟩
  ·have:=hZ k hk
   have:=S.m.bk.lt
   exact⟨by omega,fun e=>by have:=(S.m.rk.lt k e).2;omega⟩)
 have li:LiY w6 (fun k=>Y k\/Z k) la6 lc6 L6:=by
  rcases oc with ⟨_,_,_,l⟩ | ⟨_,e | ⟨_,e⟩⟩
  ·exact l.more (fun k hk=>.inr hk)
  ·cases e;exact M6'.li
  ·exact M6'.lk _ e
 have f7:Fr (fun k=>k=n2) w6 ((w6.setCell ⟨n2,0,none⟩ (.int .u64 (r6:Nat))).setCell ⟨n2,1,none⟩ (.slice la6 L6.length lc6)):=((Fr.refl (fun k=>k=n2) w6).setCell (.inl rfl) _).setCell (.inl rfl) _
 have dd:=S.m.d
 have d2:=S.d
 have hc7:=(hc6.var f7 (fun k hk=>.inl (.inl (.inl (.inl (.inr (.inr (.inr (.inl hk)))))))) (show ¬hb=n2 by omega)).sub (Y:=TpX hb n1 n2 (fun k=>Y k\/Z k) kv) (fun k hk=>by
  rcases hk with h | h | h | h | h | (h | h) | h
  ·exact .inl (.inl (.inl (.inl (.inl h))))
  ·exact .inl (.inl (.inl (.inl (.inr (.inl h)))))
  ·exact .inl (.inl (.inl (.inl (.inr (.inr (.inl h))))))
  ·exact .inl (.inl (.inl (.inl (.inr (.inr (.inr (.inl h)))))))
  ·exact .inl (.inl (.inl (.inl (.inr (.inr (.inr (.inr (.inl h))))))))
  ·exact .inl (.inl (.inl (.inl (TpX.y h))))
  ·exact .inr h
  ·exact .inl (.inl (.inl (.inl (.inr (.inr (.inr (.inr (.inr (.inr h)))))))))) (.inl rfl)
 refine⟨⟨hc7,M6'.root li,st6,hn4,?_,⟨?_,fun y hy=>?_⟩,?_,by have:=S.hs;omega,S.d⟩,?_,fun e=>?_⟩
 ·rcases oc with ⟨_,h,_⟩ | ⟨h,_⟩
  ·omega
  ·rw[h];omega
 ·rcases oc with ⟨_,_,h,_⟩ | ⟨_,e | ⟨_,e⟩⟩
  ·omega
  ·cases e;omega
  ·have:L6.length<=p:=hks _ e
   omega
 ·have:=hks y hy;omega
 ·rcases oc with ⟨_,h1,h2,_⟩ | ⟨rfl,e | ⟨_,e⟩⟩
  ·exact AsW.put nm hK hks h1 h2
  ·cases e;exact AsW.same nm hK hks nm.len
  ·exact AsW.same nm hK hks (hks _ e)
 ·have:=S.m.bk.lt
  exact f7.obj (fr.obj oo (fun e=>by rcases e with e | e | e;exact nq e;omega;omega)) (show ¬q=n2 by omega)
 ·rcases oc with ⟨h,_⟩ | ⟨rfl,e2 | ⟨h,_⟩⟩
  ·omega
  ·cases e2;exact⟨S.t,p,q',K,nm,hK,hks⟩
  ·omega
theorem TpH.bad {W w6:World} (S:TpH w wr i n1 n2 b hb sb T A s base r L Q la lc ks Y kv) (hi:i<50) (fW:St wr W) (fr:Fr (fun k=>tfoot sb b T k\/False) W w6)
  (hc6:HpC 1467 12176 w (fun k=>(((TpX hb n1 n2 Y kv k\/k=q)\/k=q+1)\/k=q+2)) w6 hb sb b T' A 3072 True s base) (oo:W.heap[q]? = some (.cells #[.int .i64 0,.string x,.int .u64 (v:Nat)] 54 (0,0))) (nq:¬tfoot sb b T q) :
  TpI w w6 q 0 x v i n1 n2 b hb sb T' A s base r L Q la lc ks Y kv:=by
 obtain⟨p,q',K,nm,hK,hks⟩:=S.nm
 obtain⟨hlen,hp,hn4⟩:=nm.lens hi
 have room:=nm.room hi
 refine⟨⟨hc6.sub (fun k hk=>.inl (.inl (.inl hk))) (.inl rfl),(S.m.still fW).kept fr (fun k hk e=>e.elim (S.hc.hd.ap k hk) id),S.t.toStds,hn4,by omega,⟨by omega,fun y hy=>by have:=hks y hy;omega⟩,AsW.same nm hK hks nm.len,by have:=S.hs;omega,S.d⟩,fr.obj oo (fun e=>e.elim nq id),fun e=>by omega⟩
theorem TpI.keep {w:World} (S:TpI w wr q 2 x v i n1 n2 b hb sb T A s base r L Q la lc ks Y kv) (h4:ks.length<4) :
  ∃va vc W',(Builtin.append_ #[36,36] 36 #[kv,.slice (some ⟨wr.heap.size,0,none⟩) 1 1]).run Tryz.prog (wr.alloc (.cells #[.int .u64 (r:Nat),.slice la L.length lc] 35)) = .ok (.slice va (ks.length+1) vc) W'/\Box W' (n2+1) kv/\TpJ w (W'.setCell ⟨n2+1,0,none⟩ (.slice va (ks.length+1) vc)) i n1 n2 b hb sb T A s base r L Q la lc (ks ++ [((r,L,Q),la,lc)]) Y (.slice va (ks.length+1) vc):=by
 obtain⟨W,hW⟩:∃W,wr.alloc (.cells #[.int .u64 (r:Nat),.slice la L.length lc] 35)=W:=⟨_,rfl⟩
 have fW:St wr W:=hW▸(Fr.refl _ wr).alloc _
 have zW:W.heap.size=wr.heap.size+1:=by rw[<-hW];simp
 have J:=S.j
 obtain⟨fs,p,q',K,nm,hK,hks⟩:=S.two rfl
 have SL:=sl_rootV wr W r (.slice la L.length lc) rfl hW
 have lb:=J.m.bk.lt
 obtain⟨v',W',hr,row,gr,loc⟩:=run_more elt_R 36 (own_still J.m.rk fW) SL (by simp;omega) (by omega)
 have row:W'.ownsRow (n2+2) 35 2 v' (ks.length+1) (rtcl (kvs ks) ++ [.int .u64 (r:Nat),.slice la L.length lc]):=row
 obtain⟨va,vc,rfl⟩:∃va vc,v' = .slice va (ks.length+1) vc:=by
  rcases rowr_form row with ⟨e,h0⟩ | ⟨gg,cap,e⟩
  ·omega
  ·exact⟨_,cap,e⟩
 have f2:Fr (fun j=>kv.ownBlock=some j) wr W':=(fW.mono nE).trans' ((Fr.refl _ _).grown gr (fun r e=>.inl e)) (fun j hj=>.inl hj)
 have lc':∀k,(Value.slice va (ks.length+1) vc).ownBlock=some k->kv.ownBlock=some k\/wr.heap.size<=k:=fun k hk=>by
  rcases loc with e | e
  ·exact .inl (e▸hk)
  ·rw[hk] at e;have:=Option.some.inj e;exact .inr (by omega)
 have M:=J.m.keep Q f2 (fun k hk=>hk) lc' (fun k hk=>(J.hc.hd.xl k (TpX.y hk)).2) row
 have bk':Box W' (n2+1) kv:=J.m.bk.kept f2 (fun e=>by have:=J.m.lo e;omega)
 have f3:Fr (fun k=>k=n2+1) W' (W'.setCell ⟨n2+1,0,none⟩ (.slice va (ks.length+1) vc)):=(Fr.refl (fun k=>k=n2+1) W').setCell (.inl rfl) _
 have dd:=J.m.d
 have d2:=J.d
 have hc1:=J.hc.grow (Y:=fun k=>TpX hb n1 n2 Y kv k\/(Value.slice va (ks.length+1) vc).ownBlock=some k) f2 (fun k hk=>.inr (.inr (.inr (.inr (.inr (.inr hk)))))) (fun e=>by have:=J.m.lo e;omega) (fun k hk=>by
  rcases hk with hk | hk
  ·exact .inl hk
  ·rcases lc' k hk with e | e
   ·exact .inl (.inr (.inr (.inr (.inr (.inr (.inr e))))))
   ·exact .inr ⟨e,(row.lt k hk).2⟩) (.inl (.inl rfl))
 have hc2:=(hc1.var f3 (fun k hk=>.inl (.inr (.inr (.inr (.inr (.inl hk)))))) (show ¬hb=n2+1 by omega)).sub (Y:=TpX hb n1 n2 Y (.slice va (ks.length+1) vc)) (fun k hk=>by
  rcases hk with h | h | h | h | h | h | h
  ·exact .inl (.inl h)
  ·exact .inl (.inr (.inl h))
  ·exact .inl (.inr (.inr (.inl h)))
  ·exact .inl (.inr (.inr (.inr (.inl h))))
  ·exact .inl (.inr (.inr (.inr (.inr (.inl h)))))
  ·exact .inl (TpX.y h)
  ·exact .inr h) (.inl rfl)
 have ek:kps (ks ++ [((r,L,Q),la,lc)])=kps ks ++ [(r,L,Q)]:=by unfold kps;rw[List.map_append];rfl
 refine⟨va,vc,W',by rw[hW];exact hr,bk',hc2,M,by rw[ek];exact fs.keeps,by rw[List.length_append];simp;omega,J.few,⟨J.len.1,fun y hy=>?_⟩,AsW.keep fs nm hks h4,J.hs,J.d⟩
 rcases List.mem_append.1 hy with hy | hy
 ·exact J.len.2 y hy
 ·rw[List.mem_singleton.1 hy];exact J.len.1
theorem TpJ.swept {w9:World} (J:TpJ w wr i n1 n2 b hb sb T A s base r L Q la lc ks Y kv) (fr:Fr (fun k=>tfoot sb b T k\/False) wr w9) (hc:HpC 1467 12176 w (TpX hb n1 n2 Y kv) w9 hb sb b T' A' 3072 True (s+30729) base') (fs:Frs 1467 12176 (rb base') r L Q (kps ks)) (hcn:cnt 1467 (ask 1467 (rb base'))<=cnt 1467 (ask 1467 (rb base))) :
  TpH w w9 (i+1) n1 n2 b hb sb T' A' (s+30729) base' r L Q la lc ks Y kv:=
 ⟨hc,J.m.kept fr (fun k hk e=>e.elim (J.hc.hd.ap k hk) id),fs,J.nx _ hcn fs.cnt_le,by have:=J.hs;omega,J.d⟩
end
end Go.Proofs.YtbiopjmpdhcjgaaGreatDoor
