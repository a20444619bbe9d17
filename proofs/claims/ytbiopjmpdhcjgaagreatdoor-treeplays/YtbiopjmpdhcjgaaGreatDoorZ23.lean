/- Joined: Uc Ud Ue. -/
import Derived.Test.YtbiopjmpdhcjgaaGreatDoorZ22
namespace Go.Proofs.YtbiopjmpdhcjgaaGreatDoor
open Go.RowKit
set_option maxHeartbeats 4000000

section
theorem putP_kb (x:ByteArray) (v:Nat):∀l:List Pr,kb ((putP l x v).map (·.1))<=kb (l.map (·.1))+(x.size+1)
 | []=>by simp[putP,kb]
 | p :: l=>by
  have:=putP_kb x v l
  unfold putP
  split
  ·simp[kb];omega
  ·split
   ·next h=>simp[kb];omega
   ·simp[kb];omega
theorem putP_size (l:List Pr) (x:ByteArray) (v:Nat) (hx:x.size<=80):(Nd.lf (putP l x v)).size<=(Nd.lf l).size+13:=by
 have h1:=putP_kb x v l
 have h2:=putP_len x v l
 rw[lf_size,lf_size]
 unfold hsz need
 omega
theorem taB_leaf (x:Value) (w:World):(Instr.typeAssert (.iface 100 x) 85 96 true).run Tryz.prog w = .ok (.tuple #[.agg #[.int .i64 0,.slice none 0 0,.slice none 0 0],.bool false]) w:=by kernel_rfl
theorem taB_br (x:Value) (w:World):(Instr.typeAssert (.iface 96 x) 85 96 true).run Tryz.prog w = .ok (.tuple #[x,.bool true]) w:=by kernel_rfl
theorem taL_leaf (x:Value) (w:World):(Instr.typeAssert (.iface 100 x) 85 100 false).run Tryz.prog w = .ok x w:=by kernel_rfl
section
variable {nu sz:Nat} {w w' w0:World} {hb sb b cb m:Nat} {T T0:Tay} {A:Ab} {P:List (Int×Int)} {tv:Value}
set_option maxRecDepth 100000 in
theorem y_put_leaf (cv:Value) (a:Option Addr) (c:Nat) (l:List Pr) (x:ByteArray) (v:Nat) (w:World) (hL:Lf w a c l) (ri:Rise l) (hl:l.length<=100) :
  Calls Tryz.prog 46 #[cv,.iface 100 (.slice a l.length c),.string x,.int .u64 v] w fun e w'=>∃nv,e = .returned nv/\NdO (fun k=>w.heap.size<=k/\k<w'.heap.size) w' nv (.lf (putP l x v))/\St w w':=by
 obtain⟨k,f⟩:=fst_of x (l.map (·.1)) ri.keys
 obtain⟨j,hj⟩:∃j,j=if k<l.length/\(l.getD k default).1=x then k+1 else k:=⟨_,rfl⟩
 have hkl:k<=l.length:=by have:=f.le;simpa using this
 have WI:∀w1,St w w1->Calls Tryz.prog 92 #[.slice a l.length c,.string x,.int .u64 v] w1 _:=fun w1 f1=>l_with a c l x v k j w1 (hL.still f1) (by omega) hkl (fun t ht=>by rw[<-keys_getD l t (by omega)];exact f.lo t ht) (fun t h1 h2=>by rw[<-keys_getD l t h2];exact f.hi t h1 (by simpa using h2)) hj
 rw[putL_putP f hj] at WI
 have HW:=@Hd _ WI
 clear WI hL f hj
 generalize l.length=n at *
 generalize putP l x v=pl at *
 obtain⟨W,hW⟩:∃W,w.alloc (.cells #[.int .i64 0,.slice none 0 0,.slice none 0 0] 96)=W:=⟨_,rfl⟩
 have fW:St w W:=hW▸(Fr.refl _ w).alloc _
 have HA:=Hd hW
 clear hW
 have t1:=fun w=>taB_leaf (.slice a n c) w
 have t2:=fun w=>taL_leaf (.slice a n c) w
 go_enter Tryz.func46,Tryz.ntmps46
 go_wp2_with fail
 rw[uh HA]
 refine(uh HW W fW).mono ?_
 rintro e w2 ⟨u,rfl,hu,f2⟩
 clear HW HA t1 t2
 obtain⟨ua,uc,rfl⟩:=rowZ hu
 have HU:=Hd hu
 clear hu
 go_wp2_with fail
 go_ret
 have hu:=uh HU
 have ob:=own_block hu
 exact⟨_,rfl,⟨ua,uc,rfl,sl_of_row hu pcl_one,fun y hy=>⟨Nat.le_trans fW.size (ob y hy).1,(ob y hy).2⟩⟩,fW.trans' f2 nE⟩
def Ptd (nu sz:Nat) (w0:World) (hb sb b:Nat) (T0:Tay) (A:Ab) (cb:Nat) (w:World) (T:Tay) (P:List (Int×Int)) (tv:Value) (m h:Nat) (l:List Pr) (w':World) (e:Ending):Prop:=
 ∃T' P' tv' k,k<=2 * h/\Wr nu sz w0 hb sb b T0 A cb w T P tv m w' T' P' tv' k/\∃nv n Q,e = .returned nv/\NdO (Off sb b T' cb tv' w') w' nv n/\Un nu (Tr nu sz (says P' A) h) (h+1) n l Q/\n.size<=46/\(1<=h->2<=n.items.length)
theorem Wr.base (w1:World) (c:Cg nu sz w0 hb sb b T0 A cb w T P tv m) (s:HpS nu (says P A)) (f:St w w1):Wr nu sz w0 hb sb b T0 A cb w T P tv m w1 T P tv 0:=(Wr.here c s).still f
set_option maxRecDepth 100000 in
theorem y_put (x:ByteArray) (v:Nat) (hx:1<=x.size/\x.size<=80) (hv:v<18446744073709551616):∀(h:Nat) {w:World} {T:Tay} {P:List (Int×Int)} {tv:Value} {m:Nat} {nv:Value} {n:Nd} {l:List Pr} {Q:List Nat},Cg nu sz w0 hb sb b T0 A cb w T P tv m->HpS nu (says P A)->NdO (Off sb b T cb tv w) w nv n->Un nu (Tr nu sz (says P A) h) (h+1) n l Q->n.Ok->n.size<=32->Pok l->Rise l->l.length<900000->m+2 * h<=90->P.length+160 * h+200<=6144->cnt nu (ask nu (says P A))+2 * h+2<nu / 4->(∀u,ask nu (says P A) u<=32)->
  Calls Tryz.prog 46 #[ptr cb,nv,.string x,.int .u64 v] w fun e w'=>Ptd nu sz w0 hb sb b T0 A cb w T P tv m h (putP l x v) w' e:=by
 intro h
 induction h with
 | zero=>
  intro w T P tv m nv n l Q c s nd un ok le pk ri hl hm hP room low
  rcases un with ⟨_,rfl,hne,rfl⟩ | ⟨h2,_⟩
  ·obtain⟨a,cc,rfl,hL,hF⟩:=nd
   have hl1:l.length<=100:=by rw[lf_size] at le;unfold hsz need at le;omega
   refine(y_put_leaf (ptr cb) a cc l x v w hL ri hl1).mono ?_
   rintro e w' ⟨nv,rfl,nd,f⟩
   exact⟨T,P,tv,0,by omega,Wr.base w' c s f,nv,_,[],rfl,nd.mono fun k hk=>c.fresh hk.1 hk.2,.inl ⟨rfl,rfl,putP_ne l x v,rfl⟩,by have:=putP_size l x v hx.2;omega,fun hh=>by omega⟩
  ·omega
 | succ h ih=>
  intro w T P tv m nv n l Q c s nd un ok le pk ri hl hm hP room low
  rcases un with ⟨h1,_⟩ | ⟨h2,B,ks,rfl,fo⟩
  ·omega
  ·obtain⟨ba,bc,ka,kc,rfl,hB,hK,oB,oK⟩:=nd
   have hform:=ok.form
   have hmk:(ks.map (kidN nu)).length=ks.length:=List.length_map _
   have hlen:ks.length=B.length+1:=by have:=fo.2.2.2.1.len;simpa using this
   have hks:ks.length<=32:=by rw[br_size,hmk] at le;unfold hsz need at le;omega
   obtain⟨k,fk⟩:=fst_of x B fo.2.2.2.1.rise
   have way:=way_of fo.2.2.2.1.rise fk
   obtain⟨i,hi⟩:∃i,(if k<B.length/\B.getD k default=x then k+1 else k)=i:=⟨_,rfl⟩
   rw[hi] at way
   have TW:∀w1,St w w1->Calls Tryz.prog 54 #[brV (h+2) ba B.length bc ka (ks.map (kidN nu)).length kc,.string x] w1 fun e w'=>e = .returned (.int .i64 (i:Nat))/\St w1 w':=fun w1 f1=>by
    have:=b_towards (h+2) ba bc B ka (ks.map (kidN nu)).length kc x k w1 (hB.still f1) fk (by omega)
    rw[hi] at this
    exact this
   have hil:i<ks.length:=by have:=way.le;omega
   obtain⟨kk,hkk⟩:∃kk,ks[i]? = some kk:=⟨_,List.getElem?_eq_getElem hil⟩
   have hkm:=List.mem_of_getElem? hkk
   obtain⟨n1,Q1,st1,un1,eQ1⟩:=fo.1 kk hkm
   have sub:=fo.sub hkm
   have pk1:=pk.sub sub.1
   have ri1:=ri.sub sub.1
   have hl1:=sub.1.length_le
   have hk2:(ks.map (kidN nu))[i]? = some (fi nu+8 * kk.1,kk.2.1.length):=by rw[List.getElem?_map,hkk];rfl
   have hh1:h+2=n1.high+1:=by
    rcases un1 with ⟨e,rfl,_⟩ | ⟨_,B1,ks1,rfl,_⟩
    ·show h+2=1+1;omega
    ·rfl
   have KD:∀w1,St w w1->Calls Tryz.prog 53 #[brV (h+2) ba B.length bc ka (ks.map (kidN nu)).length kc,ptr sb,.int .i64 i] w1 _:=fun w1 f1=>b_kid (c.still f1).hp (h+2) ba B.length bc ka kc (ks.map (kidN nu)) i kk.1 n1 (hK.still f1) (by omega) kk.2.1.length hk2 st1 hh1
   have hsz:=c.hp.hp.geo.b.2.2.2.2.2
   have h0:=c.on.fr.size
   have h16:h+1<=16:=by have:h+1+1<=16:=ok.h16;omega
   obtain⟨W,hW⟩:∃W,w.alloc (.cells #[.int .i64 ((h+2:Nat):Int),.slice ba B.length bc,.slice ka (ks.map (kidN nu)).length kc] 96)=W:=⟨_,rfl⟩
   have fW:St w W:=hW▸(Fr.refl _ w).alloc _
   have oW:W.heap[w.heap.size]? = some (.cells #[.int .i64 ((h+2:Nat):Int),.slice ba B.length bc,.slice ka (ks.map (kidN nu)).length kc] 96 (0,0)):=hW▸heap_alloc_new w _
   have zW:w.heap.size<W.heap.size:=by rw[<-hW];simp
   -- the three calls
   have PUT:∀w1 w3 nv1,St w w1->St w1 w3->NdO (fun k=>w1.heap.size<=k/\k<w3.heap.size) w3 nv1 n1->Calls Tryz.prog 46 #[ptr cb,nv1,.string x,.int .u64 v] w3 fun e w'=>Ptd nu sz w0 hb sb b T0 A cb w3 T P tv m h (putP kk.2.1 x v) w' e:=fun w1 w3 nv1 f1 f3 nd1=>
    ih ((c.still f1).still f3) s (nd1.mono fun y hy=>(c.still f1).fresh hy.1 hy.2) un1 st1.ok st1.le pk1 ri1 (by omega) (by omega) (by omega) (by omega) low
   have FIN:∀w3 w4 e4,St w w3->Ptd nu sz w0 hb sb b T0 A cb w3 T P tv m h (putP kk.2.1 x v) w4 e4->∃nv4,e4 = .returned nv4/\w4.cell? ⟨cb,0,none⟩=some (ptr sb)/\(∀y o u,w3.cell? ⟨y,o,none⟩=some u->Off sb b T cb tv w3 y->w4.cell? ⟨y,o,none⟩=some u)/\Calls Tryz.prog 93 #[ptr cb,brV (h+2) ba B.length bc ka (ks.map (kidN nu)).length kc,.int .i64 i,.int .i64 ((i:Int)+1),nv4] w4 fun e w'=>∃u,e = .returned u/\w'.cell? ⟨cb,0,none⟩=some (ptr sb)/\(∀y o u,w3.cell? ⟨y,o,none⟩=some u->Off sb b T cb tv w3 y->w'.cell? ⟨y,o,none⟩=some u)/\Ptd nu sz w0 hb sb b T0 A cb w T P tv m (h+1) (putP l x v) w' (.returned (.iface 96 u)):=fun w3 w4 e4 f03 pt=>by
    obtain⟨T4,P4,tv4,k4,hk4,wr4,nv4,n4,Q4,rfl,nd4,un4,le4,it4⟩:=pt
    refine⟨nv4,rfl,cOo wr4.cg.ob 0,fun y o u hc ho=>(World.cell?_of_block (a:=⟨y,o,none⟩) (wr4.kp.2 y ho).1).trans hc,?_⟩
    have pk4:Pok (putP kk.2.1 x v):=pk1.put hx hv
    have ri4:Rise (putP kk.2.1 x v):=putP_rise ri1
    have hl4:=putP_len x v kk.2.1
    have ok4:=un4.ok hsz pk4 ri4 (by omega) h16 it4
    have few:=wr4.ch.few
    have ln:=wr4.len
    have RP:=y_replaced wr4.cg wr4.ch.st nd4 un4 ok4 pk4 ri4 le4 (by omega) (by omega) (by omega) (by omega) (wr4.ch.low low) (h+2) ba bc B ka kc (ks.map (kidN nu)) ((hB.still f03).same fun y hy=>(wr4.kp.2 _ ((oB y hy).still f03).2).1) ((hK.still f03).same fun y hy=>(wr4.kp.2 _ ((oK y hy).still f03).2).1) (fun y hy=>(wr4.kp.2 _ ((oB y hy).still f03).2).2) (fun y hy=>(wr4.kp.2 _ ((oK y hy).still f03).2).2) i (i+1) (by omega) way.le (by omega) (by omega) (by omega) (by omega) (by omega)
    rw[show((i+1:Nat):Int)=(i:Int)+1 by omega] at RP
    refine RP.mono ?_
    rintro e w5 ⟨T5,P5,tv5,k5,hk5,wr5,B',ks',Q',fo',hb',u,rfl,nd5⟩
    have wr:=wr4.trans wr5
    refine⟨u,rfl,cOo wr5.cg.ob 0,fun y o u hc ho=>(World.cell?_of_block (a:=⟨y,o,none⟩) (wr.kp.2 y ho).1).trans hc,?_⟩
    obtain⟨Q2,fo2,_⟩:=For.put (wr.ch.fo fo) way hkk fo'
    have hks':ks'.length=B'.length+1:=by have:=fo'.2.2.2.1.len;simpa using this
    have eB:B.take i ++ B' ++ B.drop (i+1 - 1)=B.take i ++ B' ++ B.drop i:=by rw[Nat.add_sub_cancel]
    have eK:(ks.map (kidN nu)).take i ++ ks'.map (kidN nu) ++ (ks.map (kidN nu)).drop (i+1)=(ks.take i ++ ks' ++ ks.drop (i+1)).map (kidN nu):=by
     rw[List.map_append,List.map_append,List.map_take,List.map_drop]
    rw[eB,eK] at nd5
    have eL:(ks.take i ++ ks' ++ ks.drop (i+1)).length=ks.length+B'.length:=by
     simp[hks'];omega
    refine⟨T5,P5,tv5,k4+k5,by omega,wr.after f03,_,_,Q2,rfl,nd5,.inr ⟨by omega,_,_,rfl,fo2⟩,?_,fun _=>?_⟩
    ·rw[br_size,List.length_map,eL]
     exact grown_size fo'.2.2.2.2 hb' (by rw[br_size,List.length_map] at le;exact le)
    ·show 2<=((ks.take i ++ ks' ++ ks.drop (i+1)).map (kidN nu) |>.map _).length
     rw[List.length_map,List.length_map,eL]
     have:=hform.2.2.1
     rw[hmk] at this
     omega
   have HTW:=@Hd _ TW;have HKD:=@Hd _ KD;have HPUT:=@Hd _ PUT;have HFIN:=@Hd _ FIN
   have HC:=Hd (ai c (ai fW (ai oW zW)))
   have HW:=Hd hW
   have k0:∀w1,St w w1->w1.cell? ⟨cb,0,none⟩=some (ptr sb):=fun w1 f1=>cOo (c.still f1).ob 0
   have HK0:=@Hd _ k0
   have i5:i<=500:=by omega
   have hq5:h+2<=20:=by omega
   clear TW KD PUT FIN c fW oW zW hW k0 ih s ok le pk ri hl hm hP room low fo hB hK oB oK hform hlen hks fk way hi hil hkk hkm st1 un1 eQ1 sub pk1 ri1 hl1 hk2 hh1 hsz h0 h16 h2
   clear hmk
   rw[show h+1+1=h+2 from rfl]
   generalize (ks.map (kidN nu)).length=nk at *
   generalize B.length=nb at *
   generalize h+2=hq at *
   have t1:=fun w=>taB_br (brV hq ba nb bc ka nk kc) w
   go_enter Tryz.func46,Tryz.ntmps46
   go_wp2_with fail
   rw[uh HW]
   obtain⟨c,fW,oW,zW⟩:=uh HC
   refine(uh HTW W fW).mono ?_
   clear HTW t1
   rintro e w2 ⟨rfl,f2⟩
   have wi1:IntKind.i64.wrap ((i:Int)+1)=(i:Int)+1:=(wrap_small _ (by omega) (by omega)).1
   have fw2:St w w2:=fW.trans' f2 nE
   have o2:=f2.obj oW id
   have of2:Off sb b T cb tv w2 w.heap.size:=c.fresh (Nat.le_refl _) (Nat.lt_of_lt_of_le zW f2.size)
   have d0:w2.cell? ⟨w.heap.size,0,none⟩=some (.int .i64 (hq:Nat)):=cOo o2 0
   have d1:w2.cell? ⟨w.heap.size,1,none⟩=some (.slice ba nb bc):=cOo o2 1
   have d2:w2.cell? ⟨w.heap.size,2,none⟩=some (.slice ka nk kc):=cOo o2 2
   have d3:=uh HK0 w2 fw2
   have HF:=Hd (ai fw2 of2)
   clear c fW oW zW f2 fw2 o2 of2 HC HW HK0
   generalize hg:w.heap.size=g at *
   go_wp2_with fail
   refine wp_region_held_drew (S:=fun w'=>w'.cell? ⟨g,0,none⟩=some (.int .i64 (hq:Nat))/\w'.cell? ⟨g,1,none⟩=some (.slice ba nb bc)/\w'.cell? ⟨g,2,none⟩=some (.slice ka nk kc)/\w'.cell? ⟨cb,0,none⟩=some (ptr sb)) (by kernel_rfl) ⟨d0,d1,d2,d3⟩ (fun hHeld=>?_)
   refine tkO 0 ?_ hHeld rfl ?_ ?_
   rotate_left
   ·intro w q;go_simp;try with_reducible rfl
   simp only[apt,List.set]
   refine tkO 1 (.agg #[.int .i64 (hq:Nat),.slice ba nb bc,.slice ka nk kc]) hHeld rfl ?_ ?_
   ·rintro w ⟨x0,x1,x2,x3⟩;go_simp;try with_reducible rfl
   simp only[apt,List.set]
   refine tkO 2 ?_ hHeld rfl ?_ ?_
   rotate_left
   ·intro w q;go_simp;try with_reducible rfl
   simp only[apt,List.set]
   refine tkO 3 ?_ hHeld rfl ?_ ?_
   rotate_left
   ·intro w q;go_simp;try with_reducible rfl
   simp only[apt,List.set]
   refine tkO 4 (.int .i64 ((i:Int)+1)) hHeld rfl ?_ ?_
   ·(intro w q;go_simp;first | done | (rw[wi1]) | (simp[wi1]))
   simp only[apt,List.set]
   refine tkO 5 ?_ hHeld rfl ?_ ?_
   rotate_left
   ·intro w q;go_simp;try with_reducible rfl
   simp only[apt,List.set]
   refine tkO 6 (.agg #[.int .i64 (hq:Nat),.slice ba nb bc,.slice ka nk kc]) hHeld rfl ?_ ?_
   ·rintro w ⟨x0,x1,x2,x3⟩;go_simp;try with_reducible rfl
   simp only[apt,List.set]
   refine tkO 7 ?_ hHeld rfl ?_ ?_
   rotate_left
   ·intro w q;go_simp;try with_reducible rfl
   simp only[apt,List.set]
   refine tkO 8 ?_ hHeld rfl ?_ ?_
   rotate_left
   ·intro w q;go_simp;try with_reducible rfl
   simp only[apt,List.set]
   refine tkO 9 ?_ hHeld rfl ?_ ?_
   rotate_left
   ·intro w q;go_simp;try with_reducible rfl
   simp only[apt,List.set]
   refine tkO 10 (ptr sb) hHeld rfl ?_ ?_
   ·rintro w ⟨x0,x1,x2,x3⟩;go_simp;try with_reducible rfl
   simp only[apt,List.set]
   refine tkO 11 ?_ hHeld rfl ?_ ?_
   rotate_left
   ·intro w q;go_simp;try with_reducible rfl
   simp only[apt,List.set]
   refine tkO 13 ?_ hHeld rfl ?_ ?_
   rotate_left
   ·intro w q;go_simp;try with_reducible rfl
   simp only[apt,List.set]
   refine tkO 14 ?_ hHeld rfl ?_ ?_
   rotate_left
   ·intro w q;go_simp;try with_reducible rfl
   simp only[apt,List.set]
   refine rdO 12 rfl (fun K hK=>?_)
   go_simp
   go_wp2_with fail
   obtain⟨fw2,of2⟩:=uh HF
   have fD2:St w2 w2.drew:=(Fr.refl _ w2).drewN 1
   have fD:St w w2.drew:=fw2.trans' fD2 nE
   refine(uh HKD _ fD).mono ?_
   rintro e w3 ⟨nv1,rfl,nd1,f3⟩
   have f23:St w2 w3:=fD2.trans' f3 nE
   have f03:St w w3:=fD.trans' f3 nE
   have of3:=(of2.still f23).2
   have e0:=f23.cell' d0 id
   have e1:=f23.cell' d1 id
   have e2:=f23.cell' d2 id
   have e3:=f23.cell' d3 id
   refine hK.out _ _ ⟨e0,e1,e2,e3⟩ (fun _=>?_)
   clear hK K hHeld d0 d1 d2 d3
   have PU:=uh HPUT _ w3 nv1 fD f3 nd1
   clear HPUT HKD HF fw2 of2 fD2 fD f23 f3 nd1
   refine rdO 15 rfl (fun K hK=>?_)
   go_simp
   go_wp2_with fail
   refine PU.mono ?_
   intro e w4 pt
   obtain⟨nv4,rfl,q0,qk,RP⟩:=uh HFIN w3 w4 e f03 pt
   clear HFIN PU pt
   refine hK.out _ _ ⟨qk g 0 _ e0 of3,qk g 1 _ e1 of3,qk g 2 _ e2 of3,q0⟩ (fun _=>?_)
   clear hK K
   refine rdO 16 rfl (fun K hK=>?_)
   go_simp
   go_wp2_with fail
   refine RP.mono ?_
   rintro e w5 ⟨u,rfl,q5,qk5,pt5⟩
   refine hK.out _ _ ⟨qk5 g 0 _ e0 of3,qk5 g 1 _ e1 of3,qk5 g 2 _ e2 of3,q5⟩ (fun _=>?_)
   clear hK K
   refine rdO 17 rfl (fun K hK=>?_)
   go_simp
   refine hK.out _ _ ⟨qk5 g 0 _ e0 of3,qk5 g 1 _ e1 of3,qk5 g 2 _ e2 of3,q5⟩ (fun _=>?_)
   clear hK K
   refine rdO 18 rfl (fun K hK=>?_)
   go_simp
   refine hK.out _ _ ⟨qk5 g 0 _ e0 of3,qk5 g 1 _ e1 of3,qk5 g 2 _ e2 of3,q5⟩ (fun _=>?_)
   clear hK K
   refine wpAnyH_done (by kernel_rfl) ?_ _
   have HP5:=Hd pt5
   clear pt5 qk qk5 q0 q5 RP e0 e1 e2 e3 of3 f03
   go_wp2_with fail
   go_ret
   exact uh HP5
end
end

section
def Rtd (nu sz:Nat) (w0:World) (hb sb b:Nat) (T0:Tay) (A:Ab) (cb:Nat) (w:World) (T:Tay) (P:List (Int×Int)) (tv:Value) (m:Nat) (l:List Pr) (w':World) (e:Ending):Prop:=
 ∃T' P' tv' k,k<=3/\Wr nu sz w0 hb sb b T0 A cb w T P tv m w' T' P' tv' k/\∃u h Q,e = .returned (.int .u64 ((fi nu+8 * u:Nat):Int))/\Tr nu sz (says P' A) h u l Q
theorem fld_kid (pz np:Nat) (w:World):(Instr.field 123 (.agg #[.int .u64 (pz:Nat),.int .i64 (np:Nat)]) 0).run Tryz.prog w = .ok (.int .u64 (pz:Nat)) w:=by kernel_rfl
theorem fld_head (h i b:Nat) (w:World):(Instr.field 105 (.agg #[.int .i64 (h:Nat),.int .i64 (i:Nat),.int .i64 (b:Nat)]) 0).run Tryz.prog w = .ok (.int .i64 (h:Nat)) w:=by kernel_rfl
section
variable {nu sz:Nat} {w w' w0:World} {hb sb b cb m:Nat} {T T0:Tay} {A:Ab} {P:List (Int×Int)} {tv:Value}
set_option maxRecDepth 100000 in
theorem y_rootL (cg:Cg nu sz w0 hb sb b T0 A cb w T P tv m) (s:HpS nu (says P A)) {h:Nat} {l:List Pr} {Q:List Nat} (a:Option Addr) (c:Nat) (hL:Lf w a c l) (nd:NdO (Off sb b T cb tv w) w (.iface 100 (.slice a l.length c)) (Nd.lf l)) (x:Un nu (Tr nu sz (says P A) h) (h+1) (Nd.lf l) l Q) (ok:(Nd.lf l).Ok) (pk:Pok l) (ri:Rise l) (le:(Nd.lf l).size<=46) (pl:l.length<900000) (h16:h+2<=16) (hm:m<=80) (hP:P.length+400<=6144) (room:cnt nu (ask nu (says P A))+4<nu / 4) (low:∀u,ask nu (says P A) u<=32) (hh0:h=0) :
  Calls Tryz.prog 45 #[ptr cb,.iface 100 (.slice a l.length c)] w fun e w'=>Rtd nu sz w0 hb sb b T0 A cb w T P tv m l w' e:=by
 have hl1:l.length<=50:=by rw[lf_size] at le;unfold hsz need at le;omega
 have hl0:1<=l.length:=List.length_pos_iff.2 x.ne
 have IT:=l_items a c l w hL (by omega)
 have HG:=fun w1=>l_height a l.length c w1
 have WT:∀w1,St w w1->Calls Tryz.prog 90 #[ptr cb,.iface 100 (.slice a l.length c)] w1 _:=fun w1 f1=>y_written (cg.still f1) s (nd.kept fun k hk=>hk.still f1) x ok pk ri le (by omega) (by omega) (by omega) (by omega) low
 have hsz4:=cg.hp.hp.geo.b.2.2.2.2.2
 have FIN:∀w1 w2 kv bv,St w w1->Wtn nu sz w0 hb sb b T0 A cb w1 T P tv m (h+1) l w2 kv bv->
   (∃g o pz np kc,kv = .slice (some ⟨g,o,none⟩) 1 kc/\w2.cell? ⟨g,o,none⟩=some (.int .u64 (pz:Nat))/\w2.cell? ⟨g,o+1,none⟩=some (.int .i64 (np:Nat))/\Rtd nu sz w0 hb sb b T0 A cb w T P tv m l w2 (.returned (.int .u64 (pz:Nat))))\/
   (∃ka kc ba bc nb,kv = .slice ka 2 kc/\bv = .slice ba nb bc/\∀w3,St w2 w3->Calls Tryz.prog 91 #[ptr cb,.iface 96 (brV (h+2) ba nb bc ka 2 kc)] w3 fun e w'=>∃pz np:Nat,e = .returned (.agg #[.int .u64 (pz:Nat),.int .i64 (np:Nat)])/\Rtd nu sz w0 hb sb b T0 A cb w T P tv m l w' (.returned (.int .u64 (pz:Nat)))):=fun w1 w2 kv bv f1 wt=>by
  obtain⟨T',P',tv',k,hk,wr,ka',kc',ba',bc',B',ks',Q',rfl,rfl,hK',hB',oK',oB',fo,hb'⟩:=wt
  have wr0:=wr.after f1
  have hks':ks'.length=B'.length+1:=by have:=fo.2.2.2.1.len;simpa using this
  have hmk:(ks'.map (kidN nu)).length=ks'.length:=List.length_map _
  rcases (show B'.length=0\/B'.length=1 by omega) with h0 | h0
  ·obtain⟨k1,rfl⟩:∃k1,ks' = [k1]:=List.length_eq_one_iff.1 (by omega)
   have hB0:B' = []:=List.length_eq_zero_iff.1 h0
   obtain⟨g,o,e,c1,c2⟩:=hK'.kid (k:=0) (p:=kidN nu k1) (by simp)
   refine .inl ⟨g,o,fi nu+8 * k1.1,k1.2.1.length,kc',by rw[e];rfl,by have:=c1;rw[Nat.zero_mul,Nat.add_zero] at this;exact this,by have:=c2;rw[Nat.zero_mul,Nat.add_zero] at this;exact this,T',P',tv',k,by omega,wr0,k1.1,h+1,k1.2.2,rfl,?_⟩
   have:=fo.1 k1 (by simp)
   have el:l=k1.2.1:=by rw[fo.2.1];simp
   rw[el]
   exact this
  ·refine .inr ⟨ka',kc',ba',bc',B'.length,by rw[hmk,hks',h0],rfl,fun w3 f3=>?_⟩
   have un:Un nu (Tr nu sz (says P' A) (h+1)) (h+2) (.br (h+2) B' (ks'.map (kidN nu))) l Q':=.inr ⟨by omega,_,_,rfl,fo⟩
   have ok':=un.ok hsz4 pk ri (by omega) h16 (fun _=>by show 2<=((ks'.map (kidN nu)).map _).length;rw[List.length_map,hmk];omega)
   have few:=wr0.ch.few
   have ln:=wr0.len
   have hkb:=kb_le fo.2.2.2.2
   have sm:(Nd.br (h+2) B' (ks'.map (kidN nu))).size<=32:=by
    rw[br_size,hmk]
    unfold hsz need
    omega
   have wr3:=wr0.still f3
   have K:=y_write wr3.cg wr3.ch.st (nv:=.iface 96 (brV (h+2) ba' B'.length bc' ka' (ks'.map (kidN nu)).length kc')) (n:=.br (h+2) B' (ks'.map (kidN nu))) ⟨ba',bc',ka',kc',rfl,hB'.still f3,hK'.still f3,fun y hy=>((oB' y hy).still f3).2,fun y hy=>((oK' y hy).still f3).2⟩ ok' sm (by have:=un.pairs;omega) (by omega) (by omega) (by omega) (wr3.ch.low low)
   rw[show(ks'.map (kidN nu)).length=2 by omega] at K
   refine K.mono ?_
   rintro e w4 ⟨u,g,rfl,st,wt⟩
   obtain⟨T4,P4,tv4,wr4,eg⟩:=wt.wr
   have wr:=wr3.trans wr4
   exact⟨_,_,rfl,T4,P4,tv4,k+1,by omega,wr,u,h+2,u :: Q',rfl,⟨_,Q',by rw[eg];exact st,wr4.ch.un un,rfl⟩⟩
 have HWT:=@Hd _ WT;have HFIN:=@Hd _ FIN
 subst hh0
 have t1:=fun w=>taB_leaf (.slice a l.length c) w
 clear WT FIN cg s nd x ok pk ri le pl hP room low hL hsz4
 generalize l.length=n at *
 have hn0:((n:Int) == 0)=false:=by simp;omega
 go_enter Tryz.func45,Tryz.ntmps45
 go_wp2_with fail
 refine IT.mono ?_
 rintro e w1 ⟨iv,rfl,hiv,f1⟩
 obtain⟨ia,ic,rfl⟩:=rows_form hiv
 clear hiv IT
 obtain⟨W,hW⟩:∃W,w1.alloc (.cells #[.int .i64 0,.slice none 0 0,.slice none 0 0] 96)=W:=⟨_,rfl⟩
 have fW:St w W:=f1.trans' (hW▸(Fr.refl _ w1).alloc _:St w1 W) nE
 have HW:=Hd hW
 clear hW f1
 go_wp2_with fail
 rw[uh HW]
 refine(uh HWT W fW).mono ?_
 rintro e w2 ⟨kv,bv,rfl,wt⟩
 clear HWT HW t1
 rcases uh HFIN W w2 kv bv fW wt with ⟨g,o,pz,np,kc2,rfl,c1,c2,fin⟩ | ⟨ka2,kc2,ba2,bc2,nb2,rfl,rfl,WR⟩
 ·have HE:=Hd fin
  clear fin HFIN wt HG
  go_wp2_with fail
  go_ret
  exact uh HE
 ·clear HFIN wt
  go_wp2_with fail
  refine(HG _).mono ?_
  rintro e w3 ⟨rfl,rfl⟩
  go_wp2_with (first | (go_at_call 69;refine(y_must _).mono ?_;rintro e w' ⟨rfl,hh⟩;replace hh:=hh.symm;subst hh) | fail)
  refine(HG _).mono ?_
  rintro e w4 ⟨rfl,rfl⟩
  have WR4:=WR w4 (Fr.refl _ _)
  clear WR HG
  go_wp2_with fail
  refine WR4.mono ?_
  rintro e w5 ⟨pz,np,rfl,fin⟩
  have HE:=Hd fin
  clear fin WR4
  have t9:=fun w=>fld_kid pz np w
  go_wp2_with fail
  go_ret
  exact uh HE
set_option maxRecDepth 100000 in
theorem y_rootB (cg:Cg nu sz w0 hb sb b T0 A cb w T P tv m) (s:HpS nu (says P A)) {h:Nat} {l:List Pr} {Q:List Nat} (ba:Option Addr) (bc:Nat) (B:List ByteArray) (ka:Option Addr) (kc:Nat) (ks:List (Nat×List Pr×List Nat)) (hK:Kds w ka kc (ks.map (kidN nu))) (nd:NdO (Off sb b T cb tv w) w (.iface 96 (brV (h+1) ba B.length bc ka (ks.map (kidN nu)).length kc)) (Nd.br (h+1) B (ks.map (kidN nu)))) (x:Un nu (Tr nu sz (says P A) h) (h+1) (Nd.br (h+1) B (ks.map (kidN nu))) l Q) (ok:(Nd.br (h+1) B (ks.map (kidN nu))).Ok) (pk:Pok l) (ri:Rise l) (le:(Nd.br (h+1) B (ks.map (kidN nu))).size<=46) (pl:l.length<900000) (h16:h+2<=16) (hm:m<=80) (hP:P.length+400<=6144) (room:cnt nu (ask nu (says P A))+4<nu / 4) (low:∀u,ask nu (says P A) u<=32) :
  Calls Tryz.prog 45 #[ptr cb,.iface 96 (brV (h+1) ba B.length bc ka (ks.map (kidN nu)).length kc)] w fun e w'=>Rtd nu sz w0 hb sb b T0 A cb w T P tv m l w' e:=by
 have hmk0:(ks.map (kidN nu)).length=ks.length:=List.length_map _
 have hl1:ks.length<=50:=by rw[br_size,hmk0] at le;unfold hsz need at le;omega
 have hl0:2<=ks.length:=by have:=ok.form.2.2.1;rw[hmk0] at this;exact this
 have IT:=b_items (h+1) ba B.length bc ka kc (ks.map (kidN nu)) w hK (by omega) ok.form.2.2.2
 have HG:=fun w1=>b_height (h+1) ba B.length bc ka (ks.map (kidN nu)).length kc w1
 have WT:∀w1,St w w1->Calls Tryz.prog 90 #[ptr cb,.iface 96 (brV (h+1) ba B.length bc ka (ks.map (kidN nu)).length kc)] w1 _:=fun w1 f1=>y_written (cg.still f1) s (nd.kept fun k hk=>hk.still f1) x ok pk ri le (by omega) (by omega) (by omega) (by omega) low
 have hsz4:=cg.hp.hp.geo.b.2.2.2.2.2
 have FIN:∀w1 w2 kv bv,St w w1->Wtn nu sz w0 hb sb b T0 A cb w1 T P tv m (h+1) l w2 kv bv->
   (∃g o pz np kc,kv = .slice (some ⟨g,o,none⟩) 1 kc/\w2.cell? ⟨g,o,none⟩=some (.int .u64 (pz:Nat))/\w2.cell? ⟨g,o+1,none⟩=some (.int .i64 (np:Nat))/\Rtd nu sz w0 hb sb b T0 A cb w T P tv m l w2 (.returned (.int .u64 (pz:Nat))))\/
   (∃ka kc ba bc nb,kv = .slice ka 2 kc/\bv = .slice ba nb bc/\∀w3,St w2 w3->Calls Tryz.prog 91 #[ptr cb,.iface 96 (brV (h+2) ba nb bc ka 2 kc)] w3 fun e w'=>∃pz np:Nat,e = .returned (.agg #[.int .u64 (pz:Nat),.int .i64 (np:Nat)])/\Rtd nu sz w0 hb sb b T0 A cb w T P tv m l w' (.returned (.int .u64 (pz:Nat)))):=fun w1 w2 kv bv f1 wt=>by
  obtain⟨T',P',tv',k,hk,wr,ka',kc',ba',bc',B',ks',Q',rfl,rfl,hK',hB',oK',oB',fo,hb'⟩:=wt
  have wr0:=wr.after f1
  have hks':ks'.length=B'.length+1:=by have:=fo.2.2.2.1.len;simpa using this
  have hmk:(ks'.map (kidN nu)).length=ks'.length:=List.length_map _
  rcases (show B'.length=0\/B'.length=1 by omega) with h0 | h0
  ·obtain⟨k1,rfl⟩:∃k1,ks' = [k1]:=List.length_eq_one_iff.1 (by omega)
   have hB0:B' = []:=List.length_eq_zero_iff.1 h0
   obtain⟨g,o,e,c1,c2⟩:=hK'.kid (k:=0) (p:=kidN nu k1) (by simp)
   refine .inl ⟨g,o,fi nu+8 * k1.1,k1.2.1.length,kc',by rw[e];rfl,by have:=c1;rw[Nat.zero_mul,Nat.add_zero] at this;exact this,by have:=c2;rw[Nat.zero_mul,Nat.add_zero] at this;exact this,T',P',tv',k,by omega,wr0,k1.1,h+1,k1.2.2,rfl,?_⟩
   have:=fo.1 k1 (by simp)
   have el:l=k1.2.1:=by rw[fo.2.1];simp
   rw[el]
   exact this
  ·refine .inr ⟨ka',kc',ba',bc',B'.length,by rw[hmk,hks',h0],rfl,fun w3 f3=>?_⟩
   have un:Un nu (Tr nu sz (says P' A) (h+1)) (h+2) (.br (h+2) B' (ks'.map (kidN nu))) l Q':=.inr ⟨by omega,_,_,rfl,fo⟩
   have ok':=un.ok hsz4 pk ri (by omega) h16 (fun _=>by show 2<=((ks'.map (kidN nu)).map _).length;rw[List.length_map,hmk];omega)
   have few:=wr0.ch.few
   have ln:=wr0.len
   have hkb:=kb_le fo.2.2.2.2
   have sm:(Nd.br (h+2) B' (ks'.map (kidN nu))).size<=32:=by
    rw[br_size,hmk]
    unfold hsz need
    omega
   have wr3:=wr0.still f3
   have K:=y_write wr3.cg wr3.ch.st (nv:=.iface 96 (brV (h+2) ba' B'.length bc' ka' (ks'.map (kidN nu)).length kc')) (n:=.br (h+2) B' (ks'.map (kidN nu))) ⟨ba',bc',ka',kc',rfl,hB'.still f3,hK'.still f3,fun y hy=>((oB' y hy).still f3).2,fun y hy=>((oK' y hy).still f3).2⟩ ok' sm (by have:=un.pairs;omega) (by omega) (by omega) (by omega) (wr3.ch.low low)
   rw[show(ks'.map (kidN nu)).length=2 by omega] at K
   refine K.mono ?_
   rintro e w4 ⟨u,g,rfl,st,wt⟩
   obtain⟨T4,P4,tv4,wr4,eg⟩:=wt.wr
   have wr:=wr3.trans wr4
   exact⟨_,_,rfl,T4,P4,tv4,k+1,by omega,wr,u,h+2,u :: Q',rfl,⟨_,Q',by rw[eg];exact st,wr4.ch.un un,rfl⟩⟩
 have HWT:=@Hd _ WT;have HFIN:=@Hd _ FIN
 have t1:=fun w=>taB_br (brV (h+1) ba B.length bc ka (ks.map (kidN nu)).length kc) w
 rw[hmk0] at *
 clear WT FIN cg s nd x ok pk ri le pl hP room low hK hsz4 hmk0
 generalize hks:ks.length=n at *
 generalize B.length=nb at *
 have hn0:((n:Int) == 0)=false:=by simp;omega
 have hn1:((n:Int) == 1)=false:=by simp;omega
 have hq16:h+1<16:=by omega
 have hqi:(((h+1:Nat):Int)<16)=True:=eq_true (by omega)
 have eh2:((h+2:Nat):Int)=((h+1:Nat):Int)+1:=by omega
 have HE2:=Hd eh2
 have w16:IntKind.i64.wrap (((h+1:Nat):Int)+1)=((h+2:Nat):Int):=by rw[IntKind.wrap_i64];omega
 clear eh2
 generalize h+2=h2 at *
 generalize h+1=h1 at *
 go_enter Tryz.func45,Tryz.ntmps45
 go_wp2_with fail
 refine IT.mono ?_
 rintro e w1 ⟨iv,rfl,hiv,f1⟩
 obtain⟨ia,ic,rfl⟩:=rows_form hiv
 clear hiv IT
 obtain⟨W,hW⟩:∃W,w1.alloc (.cells #[.int .i64 (h1:Int),.slice ba nb bc,.slice ka n kc] 96)=W:=⟨_,rfl⟩
 have fW1:St w1 W:=hW▸(Fr.refl _ w1).alloc _
 have fW:St w W:=f1.trans' fW1 nE
 have HW:=Hd hW
 clear hW f1 fW1
 go_wp2_with fail
 rw[uh HW]
 refine(uh HWT W fW).mono ?_
 rintro e w2 ⟨kv,bv,rfl,wt⟩
 clear HWT HW t1
 rcases uh HFIN W w2 kv bv fW wt with ⟨g,o,pz,np,kc2,rfl,c1,c2,fin⟩ | ⟨ka2,kc2,ba2,bc2,nb2,rfl,rfl,WR⟩
 ·have HE:=Hd fin
  clear fin HFIN wt HG
  go_wp2_with fail
  go_ret
  exact uh HE
 ·clear HFIN wt
  go_wp2_with fail
  refine(HG _).mono ?_
  rintro e w3 ⟨rfl,f3⟩
  go_wp2_with (first | (go_at_call 69;refine(y_must _).mono ?_;rintro e w' ⟨rfl,hh⟩;replace hh:=hh.symm;subst hh) | fail)
  refine(HG _).mono ?_
  rintro e w4 ⟨rfl,f4⟩
  have WR4:=WR w4 (f3.trans' f4 nE)
  clear WR HG
  go_wp2_with fail
  refine WR4.mono ?_
  rintro e w5 ⟨pz,np,rfl,fin⟩
  have HE:=Hd fin
  clear fin WR4
  have t9:=fun w=>fld_kid pz np w
  go_wp2_with fail
  go_ret
  exact uh HE
end
end

section
def Rt (nu sz:Nat) (f:Nat->Int) (r:Nat) (l:List Pr) (Q:List Nat):Prop:=(r=0/\l = []/\Q = [])\/∃h u,r=fi nu+8 * u/\Tr nu sz f h u l Q
section
variable {nu sz:Nat} {w w' w0:World} {hb sb b cb m:Nat} {T T0:Tay} {A:Ab} {P:List (Int×Int)} {tv:Value}
theorem Tr.node {f:Nat->Int} {h u:Nat} {l:List Pr} {Q:List Nat} (t:Tr nu sz f h u l Q):∃h',h=h'+1/\∃n Q',Std nu sz f u n/\Un nu (Tr nu sz f h') (h'+1) n l Q'/\n.high=h'+1:=by
 cases h with
 | zero=>exact t.elim
 | succ h=>
  obtain⟨n,Q',s,x,e⟩:=t
  refine⟨h,rfl,n,Q',s,x,?_⟩
  rcases x with ⟨e,rfl,_⟩ | ⟨_,B,ks,rfl,_⟩
  ·exact e.symm
  ·rfl
set_option maxRecDepth 100000 in
theorem y_top (h:Hp nu sz w hb sb b T A P) (u:Nat) (n:Nd) (s:Std nu sz (says P A) u n) :
  Calls Tryz.prog 47 #[ptr sb,.int .u64 (fi nu+8 * u:Nat)] w fun e w'=>∃v,e = .returned v/\NdO (fun k=>w.heap.size<=k/\k<w'.heap.size) w' v n/\St w w':=by
 have g:=h.hp.geo.b
 have f0:=fi_eight nu
 have hsd:n.size=hsz n.items.length (kb n.keys):=rfl
 have hr:n.items.length<=32/\kb n.keys<=300:=by have:=s.le;rw[hsd] at this;unfold hsz need at this;omega
 have HA:=y_headAt h (fi nu+8 * u) n.high n.items.length (kb n.keys) (by omega) (by omega) s.fit s.ok.h1 s.ok.h16 (by omega) (by omega) (by rw[<-hsd];exact s.le) (s.wd 0 _ rfl)
 have NA:∀w1,St w w1->Calls Tryz.prog 94 #[ptr sb,.int .u64 (fi nu+8 * u:Nat),.int .i64 n.high] w1 fun e w'=>∃v,e = .returned v/\NdO (fun k=>w1.heap.size<=k/\k<w'.heap.size) w' v n/\St w1 w':=fun w1 f1=>y_nodeAt (h.still f1) u n s
 have t9:=fun w=>fld_head n.high n.items.length (kb n.keys) w
 have hp0:(((fi nu+8 * u:Nat):Int) == 0)=false:=by simp;omega
 have HN:=@Hd _ NA
 unfold hdV at HA
 clear NA h s g f0 hsd hr
 generalize fi nu+8 * u=p at *
 generalize n.high=ht at *
 generalize n.items.length=it at *
 generalize kb n.keys=bt at *
 go_enter Tryz.func47,Tryz.ntmps47
 go_wp2_with fail
 refine HA.mono ?_
 rintro e w1 ⟨rfl,f1⟩
 clear HA
 go_wp2_with fail
 refine(uh HN w1 f1).mono ?_
 rintro e w2 ⟨v,rfl,nd,f2⟩
 have HD:=Hd nd
 clear nd HN t9
 go_wp2_with fail
 go_ret
 exact⟨v,rfl,(uh HD).mono fun k hk=>⟨Nat.le_trans f1.size hk.1,hk.2⟩,f1.trans' f2 nE⟩
theorem y_top0 (sv:Value) (w:World):Calls Tryz.prog 47 #[sv,.int .u64 0] w fun e w'=>∃v,e = .returned v/\NdO (fun k=>w.heap.size<=k/\k<w'.heap.size) w' v (.lf [])/\St w w':=by
 go_enter Tryz.func47,Tryz.ntmps47
 go_wp2_with fail
 go_ret
 refine⟨_,rfl,⟨some ⟨w.heap.size,0,none⟩,0,rfl,⟨rfl,Nat.le_refl _,(fun e=>by cases e),(fun u hu=>by cases hu),(fun j u hu=>by simp[pcl] at hu),(fun x e=>by cases e;rfl)⟩,fun x hx=>?_⟩,(Fr.refl _ w).alloc _⟩
 cases hx
 exact⟨Nat.le_refl _,by simp⟩
theorem y_topR (h:Hp nu sz w hb sb b T A P) {r:Nat} {l:List Pr} {Q:List Nat} (rt:Rt nu sz (says P A) r l Q) :
  Calls Tryz.prog 47 #[ptr sb,.int .u64 (r:Nat)] w fun e w'=>∃v n,e = .returned v/\NdO (fun k=>w.heap.size<=k/\k<w'.heap.size) w' v n/\St w w'/\((l = []/\n = .lf []/\Q = [])\/∃h' u Q',Std nu sz (says P A) u n/\Un nu (Tr nu sz (says P A) h') (h'+1) n l Q'/\r=fi nu+8 * u/\2 ^ h'<=l.length):=by
 rcases rt with ⟨rfl,rfl,rfl⟩ | ⟨h',u,rfl,t⟩
 ·refine(y_top0 (ptr sb) w).mono ?_
  rintro e w' ⟨v,rfl,nd,f⟩
  exact⟨v,_,rfl,nd,f,.inl ⟨rfl,rfl,rfl⟩⟩
 ·obtain⟨h',rfl,n,Q',st,un,_⟩:=t.node
  have:=t.pow
  refine(y_top h u n st).mono ?_
  rintro e w' ⟨v,rfl,nd,f⟩
  exact⟨v,n,rfl,nd,f,.inr ⟨h',u,Q',st,un,rfl,this⟩⟩
def PutC (nu sz:Nat) (w0:World) (hb sb b:Nat) (T0:Tay) (A:Ab) (cb:Nat) (w:World) (T:Tay) (P:List (Int×Int)) (tv:Value) (m:Nat) (l:List Pr) (w':World) (e:Ending):Prop:=
 ∃T' P' tv' k,(k<=20/\(l.length<=62->k<=13))/\Wr nu sz w0 hb sb b T0 A cb w T P tv m w' T' P' tv' k/\∃(r:Nat) (Q:List Nat),e = .returned (.int .u64 (r:Nat))/\r≠0/\Rt nu sz (says P' A) r l Q
theorem pow_le6 {h n:Nat} (h1:2 ^ h<=n) (h2:n<=63):h<=5:=by
 refine Nat.le_of_not_lt fun hh=>?_
 have:2 ^ 6<=2 ^ h:=Nat.pow_le_pow_right (by omega) hh
 omega
theorem putP_ge (x:ByteArray) (v:Nat):∀l:List Pr,l.length<=(putP l x v).length
 | []=>Nat.zero_le _
 | p :: l=>by
  unfold putP
  split
  ·have:=putP_ge x v l
   simp;omega
  ·split <;> simp
theorem pow_le {h n:Nat} (h1:2 ^ h<=n) (h2:n<=200):h<=7:=by
 refine Nat.le_of_not_lt fun hh=>?_
 have:2 ^ 8<=2 ^ h:=Nat.pow_le_pow_right (by omega) hh
 omega
set_option maxRecDepth 100000 in
theorem y_putC (c:Cg nu sz w0 hb sb b T0 A cb w T P tv 0) (s:HpS nu (says P A)) {r:Nat} {l:List Pr} {Q:List Nat} (rt:Rt nu sz (says P A) r l Q) (pk:Pok l) (ri:Rise l) (hl:l.length<=200) (x:ByteArray) (v:Nat) (hx:1<=x.size/\x.size<=80) (hv:v<18446744073709551616) (hP:P.length+3000<=6144) (room:cnt nu (ask nu (says P A))+30<nu / 4) (low:∀u,ask nu (says P A) u<=32)
  (bC bS bR bK bV:Nat) (oC:Off sb b T cb tv w bC) (oS:Off sb b T cb tv w bS) (oR:Off sb b T cb tv w bR) (oK:Off sb b T cb tv w bK) (oV:Off sb b T cb tv w bV) (dC:w.cell? ⟨bC,0,none⟩=some (ptr cb)) (dS:w.cell? ⟨bS,0,none⟩=some (ptr sb)) (dR:w.cell? ⟨bR,0,none⟩=some (.int .u64 (r:Nat))) (dK:w.cell? ⟨bK,0,none⟩=some (.string x)) (dV:w.cell? ⟨bV,0,none⟩=some (.int .u64 (v:Nat))) :
  Calls Tryz.prog 44 #[ptr bC,ptr bS,ptr bR,ptr bK,ptr bV] w fun e w'=>PutC nu sz w0 hb sb b T0 A cb w T P tv 0 (putP l x v) w' e:=by
 have TP:∀w1,St w w1->Calls Tryz.prog 47 #[ptr sb,.int .u64 (r:Nat)] w1 _:=fun w1 f1=>y_topR (c.still f1).hp rt
 have hsz4:=c.hp.hp.geo.b.2.2.2.2.2
 -- put, and then root
 have PR:∀w1 w2 nv n,St w w1->St w1 w2->NdO (fun k=>w1.heap.size<=k/\k<w2.heap.size) w2 nv n->((l = []/\n = .lf []/\Q = [])\/∃h' u Q',Std nu sz (says P A) u n/\Un nu (Tr nu sz (says P A) h') (h'+1) n l Q'/\r=fi nu+8 * u/\2 ^ h'<=l.length)->
   Calls Tryz.prog 46 #[ptr cb,nv,.string x,.int .u64 v] w2 fun e w3=>∃nv3,e = .returned nv3/\Keeps sb b T cb tv w T tv w/\(∀y u,w.cell? ⟨y,0,none⟩=some u->Off sb b T cb tv w y->w3.cell? ⟨y,0,none⟩=some u)/\Calls Tryz.prog 45 #[ptr cb,nv3] w3 fun e w4=>(∀y u,w.cell? ⟨y,0,none⟩=some u->Off sb b T cb tv w y->w4.cell? ⟨y,0,none⟩=some u)/\PutC nu sz w0 hb sb b T0 A cb w T P tv 0 (putP l x v) w4 e:=fun w1 w2 nv n f1 f2 nd hcs=>by
  have f02:St w w2:=f1.trans' f2 nE
  have c2:=(c.still f1).still f2
  have nd2:NdO (Off sb b T cb tv w2) w2 nv n:=nd.mono fun k hk=>(c.still f1).fresh hk.1 hk.2
  have pk4:Pok (putP l x v):=pk.put hx hv
  have ri4:Rise (putP l x v):=putP_rise ri
  have hl4:=putP_len x v l
  have hl5:=putP_ge x v l
  have key:∃h',(h'<=7/\(l.length<=62->h'<=5))/\Calls Tryz.prog 46 #[ptr cb,nv,.string x,.int .u64 v] w2 fun e w3=>Ptd nu sz w0 hb sb b T0 A cb w2 T P tv 0 h' (putP l x v) w3 e:=by
   rcases hcs with ⟨rfl,rfl,rfl⟩ | ⟨h',u,Q',st,un,_,hp⟩
   ·obtain⟨a,cc,rfl,hL,hF⟩:=nd
    refine⟨0,by omega,(y_put_leaf (ptr cb) a cc [] x v w2 hL ri (by simp)).mono ?_⟩
    rintro e w' ⟨nv,rfl,nd,f⟩
    exact⟨T,P,tv,0,by omega,Wr.base w' c2 s f,nv,_,[],rfl,nd.mono fun k hk=>c2.fresh hk.1 hk.2,.inl ⟨rfl,rfl,putP_ne _ x v,rfl⟩,by have:=putP_size [] x v hx.2;rw[lf_size [] ] at this;simp[hsz,need,kb] at this;omega,fun hh=>by omega⟩
   ·have h7:=pow_le hp hl
    exact⟨h',⟨h7,fun h=>pow_le6 hp (by omega)⟩,y_put x v hx hv h' c2 s nd2 un st.ok st.le pk ri (by omega) (by omega) (by omega) (by omega) low⟩
  obtain⟨h',h7,K⟩:=key
  refine K.mono ?_
  rintro e w3 ⟨T3,P3,tv3,k3,hk3,wr3,nv3,n3,Q3,rfl,nd3,un3,le3,it3⟩
  have wr:=wr3.after f02
  have cells:∀y u,w.cell? ⟨y,0,none⟩=some u->Off sb b T cb tv w y->w3.cell? ⟨y,0,none⟩=some u:=fun y u hc ho=>(World.cell?_of_block (a:=⟨y,0,none⟩) (wr.kp.2 y ho).1).trans hc
  refine⟨nv3,rfl,⟨Nat.le_refl _,fun _ hk=>⟨rfl,hk⟩⟩,cells,?_⟩
  have ok3:=un3.ok hsz4 pk4 ri4 (by omega) (by omega) it3
  have few:=wr.ch.few
  have ln:=wr.len
  have R:Calls Tryz.prog 45 #[ptr cb,nv3] w3 fun e w'=>Rtd nu sz w0 hb sb b T0 A cb w3 T3 P3 tv3 (0+k3) (putP l x v) w' e:=by
   rcases un3 with ⟨e0,rfl,hne,rfl⟩ | ⟨h2,B,ks,rfl,fo⟩
   ·obtain⟨a,cc,rfl,hL,hF⟩:=nd3
    have e0':h'=0:=by omega
    exact y_rootL wr3.cg wr3.ch.st a cc hL ⟨a,cc,rfl,hL,hF⟩ (.inl ⟨e0,rfl,hne,rfl⟩) ok3 pk4 ri4 le3 (by omega) (by omega) (by omega) (by omega) (by omega) (wr3.ch.low low) e0'
   ·obtain⟨ba,bc,ka,kc,rfl,hB,hK,oB,oK⟩:=nd3
    exact y_rootB wr3.cg wr3.ch.st ba bc B ka kc ks hK ⟨ba,bc,ka,kc,rfl,hB,hK,oB,oK⟩ (.inr ⟨h2,B,ks,rfl,fo⟩) ok3 pk4 ri4 le3 (by omega) (by omega) (by omega) (by omega) (by omega) (wr3.ch.low low)
  refine R.mono ?_
  rintro e w4 ⟨T4,P4,tv4,k4,hk4,wr4,u,h4,Q4,rfl,tr⟩
  have wrt:=wr.trans wr4
  refine⟨fun y u hc ho=>(World.cell?_of_block (a:=⟨y,0,none⟩) (wrt.kp.2 y ho).1).trans hc,T4,P4,tv4,k3+k4,by omega,wrt,_,Q4,rfl,?_,.inr ⟨h4,u,rfl,tr⟩⟩
  have:=c.hp.hp.geo.b
  omega
 have HTP:=@Hd _ TP;have HPR:=@Hd _ PR
 have HO:=Hd (ai oC (ai oS (ai oR (ai oK oV))))
 clear TP PR c s rt pk ri hl hx hv hP room low oC oS oR oK oV hsz4
 go_enter Tryz.func44,Tryz.ntmps44
 go_wp2_with fail
 have fD:St w w.drew:=(Fr.refl _ w).drewN 1
 refine wp_region_held_drew (S:=fun w'=>w'.cell? ⟨bC,0,none⟩=some (ptr cb)/\w'.cell? ⟨bS,0,none⟩=some (ptr sb)/\w'.cell? ⟨bR,0,none⟩=some (.int .u64 (r:Nat))/\w'.cell? ⟨bK,0,none⟩=some (.string x)/\w'.cell? ⟨bV,0,none⟩=some (.int .u64 (v:Nat))) (by kernel_rfl) ⟨dC,dS,dR,dK,dV⟩ (fun hHeld=>?_)
 refine tkO 0 (ptr cb) hHeld rfl ?_ ?_
 ·rintro w ⟨x0,x1,x2,x3,x4⟩;go_simp;try with_reducible rfl
 simp only[apt,List.set]
 refine tkO 1 (ptr cb) hHeld rfl ?_ ?_
 ·rintro w ⟨x0,x1,x2,x3,x4⟩;go_simp;try with_reducible rfl
 simp only[apt,List.set]
 refine tkO 2 (ptr sb) hHeld rfl ?_ ?_
 ·rintro w ⟨x0,x1,x2,x3,x4⟩;go_simp;try with_reducible rfl
 simp only[apt,List.set]
 refine tkO 3 (.int .u64 (r:Nat)) hHeld rfl ?_ ?_
 ·rintro w ⟨x0,x1,x2,x3,x4⟩;go_simp;try with_reducible rfl
 simp only[apt,List.set]
 refine tkO 5 (.string x) hHeld rfl ?_ ?_
 ·rintro w ⟨x0,x1,x2,x3,x4⟩;go_simp;try with_reducible rfl
 simp only[apt,List.set]
 refine tkO 6 (.int .u64 (v:Nat)) hHeld rfl ?_ ?_
 ·rintro w ⟨x0,x1,x2,x3,x4⟩;go_simp;try with_reducible rfl
 simp only[apt,List.set]
 refine rdO 4 rfl (fun K hK=>?_)
 go_simp
 go_wp2_with fail
 refine(uh HTP _ fD).mono ?_
 rintro e w2 ⟨nv,n,rfl,nd,f2,hcs⟩
 have f02:St w w2:=fD.trans' f2 nE
 refine hK.out _ _ ⟨f02.cell' dC id,f02.cell' dS id,f02.cell' dR id,f02.cell' dK id,f02.cell' dV id⟩ (fun _=>?_)
 clear hK K hHeld
 have PU:=uh HPR _ w2 nv n fD f2 nd hcs
 clear HPR HTP nd hcs f2 fD f02
 refine rdO 7 rfl (fun K hK=>?_)
 go_simp
 go_wp2_with fail
 refine PU.mono ?_
 rintro e w3 ⟨nv3,rfl,-,q3,RO⟩
 clear PU
 obtain⟨oC,oS,oR,oK,oV⟩:=uh HO
 refine hK.out _ _ ⟨q3 _ _ dC oC,q3 _ _ dS oS,q3 _ _ dR oR,q3 _ _ dK oK,q3 _ _ dV oV⟩ (fun _=>?_)
 clear hK K
 refine rdO 8 rfl (fun K hK=>?_)
 go_simp
 go_wp2_with fail
 refine RO.mono ?_
 rintro e w4 ⟨q4,T4,P4,tv4,k4,hk4,wr4,r4,Q4,rfl,hr4,rt4⟩
 have hS4:=ai (q4 _ _ dC oC) (ai (q4 _ _ dS oS) (ai (q4 _ _ dR oR) (ai (q4 _ _ dK oK) (q4 _ _ dV oV))))
 refine hK.out _ _ hS4 (fun _=>?_)
 clear hK K
 refine rdO 9 rfl (fun K hK=>?_)
 go_simp
 refine hK.out _ _ hS4 (fun _=>?_)
 clear hK K
 refine wpAnyH_done (by kernel_rfl) ?_ _
 have HE:=Hd (ai hk4 (ai wr4 (ai hr4 rt4)))
 clear hk4 wr4 hr4 rt4 hS4 q4 q3 RO HO oC oS oR oK oV dC dS dR dK dV
 go_wp2_with fail
 go_ret
 obtain⟨hk4,wr4,hr4,rt4⟩:=uh HE
 exact⟨T4,P4,tv4,k4,hk4,wr4,r4,Q4,rfl,hr4,rt4⟩
end
end
end Go.Proofs.YtbiopjmpdhcjgaaGreatDoor
