/- Joined: Dl Dm Dn. -/
import Derived.Test.YtbiopjmpdhcjgaaGreatDoorZ24
import Derived.Test.YtbiopjmpdhcjgaaGreatDoorZ28
import Derived.Test.YtbiopjmpdhcjgaaGreatDoorZ33
namespace Go.Proofs.YtbiopjmpdhcjgaaGreatDoor
open Go.RowKit
set_option maxHeartbeats 4000000

section
section
variable {nu sz:Nat} {w w' w0 w1 w2:World} {hb sb b cb m k:Nat} {T T0 T1:Tay} {A:Ab} {P P1:List (Int×Int)} {tv tv1:Value}
set_option maxRecDepth 100000 in
theorem y_root0 (cv:Value) (a:Option Addr) (c:Nat) (w:World) (hL:Lf w a c []):Calls Tryz.prog 45 #[cv,.iface 100 (.slice a 0 c)] w fun e w'=>e = .returned (.int .u64 0)/\St w w':=by
 have IT:=l_items a c [] w hL (by simp)
 simp only[List.length_nil] at IT
 clear hL
 go_enter Tryz.func45,Tryz.ntmps45
 go_wp2_with fail
 refine IT.mono ?_
 rintro e w1 ⟨v,rfl,row,f1⟩
 clear IT
 obtain⟨va,vc,rfl⟩:=rowZ row
 have HF:=Hd f1
 clear row f1
 go_wp2_with fail
 go_ret
 exact⟨rfl,uh HF⟩
set_option maxRecDepth 100000 in
theorem y_root1 (cv:Value) (hh:Nat) (ba:Option Addr) (bn bc:Nat) (ka:Option Addr) (kc:Nat) (p:Nat×Nat) (w:World) (hK:Kds w ka kc [p]) (hp:p.1<4294967296/\p.2<2147483648):Calls Tryz.prog 45 #[cv,.iface 96 (brV hh ba bn bc ka 1 kc)] w fun e w'=>e = .returned (.int .u64 (p.1:Nat))/\St w w':=by
 have IT:=b_items hh ba bn bc ka kc [p] w hK (by simp) (fun k hk=>by rw[List.mem_singleton.1 hk];exact hp)
 obtain⟨g,o,rfl,c1,c2⟩:=hK.kid (k:=0) (p:=p) rfl
 simp only[List.length_singleton,Nat.zero_mul,Nat.add_zero] at IT c1
 have t1:=fun w=>taB_br (brV hh ba bn bc (some ⟨g,o,none⟩) 1 kc) w
 clear hK c2
 go_enter Tryz.func45,Tryz.ntmps45
 go_wp2_with fail
 refine IT.mono ?_
 rintro e w1 ⟨v,rfl,row,f1⟩
 clear IT
 obtain⟨va,vc,rfl⟩:=rowZ row
 have d1:=f1.cell' c1 id
 have HF:=Hd f1
 clear row f1 c1
 obtain⟨W,hW⟩:∃W,w1.alloc (.cells #[.int .i64 hh,.slice ba bn bc,.slice (some ⟨g,o,none⟩) 1 kc] 96)=W:=⟨_,rfl⟩
 have fW:St w1 W:=hW▸(Fr.refl _ w1).alloc _
 have d2:=fW.cell' d1 id
 have HW:=Hd (ai hW fW)
 rw[<-hW] at d2
 clear hW fW d1
 go_wp2_with fail
 go_ret
 obtain⟨hW,fW⟩:=uh HW
 rw[hW]
 exact⟨rfl,(uh HF).trans' fW nE⟩
def DelC (nu sz:Nat) (w0:World) (hb sb b:Nat) (T0:Tay) (A:Ab) (cb:Nat) (w:World) (T:Tay) (P:List (Int×Int)) (tv:Value) (m:Nat) (l:List Pr) (w':World) (e:Ending):Prop:=
 ∃T' P' tv' k,(k<=20/\(l.length<=62->k<=13))/\Wr nu sz w0 hb sb b T0 A cb w T P tv m w' T' P' tv' k/\∃(r:Nat) (Q:List Nat),e = .returned (.int .u64 (r:Nat))/\Rt nu sz (says P' A) r l Q
def DelE (nu sz:Nat) (w0:World) (sb b:Nat) (T0:Tay) (A:Ab) (P:List (Int×Int)) (l:List Pr) (w':World) (r:Nat):Prop:=
 ∃T' P' Q k,(k<=20/\(l.length<=62->k<=13))/\Onx w0 sb b T0 w' T' sz A P' false/\P'.length<=P.length+1600/\Chg nu (says P A) k (says P' A)/\Rt nu sz (says P' A) r l Q
set_option maxRecDepth 100000 in
theorem y_delC (c:Cg nu sz w0 hb sb b T0 A cb w T P tv 0) (s:HpS nu (says P A)) {r:Nat} {l:List Pr} {Q:List Nat} (rt:Rt nu sz (says P A) r l Q) (pk:Pok l) (ri:Rise l) (hl:l.length<=200) (x:ByteArray) (v:Nat) (hin:(x,v)∈l) (hP:P.length+3000<=6144) (room:cnt nu (ask nu (says P A))+30<nu / 4) (low:∀u,ask nu (says P A) u<=32)
  (bC bS bR bK:Nat) (oC:Off sb b T cb tv w bC) (oS:Off sb b T cb tv w bS) (oR:Off sb b T cb tv w bR) (oK:Off sb b T cb tv w bK) (dC:w.cell? ⟨bC,0,none⟩=some (ptr cb)) (dS:w.cell? ⟨bS,0,none⟩=some (ptr sb)) (dR:w.cell? ⟨bR,0,none⟩=some (.int .u64 (r:Nat))) (dK:w.cell? ⟨bK,0,none⟩=some (.string x)) :
  Calls Tryz.prog 56 #[ptr bC,ptr bS,ptr bR,ptr bK] w fun e w'=>DelC nu sz w0 hb sb b T0 A cb w T P tv 0 (delP l x) w' e:=by
 have TP:∀w1,St w w1->Calls Tryz.prog 47 #[ptr sb,.int .u64 (r:Nat)] w1 _:=fun w1 f1=>y_topR (c.still f1).hp rt
 have hsz4:=c.hp.hp.geo.b.2.2.2.2.2
 -- del, and then root
 have PR:∀w1 w2 nv n,St w w1->St w1 w2->NdO (fun k=>w1.heap.size<=k/\k<w2.heap.size) w2 nv n->((l = []/\n = .lf []/\Q = [])\/∃h' u Q',Std nu sz (says P A) u n/\Un nu (Tr nu sz (says P A) h') (h'+1) n l Q'/\r=fi nu+8 * u/\2 ^ h'<=l.length)->
   Calls Tryz.prog 57 #[ptr cb,nv,.string x] w2 fun e w3=>∃nv3,e = .returned nv3/\Keeps sb b T cb tv w T tv w/\(∀y u,w.cell? ⟨y,0,none⟩=some u->Off sb b T cb tv w y->w3.cell? ⟨y,0,none⟩=some u)/\Calls Tryz.prog 45 #[ptr cb,nv3] w3 fun e w4=>(∀y u,w.cell? ⟨y,0,none⟩=some u->Off sb b T cb tv w y->w4.cell? ⟨y,0,none⟩=some u)/\DelC nu sz w0 hb sb b T0 A cb w T P tv 0 (delP l x) w4 e:=by
  intro w1 w2 nv n f1 f2 nd hcs
  have f02:St w w2:=f1.trans' f2 nE
  have c2:=(c.still f1).still f2
  have nd2:NdO (Off sb b T cb tv w2) w2 nv n:=nd.mono fun k hk=>(c.still f1).fresh hk.1 hk.2
  have pk4:Pok (delP l x):=pk.sub (delP_sub x l)
  have ri4:Rise (delP l x):=ri.sub (delP_sub x l)
  have hl4:=(delP_sub x l).length_le
  obtain⟨h',u,Q',st,un,_,hp⟩:∃h' u Q',Std nu sz (says P A) u n/\Un nu (Tr nu sz (says P A) h') (h'+1) n l Q'/\r=fi nu+8 * u/\2 ^ h'<=l.length:=by
   rcases hcs with ⟨e,_⟩ | h
   ·rw[e] at hin;cases hin
   ·exact h
  have h7:=pow_le hp hl
  have hl5:=delP_len ri hin
  have h6:l.length<=63->h'<=5:=pow_le6 hp
  refine(y_del x v h' c2 s nd2 un st.ok st.le pk ri (by omega) (by omega) (by omega) (by omega) low hin).mono ?_
  rintro e w3 ⟨T3,P3,tv3,k3,hk3,wr3,nv3,n3,Q3,rfl,nd3,un3,le3⟩
  have wr:=wr3.after f02
  have cells:∀y u,w.cell? ⟨y,0,none⟩=some u->Off sb b T cb tv w y->w3.cell? ⟨y,0,none⟩=some u:=fun y u hc ho=>(World.cell?_of_block (a:=⟨y,0,none⟩) (wr.kp.2 y ho).1).trans hc
  refine⟨nv3,rfl,⟨Nat.le_refl _,fun _ hk=>⟨rfl,hk⟩⟩,cells,?_⟩
  have few:=wr.ch.few
  have ln:=wr.len
  have hg:=c.hp.hp.geo.b
  -- nothing is left, or one kid alone
  have quiet:∀r' Q',Rt nu sz (says P3 A) r' (delP l x) Q'->Calls Tryz.prog 45 #[ptr cb,nv3] w3 (fun e w'=>e = .returned (.int .u64 (r':Nat))/\St w3 w')->Calls Tryz.prog 45 #[ptr cb,nv3] w3 fun e w4=>(∀y u,w.cell? ⟨y,0,none⟩=some u->Off sb b T cb tv w y->w4.cell? ⟨y,0,none⟩=some u)/\DelC nu sz w0 hb sb b T0 A cb w T P tv 0 (delP l x) w4 e:=fun r' Q' rt' K=>by
   refine K.mono ?_
   rintro e w4 ⟨rfl,f4⟩
   exact⟨fun y u hc ho=>f4.cell' (cells y u hc ho) id,T3,P3,tv3,k3,by omega,wr.still f4,r',Q',rfl,rt'⟩
  rcases un3 with ⟨e3,el,eh⟩ | un3
  ·subst e3
   obtain⟨a,cc,rfl,hL,_⟩:=nd3
   exact quiet 0 [] (.inl ⟨rfl,el,rfl⟩) (y_root0 (ptr cb) a cc w3 hL)
  ·have un0:=un3
   rcases un3 with ⟨e0,rfl,hne,rfl⟩ | ⟨h2,B,ks,rfl,fo⟩
   ·obtain⟨a,cc,rfl,hL,hF⟩:=nd3
    have e0':h'=0:=by omega
    have R:=y_rootL wr3.cg wr3.ch.st a cc hL ⟨a,cc,rfl,hL,hF⟩ un0 (un0.ok hsz4 pk4 ri4 (by omega) (by omega) (fun e=>by omega)) pk4 ri4 le3 (by omega) (by omega) (by omega) (by omega) (by omega) (wr3.ch.low low) e0'
    refine R.mono ?_
    rintro e w4 ⟨T4,P4,tv4,k4,hk4,wr4,u,h4,Q4,rfl,tr⟩
    have wrt:=wr.trans wr4
    exact⟨fun y u hc ho=>(World.cell?_of_block (a:=⟨y,0,none⟩) (wrt.kp.2 y ho).1).trans hc,T4,P4,tv4,k3+k4,by omega,wrt,_,Q4,rfl,.inr ⟨h4,u,rfl,tr⟩⟩
   ·obtain⟨ba,bc,ka,kc,rfl,hB,hK,oB,oK⟩:=nd3
    have hlen:ks.length=B.length+1:=by have:=fo.2.2.2.1.len;simpa using this
    by_cases h1:ks.length=1
    ·obtain⟨k1,rfl⟩:=List.length_eq_one_iff.1 h1
     have hkid:=fo.kids hsz4 (by omega) (kidN nu k1) (by simp)
     have tr1:=fo.1 k1 (by simp)
     have el:delP l x=k1.2.1:=by rw[fo.2.1];simp
     exact quiet (fi nu+8 * k1.1) k1.2.2 (.inr ⟨h',k1.1,rfl,by rw[el];exact tr1⟩) (y_root1 (ptr cb) (h'+1) ba B.length bc ka kc (kidN nu k1) w3 hK hkid)
    ·have R:=y_rootB wr3.cg wr3.ch.st ba bc B ka kc ks hK ⟨ba,bc,ka,kc,rfl,hB,hK,oB,oK⟩ un0 (un0.ok hsz4 pk4 ri4 (by omega) (by omega) (fun _=>by simp[Nd.items];omega)) pk4 ri4 le3 (by omega) (by omega) (by omega) (by omega) (by omega) (wr3.ch.low low)
     refine R.mono ?_
     rintro e w4 ⟨T4,P4,tv4,k4,hk4,wr4,u,h4,Q4,rfl,tr⟩
     have wrt:=wr.trans wr4
     exact⟨fun y u hc ho=>(World.cell?_of_block (a:=⟨y,0,none⟩) (wrt.kp.2 y ho).1).trans hc,T4,P4,tv4,k3+k4,by omega,wrt,_,Q4,rfl,.inr ⟨h4,u,rfl,tr⟩⟩
 have HTP:=@Hd _ TP;have HPR:=@Hd _ PR
 have HO:=Hd (ai oC (ai oS (ai oR oK)))
 clear TP PR c s rt pk ri hl hP room low oC oS oR oK hsz4 hin
 go_enter Tryz.func56,Tryz.ntmps56
 go_wp2_with fail
 have fD:St w w.drew:=(Fr.refl _ w).drewN 1
 refine wp_region_held_drew (S:=fun w'=>w'.cell? ⟨bC,0,none⟩=some (ptr cb)/\w'.cell? ⟨bS,0,none⟩=some (ptr sb)/\w'.cell? ⟨bR,0,none⟩=some (.int .u64 (r:Nat))/\w'.cell? ⟨bK,0,none⟩=some (.string x)) (by kernel_rfl) ⟨dC,dS,dR,dK⟩ (fun hHeld=>?_)
 refine tkO 0 (ptr cb) hHeld rfl ?_ ?_
 ·rintro w ⟨x0,x1,x2,x3⟩;go_simp;try with_reducible rfl
 simp only[apt,List.set]
 refine tkO 1 (ptr cb) hHeld rfl ?_ ?_
 ·rintro w ⟨x0,x1,x2,x3⟩;go_simp;try with_reducible rfl
 simp only[apt,List.set]
 refine tkO 2 (ptr sb) hHeld rfl ?_ ?_
 ·rintro w ⟨x0,x1,x2,x3⟩;go_simp;try with_reducible rfl
 simp only[apt,List.set]
 refine tkO 3 (.int .u64 (r:Nat)) hHeld rfl ?_ ?_
 ·rintro w ⟨x0,x1,x2,x3⟩;go_simp;try with_reducible rfl
 simp only[apt,List.set]
 refine tkO 5 (.string x) hHeld rfl ?_ ?_
 ·rintro w ⟨x0,x1,x2,x3⟩;go_simp;try with_reducible rfl
 simp only[apt,List.set]
 refine rdO 4 rfl (fun K hK=>?_)
 go_simp
 go_wp2_with fail
 refine(uh HTP _ fD).mono ?_
 rintro e w2 ⟨nv,n,rfl,nd,f2,hcs⟩
 have f02:St w w2:=fD.trans' f2 nE
 refine hK.out _ _ ⟨f02.cell' dC id,f02.cell' dS id,f02.cell' dR id,f02.cell' dK id⟩ (fun _=>?_)
 clear hK K hHeld
 have PU:=uh HPR _ w2 nv n fD f2 nd hcs
 clear HPR HTP nd hcs f2 fD f02
 refine rdO 6 rfl (fun K hK=>?_)
 go_simp
 go_wp2_with fail
 refine PU.mono ?_
 rintro e w3 ⟨nv3,rfl,-,q3,RO⟩
 clear PU
 obtain⟨oC,oS,oR,oK⟩:=uh HO
 refine hK.out _ _ ⟨q3 _ _ dC oC,q3 _ _ dS oS,q3 _ _ dR oR,q3 _ _ dK oK⟩ (fun _=>?_)
 clear hK K
 refine rdO 7 rfl (fun K hK=>?_)
 go_simp
 go_wp2_with fail
 refine RO.mono ?_
 rintro e w4 ⟨q4,T4,P4,tv4,k4,hk4,wr4,r4,Q4,rfl,rt4⟩
 have hS4:=ai (q4 _ _ dC oC) (ai (q4 _ _ dS oS) (ai (q4 _ _ dR oR) (q4 _ _ dK oK)))
 refine hK.out _ _ hS4 (fun _=>?_)
 clear hK K
 refine rdO 8 rfl (fun K hK=>?_)
 go_simp
 refine hK.out _ _ hS4 (fun _=>?_)
 clear hK K
 refine wpAnyH_done (by kernel_rfl) ?_ _
 have HE:=Hd (ai hk4 (ai wr4 rt4))
 clear hk4 wr4 rt4 hS4 q4 q3 RO HO oC oS oR oK dC dS dR dK
 go_wp2_with fail
 go_ret
 obtain⟨hk4,wr4,rt4⟩:=uh HE
 exact⟨T4,P4,tv4,k4,hk4,wr4,r4,Q4,rfl,rt4⟩
set_option maxRecDepth 100000 in
theorem y_madeCD (_c:Cg nu sz w0 hb sb b T0 A cb w T P tv 0) {l:List Pr} (b3 b4:Nat) (fc:Array Value) (PC:Calls Tryz.prog 56 fc w fun e w'=>DelC nu sz w0 hb sb b T0 A cb w T P tv 0 l w' e) (d3:w.cell? ⟨b3,0,none⟩=some (.func (.func 56) #[] fc)) (o4:w.heap[b4]? = some (.cells #[.int .u64 0] 27 (0,0))) (of4:Off sb b T cb tv w b4) :
  Calls Tryz.prog 87 #[ptr b3,ptr b4] w fun e w'=>e = .returned (.tuple #[])/\∃w1 r,DelC nu sz w0 hb sb b T0 A cb w T P tv 0 l w1 (.returned (.int .u64 (r:Nat)))/\w'=w1.setCell ⟨b4,0,none⟩ (.int .u64 (r:Nat))/\w1.heap[b4]? = some (.cells #[.int .u64 0] 27 (0,0)):=by
 have HP:=Hd PC
 have HO:=Hd (ai o4 of4)
 clear PC o4 of4
 go_enter Tryz.func87,Tryz.ntmps87
 go_wp2_with fail
 refine(uh HP).mono ?_
 rintro e w1 ⟨T1,P1,tv1,k1,hk1,wr1,r,Q1,rfl,rt⟩
 obtain⟨o4,of4⟩:=uh HO
 have o41:=(wr1.kp.2 _ of4).1.trans o4
 have d4:w1.cell? ⟨b4,0,none⟩=some (.int .u64 0):=cOo o41 0
 have z4:w1.frozen? ⟨b4,0,none⟩=false:=by simp[World.frozen?,o41]
 have HE:=Hd (ai hk1 (ai wr1 (ai rt o41)))
 clear hk1 wr1 rt o41 o4 of4 HP HO d3
 go_wp2_with fail
 go_end0
 obtain⟨hk1,wr1,rt,o41⟩:=uh HE
 exact⟨rfl,w1,r,⟨T1,P1,tv1,k1,hk1,wr1,r,Q1,rfl,rt⟩,rfl,o41⟩
set_option maxRecDepth 100000 in
theorem y_madeD (c:Cg nu sz w0 hb sb b T0 A cb w T P (.slice none 0 0) 0) {l:List Pr} (fc:Array Value) (PC:∀w1,St w w1->Calls Tryz.prog 56 fc w1 fun e w'=>DelC nu sz w0 hb sb b T0 A cb w1 T P (.slice none 0 0) 0 l w' e) :
  Calls Tryz.prog 43 #[ptr cb,.func (.func 56) #[] fc] w fun e w'=>∃r,e = .returned (.int .u64 (r:Nat))/\DelE nu sz w0 sb b T0 A P l w' r:=by
 have h0:=c.on.fr.size
 obtain⟨W1,hW1⟩:∃W1,w.alloc (.cells #[ptr cb] 79)=W1:=⟨_,rfl⟩
 obtain⟨W2,hW2⟩:∃W2,W1.alloc (.cells #[.func (.func 56) #[] fc] 88)=W2:=⟨_,rfl⟩
 obtain⟨W3,hW3⟩:∃W3,W2.alloc (.cells #[.int .u64 0] 27)=W3:=⟨_,rfl⟩
 obtain⟨g,hg⟩:∃g,w.heap.size=g:=⟨_,rfl⟩
 have z1:W1.heap.size=g+1:=by rw[<-hW1];simp[hg]
 have z2:W2.heap.size=g+2:=by rw[<-hW2];simp;omega
 have z3:W3.heap.size=g+3:=by rw[<-hW3];simp;omega
 have f1:St w W1:=hW1▸(Fr.refl _ w).alloc _
 have f2:St W1 W2:=hW2▸(Fr.refl _ W1).alloc _
 have f3:St W2 W3:=hW3▸(Fr.refl _ W2).alloc _
 have f03:St w W3:=(f1.trans' f2 nE).trans' f3 nE
 have oF:W3.heap[g+1]? = some (.cells #[.func (.func 56) #[] fc] 88 (0,0)):=by
  have:=heap_alloc_new W1 (.cells #[.func (.func 56) #[] fc] 88)
  rw[hW2,z1] at this;exact f3.obj this id
 have oR:W3.heap[g+2]? = some (.cells #[.int .u64 0] 27 (0,0)):=by
  have:=heap_alloc_new W2 (.cells #[.int .u64 0] 27)
  rw[hW3,z2] at this;exact this
 have fb:St W3 (W3.alloc box):=(Fr.refl _ W3).alloc _
 have f0b:St w (W3.alloc box):=f03.trans' fb nE
 have zb:(W3.alloc box).heap.size=g+4:=by simp;omega
 have cb4:=c.still f0b
 have of2:Off sb b T cb (.slice none 0 0) (W3.alloc box) (g+2):=c.fresh (by omega) (by omega)
 have of3:Off sb b T cb (.slice none 0 0) (W3.alloc box) (g+3):=c.fresh (by omega) (by omega)
 have CL:=y_madeCD cb4 (g+1) (g+2) fc (PC _ f0b) (cOo (fb.obj oF id) 0) (fb.obj oR id) of2
 have ft:∀k,tfoot sb b T k->k<g:=fun k hk=>by rw[<-hg];exact c.hp.st.lt k hk
 have ltc:cb<g:=by rw[<-hg];exact c.lt
 have TR:Calls Tryz.prog 80 #[.func (.func 87) #[] #[ptr (g+1),ptr (g+2)]] W3 fun e w'=>∃h:How,e = .returned (.tuple #[h.v,.bool h.is])/\(h = .well/\∃r:Nat,DelE nu sz w0 sb b T0 A P l w' r/\w'.heap[g+2]? = some (.cells #[.int .u64 (r:Nat)] 27 (0,0))):=
  try_fr (F:=fun k=>tfoot sb b T k\/k=cb\/k=g+2) (fun k hk=>by rcases hk with hk | hk | hk;(· have:=ft k hk;omega);(· omega);(· omega)) (acts_of (fun _ _=>by kernel_rfl) (CL.mono (by
   rintro e w' ⟨rfl,w1,r,⟨T1,P1,tv1,k1,hk1,wr1,r',Q1,er,rt⟩,rfl,o4⟩
   have er':(r:Int)=r':=by injection er with e1;injection e1
   have er2:r=r':=by omega
   subst er2
   have fr1:=wr1.fr cb4
   have fs:Fr (fun k=>k=g+2) w1 (w1.setCell ⟨g+2,0,none⟩ (.int .u64 (r:Nat))):=(Fr.refl (fun k=>k=g+2) w1).setCell (.inl rfl) _
   have fr2:Fr (fun k=>tfoot sb b T k\/k=cb\/k=g+2) (W3.alloc box) (w1.setCell ⟨g+2,0,none⟩ (.int .u64 (r:Nat))):=(fr1.mono (fun k hk=>.inl (by rcases hk with hk | hk | hk;(· exact .inl hk);(· exact .inr (.inl hk));(· cases hk)))).trans' fs (fun k hk=>.inl (.inr (.inr hk)))
   refine⟨.well,rfl,fr2,fun w2 ff2=>⟨rfl,r,⟨T1,P1,Q1,k1,hk1,?_,by have:=wr1.len;omega,wr1.ch,rt⟩,?_⟩⟩
   ·have k2:=(wr1.kp.2 _ of2).2
    have k3:=(wr1.kp.2 _ of3).2
    have on1:=wr1.cg.on.turn fs (fun k hk=>by rw[hk];exact k2.2.1) (fun k hk=>by rw[hk];omega)
    exact on1.turn ff2 (fun k hk=>by rw[hk,z3];exact k3.2.1) (fun k hk=>by rw[hk];omega)
   ·exact ff2.obj (heap_setCell_same w1 (g+2) 0 _ _ _ o4) (fun e=>by have e:g+2=W3.heap.size:=e;omega))))
 have ER:=g_errno TR (fun h w' x=>.inl x.1)
 have HER:=Hd ER;have HW:=Hd (ai hW1 (ai hW2 hW3))
 clear c PC CL TR ER f1 f2 f3 f03 oF oR fb f0b zb cb4 of2 of3 ft ltc hW1 hW2 hW3 z1 z2 z3 h0
 go_enter Tryz.func43,Tryz.ntmps43
 go_wp2_with fail
 rw[(uh HW).1,(uh HW).2.1,(uh HW).2.2,show g+1+1=g+2 from rfl]
 refine(uh HER).mono ?_
 clear HER HW
 rintro e w4 (⟨rfl,-,r,pe,o4⟩ | ⟨i,-,e,_⟩)
 ·have d4:w4.cell? ⟨g+2,0,none⟩=some (.int .u64 (r:Nat)):=cOo o4 0
  have z4:w4.frozen? ⟨g+2,0,none⟩=false:=by simp[World.frozen?,o4]
  have HE:=Hd (ai pe o4)
  clear pe o4
  go_wp2_with fail
  obtain⟨pe,o4⟩:=uh HE
  obtain⟨w5,hw5⟩:∃w5,w4.setCell ⟨g+2,0,none⟩ (.int .u64 (r:Nat))=w5:=⟨_,rfl⟩
  have o5:w5.heap[g+2]? = some (.cells #[.int .u64 (r:Nat)] 27 (0,0)):=hw5▸heap_setCell_same w4 (g+2) 0 _ _ _ o4
  have e5:∀k,w5.heap[k]? = w4.heap[k]?:=fun k=>by
   by_cases hk:k=g+2
   ·rw[hk,o5,o4]
   ·rw[<-hw5];exact Below.heap_setCell _ _ _ _ (fun e=>hk e)
  rw[hw5]
  refine bodyPost_ret (results_cell1 Tryz.results43 _ _ (g+2) (.int .u64 (r:Nat)) (by rfl) (load_u64 w5 (g+2) _ (cOo o5 0))) rfl ?_
  refine⟨r,rfl,?_⟩
  have f5:St w4 w5:=⟨by rw[<-hw5];rfl,by rw[<-hw5];rfl,by rw[<-hw5];rfl,by rw[<-hw5];exact Nat.le_of_eq (by simp),fun k _ _=>e5 k⟩
  obtain⟨T',P',Q,kk,h1,h2,h3⟩:=pe
  exact⟨T',P',Q,kk,h1,h2.quiet f5,h3⟩
 ·exact absurd e (by intro h;cases h)
end
end

section
theorem getP_mem {x:ByteArray}:∀{l:List Pr} {v:Nat},getP l x=some v->(x,v)∈l
 | [],_,h=>by cases h
 | p :: l,v,h=>by
  unfold getP at h
  split at h
  ·next e=>cases h;rw[<-e];exact List.mem_cons_self ..
  ·exact List.mem_cons_of_mem _ (getP_mem h)
section
variable {nu sz:Nat} {w w' w0 w1 w2:World} {hb sb b cb m k:Nat} {T T0 T1:Tay} {A:Ab} {P P1:List (Int×Int)} {tv tv1:Value}
set_option maxRecDepth 100000 in
theorem y_Del (h:Hp nu sz w hb sb b T A P) (s:HpS nu (says P A)) {r:Nat} {l:List Pr} {Q:List Nat} (rt:Rt nu sz (says P A) r l Q) (pk:Pok l) (ri:Rise l) (hl:l.length<=200) (x:ByteArray) (hP:P.length+3000<=6144) (room:cnt nu (ask nu (says P A))+30<nu / 4) (low:∀u,ask nu (says P A) u<=32) :
  Calls Tryz.prog 19 #[ptr sb,ptr hb,.int .u64 (r:Nat),.string x] w fun e w'=>(getP l x=none/\e = .returned (.tuple #[.int .u64 (r:Nat),.bool false])/\St w w')\/∃v,(x,v)∈l/\∃r':Nat,e = .returned (.tuple #[.int .u64 (r':Nat),.bool true])/\DelE nu sz w sb b T A P (delP l x) w' r':=by
 obtain⟨g,hg⟩:∃g,w.heap.size=g:=⟨_,rfl⟩
 obtain⟨W1,hW1⟩:∃W,w.alloc (.cells #[ptr sb] 23)=W:=⟨_,rfl⟩
 obtain⟨W2,hW2⟩:∃W,W1.alloc (.cells #[.int .u64 (r:Nat)] 27)=W:=⟨_,rfl⟩
 obtain⟨W3,hW3⟩:∃W,W2.alloc (.cells #[.string x] 9)=W:=⟨_,rfl⟩
 have z1:W1.heap.size=g+1:=by rw[<-hW1];simp[hg]
 have z2:W2.heap.size=g+2:=by rw[<-hW2];simp;omega
 have z3:W3.heap.size=g+3:=by rw[<-hW3];simp;omega
 have f1:St w W1:=hW1▸(Fr.refl _ w).alloc _
 have f2:St W1 W2:=hW2▸(Fr.refl _ W1).alloc _
 have f3:St W2 W3:=hW3▸(Fr.refl _ W2).alloc _
 have f13:St W1 W3:=f2.trans' f3 nE
 have f03:St w W3:=f1.trans' f13 nE
 have oS:W3.heap[g]? = some (.cells #[ptr sb] 23 (0,0)):=by
  have:=heap_alloc_new w (.cells #[ptr sb] 23)
  rw[hW1,hg] at this;exact f13.obj this id
 have oR:W3.heap[g+1]? = some (.cells #[.int .u64 (r:Nat)] 27 (0,0)):=by
  have:=heap_alloc_new W1 (.cells #[.int .u64 (r:Nat)] 27)
  rw[hW2,z1] at this;exact f3.obj this id
 have oK:W3.heap[g+2]? = some (.cells #[.string x] 9 (0,0)):=by
  have:=heap_alloc_new W2 (.cells #[.string x] 9)
  rw[hW3,z2] at this;exact this
 have GT:=y_Get (h.still f03) rt ri x
 have HG:=Hd GT;have HW:=Hd (ai hW1 (ai hW2 hW3))
 have HX:=Hd (ai h (ai s (ai rt (ai pk (ai ri (ai hl (ai hP (ai room low))))))))
 have HO:=Hd (ai oS (ai oR (ai oK (ai f03 z3))))
 clear GT hW1 hW2 hW3 h s rt pk ri hl hP room low oS oR oK f1 f2 f3 f13 f03 z1 z2 z3
 go_enter Tryz.func19,Tryz.ntmps19
 go_wp2_with fail
 simp only[show g+1+1=g+2 from rfl]
 obtain⟨hW1,hW2,hW3⟩:=uh HW
 rw[hW1,hW2,hW3]
 clear hW1 hW2 hW3 HW
 refine(uh HG).mono ?_
 clear HG
 rintro e w4 ⟨rfl,f4⟩
 obtain⟨oS,oR,oK,f03,z3⟩:=uh HO
 have f04:St w w4:=f03.trans' f4 nE
 have dS:w4.cell? ⟨g,0,none⟩=some (ptr sb):=cOo (f4.obj oS id) 0
 have dR:w4.cell? ⟨g+1,0,none⟩=some (.int .u64 (r:Nat)):=cOo (f4.obj oR id) 0
 have dK:w4.cell? ⟨g+2,0,none⟩=some (.string x):=cOo (f4.obj oK id) 0
 cases hgp:getP l x with
 | none=>
  have HF:=Hd (ai f04 hgp)
  clear oS oR oK f03 z3 f4 f04 hgp
  simp only[Option.getD_none,Option.isSome_none]
  go_wp2_with fail
  go_ret2
  obtain⟨f04,hgp⟩:=uh HF
  exact .inl ⟨hgp,rfl,f04⟩
 | some v=>
  have hin:=getP_mem hgp
  obtain⟨h,s,rt,pk,ri,hl,hP,room,low⟩:=uh HX
  obtain⟨n4,hn4⟩:∃n4,w4.heap.size=n4:=⟨_,rfl⟩
  have l4:g+3<=n4:=by rw[<-hn4,<-z3];exact f4.size
  obtain⟨W5,hW5⟩:∃W,w4.alloc (.cells #[ptr sb,ptr hb,.slice none 0 0] 81)=W:=⟨_,rfl⟩
  obtain⟨W6,hW6⟩:∃W,W5.alloc (.cells #[ptr n4] 79)=W:=⟨_,rfl⟩
  have z5:W5.heap.size=n4+1:=by rw[<-hW5];simp[hn4]
  have z6:W6.heap.size=n4+2:=by rw[<-hW6];simp;omega
  have f5:St w4 W5:=hW5▸(Fr.refl _ w4).alloc _
  have f6:St W5 W6:=hW6▸(Fr.refl _ W5).alloc _
  have f46:St w4 W6:=f5.trans' f6 nE
  have f06:St w W6:=f04.trans' f46 nE
  have f36:St W3 W6:=f4.trans' f46 nE
  have oG:W6.heap[n4]? = some (.cells #[ptr sb,ptr hb,.slice none 0 0] 81 (0,0)):=by
   have:=heap_alloc_new w4 (.cells #[ptr sb,ptr hb,.slice none 0 0] 81)
   rw[hW5,hn4] at this;exact f6.obj this id
  have oC:W6.heap[n4+1]? = some (.cells #[ptr n4] 79 (0,0)):=by
   have:=heap_alloc_new W5 (.cells #[ptr n4] 79)
   rw[hW6,z5] at this;exact this
  have ft:∀k,tfoot sb b T k->k<g:=fun k hk=>by rw[<-hg];exact h.st.lt k hk
  have c:Cg nu sz w hb sb b T A n4 W6 T P (.slice none 0 0) 0:=⟨(Onx.start h.st).quiet f06,h.still f06,by omega,h.lth,h.lt0,fun x=>by have:=ft _ x;omega,oG,⟨[],World.ownsRow_nil _ _ _ _⟩,fun k hk=>by cases hk⟩
  have of:∀k,k≠n4->g<=k->k<n4+2->Off sb b T n4 (.slice none 0 0) W6 k:=fun k h1 h2 h3=>⟨by omega,fun x=>by have:=ft _ x;omega,h1,fun e=>by cases e⟩
  have PC:∀w1,St W6 w1->Calls Tryz.prog 56 #[ptr (n4+1),ptr g,ptr (g+1),ptr (g+2)] w1 fun e w'=>DelC nu sz w hb sb b T A n4 w1 T P (.slice none 0 0) 0 (delP l x) w' e:=fun w1 fw=>
   y_delC (c.still fw) s rt pk ri hl x v hin hP room low (n4+1) g (g+1) (g+2) ((of _ (by omega) (by omega) (by omega)).still fw).2 ((of _ (by omega) (by omega) (by omega)).still fw).2 ((of _ (by omega) (by omega) (by omega)).still fw).2 ((of _ (by omega) (by omega) (by omega)).still fw).2 (cOo (fw.obj oC id) 0) (cOo (fw.obj (f36.obj oS id) id) 0) (cOo (fw.obj (f36.obj oR id) id) 0) (cOo (fw.obj (f36.obj oK id) id) 0)
  have MD:=y_madeD c #[ptr (n4+1),ptr g,ptr (g+1),ptr (g+2)] PC
  have HM:=Hd MD;have HW:=Hd (ai hW5 hW6);have HI:=Hd hin
  have m1:=mf
  clear h s rt pk ri hl hP room low f5 f6 f46 f06 f36 oS oR oK oG oC ft c of PC MD z5 z6 hW5 hW6 hin f03 z3 f4 f04 hgp HX HO
  simp only[Option.getD_some,Option.isSome_some]
  go_wp2_with fail
  rw[(uh HW).1,(uh HW).2]
  refine(uh HM).mono ?_
  clear HM HW
  rintro e w7 ⟨r',rfl,pe⟩
  have HE:=Hd pe
  clear pe
  go_wp2_with fail
  go_ret2
  exact .inr ⟨v,uh HI,r',rfl,uh HE⟩
end
end
def Win (l:List Pr) (lo hi:ByteArray):Prop:=∀p∈l,¬ltK p.1 lo/\(hi.size=0\/ltK p.1 hi)
theorem hi_cs {x hi:ByteArray} (h:hi.size=0\/ltK x hi):hi.toList = []\/(hi.toList.isEmpty=false/\(hi.toList = [])=False/\Op.bytesLess x.toList hi.toList=true):=by
 by_cases h0:hi.size=0
 ·exact .inl (nil_of h0)
 ·refine .inr ⟨(not_nil h0).1,(not_nil h0).2,?_⟩
  rw[less_eq]
  exact decide_eq_true (h.resolve_left h0)
set_option maxRecDepth 100000 in
theorem y_check_leaf (sv:Value) (a:Option Addr) (c:Nat) (l:List Pr) (lo hi:ByteArray) (w:World) (hL:Lf w a c l) (hl:l.length<=100) (win:Win l lo hi) :
  Calls Tryz.prog 52 #[sv,.iface 100 (.slice a l.length c),.string lo,.string hi] w fun e w'=>e = .returned (.tuple #[])/\St w w':=by
 have KY:=l_keys a c l w hL (by omega)
 have MB:=fun w=>y_must w
 have HMB:=@Hd _ MB
 have t1:=fun w=>taB_leaf (.slice a l.length c) w
 clear hL MB
 obtain⟨n,hn⟩:∃n,l.length=n:=⟨_,rfl⟩
 rw[hn] at KY t1 ⊢
 have HN:=Hd hn
 go_enter Tryz.func52,Tryz.ntmps52
 go_wp2_with fail
 refine KY.mono ?_
 clear KY
 rintro e w1 ⟨v,rfl,row,f1⟩
 obtain⟨va,vc,rfl⟩:=rowZ row
 have S:=sl_of_row row (fun u hu=>by obtain⟨p,_,rfl⟩:=List.mem_map.1 hu;rfl)
 have HF:=Hd f1
 by_cases h0:n=0
 ·subst h0
  clear row f1 S win hn
  go_wp2_with fail
  refine(uh HMB w1).mono ?_
  rintro e w2 ⟨rfl,rfl⟩
  clear HMB
  go_wp2_with fail
  refine bodyPost_ret (results_none rfl _ _ _) rfl ?_
  exact⟨rfl,(uh HF).alloc _⟩
 ·have hne:((n:Int) == 0)=false:=by simp;omega
  obtain⟨p,hp⟩:∃p,l[0]? = some p:=⟨_,List.getElem?_eq_getElem (by omega)⟩
  obtain⟨q,hq⟩:∃q,l[n - 1]? = some q:=⟨_,List.getElem?_eq_getElem (by omega)⟩
  obtain⟨b1,o1,e1,c1⟩:=S.cells 0 (.string p.1) (by rw[List.getElem?_map,hp];rfl)
  obtain⟨b2,o2,e2,c2⟩:=S.cells (n - 1) (.string q.1) (by rw[List.getElem?_map,hq];rfl)
  rw[e1] at e2
  cases e2
  subst e1
  rw[Nat.add_zero] at c1
  have lx:Op.bytesLess p.1.toList lo.toList=false:=by rw[less_eq];exact decide_eq_false (win p (List.mem_of_getElem? hp)).1
  have wn:IntKind.i64.wrap ((n:Int) - 1)=((n - 1:Nat):Int):=by rw[IntKind.wrap_i64];omega
  have hlt:(((n - 1:Nat):Int)<n)=True:=by simp;omega
  have h0':((0:Int)<n)=True:=by simp;omega
  have h0n:0<n:=by omega
  have cs:=hi_cs (win q (List.mem_of_getElem? hq)).2
  clear row f1 S win hn hp hq h0
  generalize n - 1=n1 at *
  rcases cs with hE | ⟨hE1,hE2,hE3⟩
  ·skip
   go_wp2_with fail
   refine(uh HMB w1).mono ?_
   rintro e w2 ⟨rfl,rfl⟩
   clear HMB
   go_wp2_with fail
   refine bodyPost_ret (results_none rfl _ _ _) rfl ?_
   exact⟨rfl,(uh HF).alloc _⟩
  ·skip
   go_wp2_with fail
   refine(uh HMB w1).mono ?_
   rintro e w2 ⟨rfl,rfl⟩
   clear HMB
   go_wp2_with fail
   refine bodyPost_ret (results_none rfl _ _ _) rfl ?_
   exact⟨rfl,(uh HF).alloc _⟩
end Go.Proofs.YtbiopjmpdhcjgaaGreatDoor
