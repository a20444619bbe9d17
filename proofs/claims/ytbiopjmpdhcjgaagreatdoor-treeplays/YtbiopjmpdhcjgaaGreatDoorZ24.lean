/- Joined: Uf Zg Ug Zh Uh. -/
import Derived.Test.YtbiopjmpdhcjgaaGreatDoorZ16
import Derived.Test.YtbiopjmpdhcjgaaGreatDoorZ19
import Derived.Test.YtbiopjmpdhcjgaaGreatDoorZ23
namespace Go.Proofs.YtbiopjmpdhcjgaaGreatDoor
open Go.RowKit
set_option maxHeartbeats 4000000

section
theorem results_cell1 {fn:Func} {p:Tmp} {ty:TypeId} (h:fn.results=#[.cell p ty]) (tmps:Array Value) (w:World) (g:Nat) (v:Value) (hp:tmps.getD p undef = .pointer (some ⟨g,0,none⟩)) (hl:(loadVar ty ⟨g,0,none⟩).run Tryz.prog w = .ok v w):(results fn tmps).run Tryz.prog w = .ok v w:=by
 have hp':tmps[p]?.getD undef = .pointer (some ⟨g,0,none⟩):=by simpa using hp
 simp[results,h,hp',asAddr,hl]
theorem load_u64 (w:World) (g:Nat) (v:Value) (hc:w.cell? ⟨g,0,none⟩=some v):(loadVar 27 ⟨g,0,none⟩).run Tryz.prog w = .ok v w:=by
 simp[loadVar,Tryz.isAgg27,go_sem,hc]
section
variable {nu sz:Nat} {w w' w0 w1 w2:World} {hb sb b cb m k:Nat} {T T0 T1:Tay} {A:Ab} {P P1:List (Int×Int)} {tv tv1:Value}
theorem Wr.fr (c:Cg nu sz w0 hb sb b T0 A cb w T P tv m) (a:Wr nu sz w0 hb sb b T0 A cb w T P tv m w1 T1 P1 tv1 k):Fr (fun k=>tfoot sb b T k\/k=cb\/tv.ownBlock=some k) w w1:=
 ⟨a.cg.on.fr.os.trans c.on.fr.os.symm,a.cg.on.fr.tape.trans c.on.fr.tape.symm,a.cg.on.fr.output.trans c.on.fr.output.symm,a.kp.1,fun k hk hn=>(a.kp.2 k ⟨hk,fun x=>hn (.inl x),fun x=>hn (.inr (.inl x)),fun x=>hn (.inr (.inr x))⟩).1⟩
def PutE (nu sz:Nat) (w0:World) (sb b:Nat) (T0:Tay) (A:Ab) (P:List (Int×Int)) (l:List Pr) (w':World) (r:Nat):Prop:=
 ∃T' P' Q k,(k<=20/\(l.length<=62->k<=13))/\Onx w0 sb b T0 w' T' sz A P' false/\P'.length<=P.length+1600/\Chg nu (says P A) k (says P' A)/\r≠0/\Rt nu sz (says P' A) r l Q
set_option maxRecDepth 100000 in
theorem y_madeC (_c:Cg nu sz w0 hb sb b T0 A cb w T P tv 0) {l:List Pr} (b3 b4:Nat) (fc:Array Value) (PC:Calls Tryz.prog 44 fc w fun e w'=>PutC nu sz w0 hb sb b T0 A cb w T P tv 0 l w' e) (d3:w.cell? ⟨b3,0,none⟩=some (.func (.func 44) #[] fc)) (o4:w.heap[b4]? = some (.cells #[.int .u64 0] 27 (0,0))) (of4:Off sb b T cb tv w b4) :
  Calls Tryz.prog 87 #[ptr b3,ptr b4] w fun e w'=>e = .returned (.tuple #[])/\∃w1 r,PutC nu sz w0 hb sb b T0 A cb w T P tv 0 l w1 (.returned (.int .u64 (r:Nat)))/\w'=w1.setCell ⟨b4,0,none⟩ (.int .u64 (r:Nat))/\w1.heap[b4]? = some (.cells #[.int .u64 0] 27 (0,0)):=by
 have HP:=Hd PC
 have HO:=Hd (ai o4 of4)
 clear PC o4 of4
 go_enter Tryz.func87,Tryz.ntmps87
 go_wp2_with fail
 refine(uh HP).mono ?_
 rintro e w1 ⟨T1,P1,tv1,k1,hk1,wr1,r,Q1,rfl,hr,rt⟩
 obtain⟨o4,of4⟩:=uh HO
 have o41:=(wr1.kp.2 _ of4).1.trans o4
 have d4:w1.cell? ⟨b4,0,none⟩=some (.int .u64 0):=cOo o41 0
 have z4:w1.frozen? ⟨b4,0,none⟩=false:=by simp[World.frozen?,o41]
 have HE:=Hd (ai hk1 (ai wr1 (ai hr (ai rt o41))))
 clear hk1 wr1 hr rt o41 o4 of4 HP HO d3
 go_wp2_with fail
 go_end0
 obtain⟨hk1,wr1,hr,rt,o41⟩:=uh HE
 exact⟨rfl,w1,r,⟨T1,P1,tv1,k1,hk1,wr1,r,Q1,rfl,hr,rt⟩,rfl,o41⟩
set_option maxRecDepth 100000 in
theorem y_made (c:Cg nu sz w0 hb sb b T0 A cb w T P (.slice none 0 0) 0) {l:List Pr} (fc:Array Value) (PC:∀w1,St w w1->Calls Tryz.prog 44 fc w1 fun e w'=>PutC nu sz w0 hb sb b T0 A cb w1 T P (.slice none 0 0) 0 l w' e) :
  Calls Tryz.prog 43 #[ptr cb,.func (.func 44) #[] fc] w fun e w'=>∃r,e = .returned (.int .u64 (r:Nat))/\PutE nu sz w0 sb b T0 A P l w' r:=by
 have h0:=c.on.fr.size
 obtain⟨W1,hW1⟩:∃W1,w.alloc (.cells #[ptr cb] 79)=W1:=⟨_,rfl⟩
 obtain⟨W2,hW2⟩:∃W2,W1.alloc (.cells #[.func (.func 44) #[] fc] 88)=W2:=⟨_,rfl⟩
 obtain⟨W3,hW3⟩:∃W3,W2.alloc (.cells #[.int .u64 0] 27)=W3:=⟨_,rfl⟩
 obtain⟨g,hg⟩:∃g,w.heap.size=g:=⟨_,rfl⟩
 have z1:W1.heap.size=g+1:=by rw[<-hW1];simp[hg]
 have z2:W2.heap.size=g+2:=by rw[<-hW2];simp;omega
 have z3:W3.heap.size=g+3:=by rw[<-hW3];simp;omega
 have f1:St w W1:=hW1▸(Fr.refl _ w).alloc _
 have f2:St W1 W2:=hW2▸(Fr.refl _ W1).alloc _
 have f3:St W2 W3:=hW3▸(Fr.refl _ W2).alloc _
 have f03:St w W3:=(f1.trans' f2 nE).trans' f3 nE
 have oF:W3.heap[g+1]? = some (.cells #[.func (.func 44) #[] fc] 88 (0,0)):=by
  have:=heap_alloc_new W1 (.cells #[.func (.func 44) #[] fc] 88)
  rw[hW2,z1] at this;exact f3.obj this id
 have oR:W3.heap[g+2]? = some (.cells #[.int .u64 0] 27 (0,0)):=by
  have:=heap_alloc_new W2 (.cells #[.int .u64 0] 27)
  rw[hW3,z2] at this;exact this
 have fb:St W3 (W3.alloc box):=(Fr.refl _ W3).alloc _
 have f0b:St w (W3.alloc box):=f03.trans' fb nE
 have zb:(W3.alloc box).heap.size=g+4:=by simp;omega
 have cb4:=c.still f0b
 have of2:Off sb b T cb (.slice none 0 0) (W3.alloc box) (g+2):=c.fresh (by omega) (by omega)
 have of3:Off sb b T cb (.slice none 0 0) (W3.alloc box) (g+3):=c.fresh (by omega) (by omega)
 have CL:=y_madeC cb4 (g+1) (g+2) fc (PC _ f0b) (cOo (fb.obj oF id) 0) (fb.obj oR id) of2
 have ft:∀k,tfoot sb b T k->k<g:=fun k hk=>by rw[<-hg];exact c.hp.st.lt k hk
 have ltc:cb<g:=by rw[<-hg];exact c.lt
 have TR:Calls Tryz.prog 80 #[.func (.func 87) #[] #[ptr (g+1),ptr (g+2)]] W3 fun e w'=>∃h:How,e = .returned (.tuple #[h.v,.bool h.is])/\(h = .well/\∃r:Nat,PutE nu sz w0 sb b T0 A P l w' r/\w'.heap[g+2]? = some (.cells #[.int .u64 (r:Nat)] 27 (0,0))):=
  try_fr (F:=fun k=>tfoot sb b T k\/k=cb\/k=g+2) (fun k hk=>by rcases hk with hk | hk | hk;(· have:=ft k hk;omega);(· omega);(· omega)) (acts_of (fun _ _=>by kernel_rfl) (CL.mono (by
   rintro e w' ⟨rfl,w1,r,⟨T1,P1,tv1,k1,hk1,wr1,r',Q1,er,hr,rt⟩,rfl,o4⟩
   have er':(r:Int)=r':=by injection er with e1;injection e1
   have er2:r=r':=by omega
   subst er2
   have fr1:=wr1.fr cb4
   have fs:Fr (fun k=>k=g+2) w1 (w1.setCell ⟨g+2,0,none⟩ (.int .u64 (r:Nat))):=(Fr.refl (fun k=>k=g+2) w1).setCell (.inl rfl) _
   have fr2:Fr (fun k=>tfoot sb b T k\/k=cb\/k=g+2) (W3.alloc box) (w1.setCell ⟨g+2,0,none⟩ (.int .u64 (r:Nat))):=(fr1.mono (fun k hk=>.inl (by rcases hk with hk | hk | hk;(· exact .inl hk);(· exact .inr (.inl hk));(· cases hk)))).trans' fs (fun k hk=>.inl (.inr (.inr hk)))
   refine⟨.well,rfl,fr2,fun w2 ff2=>⟨rfl,r,⟨T1,P1,Q1,k1,hk1,?_,by have:=wr1.len;omega,wr1.ch,hr,rt⟩,?_⟩⟩
   ·have k2:=(wr1.kp.2 _ of2).2
    have k3:=(wr1.kp.2 _ of3).2
    have on1:=wr1.cg.on.turn fs (fun k hk=>by rw[hk];exact k2.2.1) (fun k hk=>by rw[hk];omega)
    exact on1.turn ff2 (fun k hk=>by rw[hk,z3];exact k3.2.1) (fun k hk=>by rw[hk];omega)
   ·exact ff2.obj (heap_setCell_same w1 (g+2) 0 _ _ _ o4) (fun e=>by have e:g+2=W3.heap.size:=e;omega))))
 have ER:=g_errno TR (fun h w' x=>.inl x.1)
 have HER:=Hd ER;have HW:=Hd (ai hW1 (ai hW2 hW3))
 clear c PC CL TR ER f1 f2 f3 f03 oF oR fb f0b zb cb4 of2 of3 ft ltc hW1 hW2 hW3 z1 z2 z3 h0
 go_enter Tryz.func43,Tryz.ntmps43
 go_wp2_with fail
 rw[(uh HW).1,(uh HW).2.1,(uh HW).2.2,show g+1+1=g+2 from rfl]
 refine(uh HER).mono ?_
 clear HER HW
 rintro e w4 (⟨rfl,-,r,pe,o4⟩ | ⟨i,-,e,_⟩)
 ·have d4:w4.cell? ⟨g+2,0,none⟩=some (.int .u64 (r:Nat)):=cOo o4 0
  have z4:w4.frozen? ⟨g+2,0,none⟩=false:=by simp[World.frozen?,o4]
  have HE:=Hd (ai pe o4)
  clear pe o4
  go_wp2_with fail
  obtain⟨pe,o4⟩:=uh HE
  obtain⟨w5,hw5⟩:∃w5,w4.setCell ⟨g+2,0,none⟩ (.int .u64 (r:Nat))=w5:=⟨_,rfl⟩
  have o5:w5.heap[g+2]? = some (.cells #[.int .u64 (r:Nat)] 27 (0,0)):=hw5▸heap_setCell_same w4 (g+2) 0 _ _ _ o4
  have e5:∀k,w5.heap[k]? = w4.heap[k]?:=fun k=>by
   by_cases hk:k=g+2
   ·rw[hk,o5,o4]
   ·rw[<-hw5];exact Below.heap_setCell _ _ _ _ (fun e=>hk e)
  rw[hw5]
  refine bodyPost_ret (results_cell1 Tryz.results43 _ _ (g+2) (.int .u64 (r:Nat)) (by rfl) (load_u64 w5 (g+2) _ (cOo o5 0))) rfl ?_
  refine⟨r,rfl,?_⟩
  have f5:St w4 w5:=⟨by rw[<-hw5];rfl,by rw[<-hw5];rfl,by rw[<-hw5];rfl,by rw[<-hw5];exact Nat.le_of_eq (by simp),fun k _ _=>e5 k⟩
  obtain⟨T',P',Q,kk,h1,h2,h3⟩:=pe
  exact⟨T',P',Q,kk,h1,h2.quiet f5,h3⟩
 ·exact absurd e (by intro h;cases h)
set_option maxRecDepth 100000 in
theorem y_Put (h:Hp nu sz w hb sb b T A P) (s:HpS nu (says P A)) {r:Nat} {l:List Pr} {Q:List Nat} (rt:Rt nu sz (says P A) r l Q) (pk:Pok l) (ri:Rise l) (hl:l.length<=200) (x:ByteArray) (v:Nat) (hx:1<=x.size/\x.size<=80) (hv:v<18446744073709551616) (hP:P.length+3000<=6144) (room:cnt nu (ask nu (says P A))+30<nu / 4) (low:∀u,ask nu (says P A) u<=32) :
  Calls Tryz.prog 11 #[ptr sb,ptr hb,.int .u64 (r:Nat),.string x,.int .u64 (v:Nat)] w fun e w'=>∃r':Nat,e = .returned (.int .u64 (r':Nat))/\PutE nu sz w sb b T A P (putP l x v) w' r':=by
 obtain⟨g,hg⟩:∃g,w.heap.size=g:=⟨_,rfl⟩
 obtain⟨W1,hW1⟩:∃W,w.alloc (.cells #[ptr sb] 23)=W:=⟨_,rfl⟩
 obtain⟨W2,hW2⟩:∃W,W1.alloc (.cells #[.int .u64 (r:Nat)] 27)=W:=⟨_,rfl⟩
 obtain⟨W3,hW3⟩:∃W,W2.alloc (.cells #[.string x] 9)=W:=⟨_,rfl⟩
 obtain⟨W4,hW4⟩:∃W,W3.alloc (.cells #[.int .u64 (v:Nat)] 27)=W:=⟨_,rfl⟩
 obtain⟨W5,hW5⟩:∃W,W4.alloc (.cells #[ptr sb,ptr hb,.slice none 0 0] 81)=W:=⟨_,rfl⟩
 obtain⟨W6,hW6⟩:∃W,W5.alloc (.cells #[ptr (g+4)] 79)=W:=⟨_,rfl⟩
 have z1:W1.heap.size=g+1:=by rw[<-hW1];simp[hg]
 have z2:W2.heap.size=g+2:=by rw[<-hW2];simp;omega
 have z3:W3.heap.size=g+3:=by rw[<-hW3];simp;omega
 have z4:W4.heap.size=g+4:=by rw[<-hW4];simp;omega
 have z5:W5.heap.size=g+5:=by rw[<-hW5];simp;omega
 have z6:W6.heap.size=g+6:=by rw[<-hW6];simp;omega
 have f1:St w W1:=hW1▸(Fr.refl _ w).alloc _
 have f2:St W1 W2:=hW2▸(Fr.refl _ W1).alloc _
 have f3:St W2 W3:=hW3▸(Fr.refl _ W2).alloc _
 have f4:St W3 W4:=hW4▸(Fr.refl _ W3).alloc _
 have f5:St W4 W5:=hW5▸(Fr.refl _ W4).alloc _
 have f6:St W5 W6:=hW6▸(Fr.refl _ W5).alloc _
 have f46:St W4 W6:=f5.trans' f6 nE
 have f36:St W3 W6:=f4.trans' f46 nE
 have f26:St W2 W6:=f3.trans' f36 nE
 have f16:St W1 W6:=f2.trans' f26 nE
 have f06:St w W6:=f1.trans' f16 nE
 have oS:W6.heap[g]? = some (.cells #[ptr sb] 23 (0,0)):=by
  have:=heap_alloc_new w (.cells #[ptr sb] 23)
  rw[hW1,hg] at this;exact f16.obj this id
 have oR:W6.heap[g+1]? = some (.cells #[.int .u64 (r:Nat)] 27 (0,0)):=by
  have:=heap_alloc_new W1 (.cells #[.int .u64 (r:Nat)] 27)
  rw[hW2,z1] at this;exact f26.obj this id
 have oK:W6.heap[g+2]? = some (.cells #[.string x] 9 (0,0)):=by
  have:=heap_alloc_new W2 (.cells #[.string x] 9)
  rw[hW3,z2] at this;exact f36.obj this id
 have oV:W6.heap[g+3]? = some (.cells #[.int .u64 (v:Nat)] 27 (0,0)):=by
  have:=heap_alloc_new W3 (.cells #[.int .u64 (v:Nat)] 27)
  rw[hW4,z3] at this;exact f46.obj this id
 have oG:W6.heap[g+4]? = some (.cells #[ptr sb,ptr hb,.slice none 0 0] 81 (0,0)):=by
  have:=heap_alloc_new W4 (.cells #[ptr sb,ptr hb,.slice none 0 0] 81)
  rw[hW5,z4] at this;exact f6.obj this id
 have oC:W6.heap[g+5]? = some (.cells #[ptr (g+4)] 79 (0,0)):=by
  have:=heap_alloc_new W5 (.cells #[ptr (g+4)] 79)
  rw[hW6,z5] at this;exact this
 have ft:∀k,tfoot sb b T k->k<g:=fun k hk=>by rw[<-hg];exact h.st.lt k hk
 have c:Cg nu sz w hb sb b T A (g+4) W6 T P (.slice none 0 0) 0:=⟨(Onx.start h.st).quiet f06,h.still f06,by omega,h.lth,h.lt0,fun x=>by have:=ft _ x;omega,oG,⟨[],World.ownsRow_nil _ _ _ _⟩,fun k hk=>by cases hk⟩
 have of:∀k,k≠g+4->g<=k->k<g+6->Off sb b T (g+4) (.slice none 0 0) W6 k:=fun k h1 h2 h3=>⟨by omega,fun x=>by have:=ft _ x;omega,h1,fun e=>by cases e⟩
 have PC:∀w1,St W6 w1->Calls Tryz.prog 44 #[ptr (g+5),ptr g,ptr (g+1),ptr (g+2),ptr (g+3)] w1 fun e w'=>PutC nu sz w hb sb b T A (g+4) w1 T P (.slice none 0 0) 0 (putP l x v) w' e:=fun w1 fw=>
  y_putC (c.still fw) s rt pk ri hl x v hx hv hP room low (g+5) g (g+1) (g+2) (g+3) ((of _ (by omega) (by omega) (by omega)).still fw).2 ((of _ (by omega) (by omega) (by omega)).still fw).2 ((of _ (by omega) (by omega) (by omega)).still fw).2 ((of _ (by omega) (by omega) (by omega)).still fw).2 ((of _ (by omega) (by omega) (by omega)).still fw).2 (cOo (fw.obj oC id) 0) (cOo (fw.obj oS id) 0) (cOo (fw.obj oR id) 0) (cOo (fw.obj oK id) 0) (cOo (fw.obj oV id) 0)
 have MD:=y_made c #[ptr (g+5),ptr g,ptr (g+1),ptr (g+2),ptr (g+3)] PC
 have HM:=Hd MD;have HW:=Hd (ai hW1 (ai hW2 (ai hW3 (ai hW4 (ai hW5 hW6)))))
 have q1:((x.size:Int)<1)=False:=eq_false (by omega)
 have q2:((80:Int)<(x.size:Int))=False:=eq_false (by omega)
 clear h s rt pk ri hl hx hv hP room low f1 f2 f3 f4 f5 f6 f46 f36 f26 f16 f06 oS oR oK oV oG oC ft c of PC MD z1 z2 z3 z4 z5 z6 hW1 hW2 hW3 hW4 hW5 hW6
 go_enter Tryz.func11,Tryz.ntmps11
 go_wp2_with fail
 simp only[show g+1+1=g+2 from rfl,show g+2+1=g+3 from rfl,show g+3+1=g+4 from rfl,show g+4+1=g+5 from rfl]
 obtain⟨hW1,hW2,hW3,hW4,hW5,hW6⟩:=uh HW
 rw[hW1,hW2,hW3,hW4,hW5,hW6]
 clear hW1 hW2 hW3 hW4 hW5 hW6 HW
 refine(uh HM).mono ?_
 rintro e w4 ⟨r',rfl,pe⟩
 have HE:=Hd pe
 clear pe HM
 go_wp2_with fail
 go_ret
 exact⟨r',rfl,uh HE⟩
end
end
def getP:List Pr->ByteArray->Option Nat
 | [],_=>none
 | p :: l,x=>if p.1=x then some p.2 else getP l x
theorem getP_none {x:ByteArray}:∀{l:List Pr},(∀p∈l,p.1≠x)->getP l x=none
 | [],_=>rfl
 | p :: l,h=>by
  rw[getP,if_neg (h p (List.mem_cons_self ..)),getP_none (fun q hq=>h q (List.mem_cons_of_mem _ hq))]
theorem getP_app {x:ByteArray} {m:List Pr}:∀{l:List Pr},(∀p∈l,p.1≠x)->getP (l ++ m) x=getP m x
 | [],_=>rfl
 | p :: l,h=>by
  rw[List.cons_append,getP,if_neg (h p (List.mem_cons_self ..)),getP_app (fun q hq=>h q (List.mem_cons_of_mem _ hq))]
theorem getP_app2 {x:ByteArray} {m:List Pr} (hm:∀p∈m,p.1≠x):∀{l:List Pr},getP (l ++ m) x=getP l x
 | []=>getP_none hm
 | p :: l=>by
  rw[List.cons_append,getP,getP]
  split
  ·rfl
  ·exact getP_app2 hm
theorem ltK_ne {a b:ByteArray} (h:ltK a b):a≠b:=fun e=>by rw[e] at h;exact ltK_irr b h
theorem getP_way {B:List ByteArray} {x:ByteArray} {i:Nat} {M:List (List Pr)} (w:Way B x i) (h:Sep B M):getP M.flatten x=getP (M.getD i []) x:=by
 have hl:=h.len
 have hle:=w.le
 have hs:=getD_split M [] i (by omega)
 have e:M.flatten=(M.take i).flatten ++ (M.getD i [] ++ (M.drop (i+1)).flatten):=by
  rw[<-List.flatten_cons,<-List.flatten_append,<-hs]
 rw[e,getP_app (fun p hp=>ltK_ne (w.ahead h p hp)),getP_app2 (fun p hp=>(ltK_ne (w.behind h p hp)).symm)]
theorem getP_fst {x:ByteArray}:∀{l:List Pr} {k:Nat},Rise l->Fst (l.map (·.1)) x k->getP l x=if k<l.length/\(l.getD k default).1=x then some (l.getD k default).2 else none
 | [],k,_,f=>by simp[getP]
 | p :: l,0,ri,f=>by
  have h0:=f.hi 0 (Nat.le_refl _) (by simp)
  have h0':¬ltK p.1 x:=h0
  obtain⟨r1,r2⟩:=List.pairwise_cons.1 ri
  unfold getP
  by_cases e:p.1=x
  ·rw[if_pos e,if_pos ⟨by simp,e⟩];rfl
  ·rw[if_neg e,if_neg (fun hh=>e hh.2)]
   have hx:ltK x p.1:=Decidable.byContradiction fun hn=>e (ltK_tri h0' hn)
   exact getP_none fun q hq=>(ltK_ne (ltK_trans hx (r1 q hq))).symm
 | p :: l,k+1,ri,f=>by
  have h0:ltK p.1 x:=f.lo 0 (by omega)
  have f':Fst (l.map (·.1)) x k:=⟨by have:=f.le;simpa using this,fun t ht=>f.lo (t+1) (by omega),fun t h1 h2=>f.hi (t+1) (by omega) (by simpa using h2)⟩
  unfold getP
  rw[if_neg (ltK_ne h0),getP_fst (List.pairwise_cons.1 ri).2 f']
  simp

section
def valH:Value->Nat
 | .iface _ (.agg cs)=>(match cs[0]? with
  | some (Value.int _ i)=>i.toNat
  | _=>0)
 | _=>1
section
variable {nu sz:Nat} {w w' w0:World} {hb sb b cb m:Nat} {T T0:Tay} {A:Ab} {P:List (Int×Int)}
theorem y_Len (h:Hp nu sz w hb sb b T A P) {r:Nat} {l:List Pr} {Q:List Nat} (rt:Rt nu sz (says P A) r l Q) (hl:l.length<900000) :
  Calls Tryz.prog 15 #[ptr sb,.int .u64 (r:Nat)] w fun e w'=>e = .returned (.int .i64 (l.length:Nat))/\St w w':=by
 have TP:=y_topR h rt
 clear h rt
 go_enter Tryz.func15,Tryz.ntmps15
 go_wp2_with fail
 refine TP.mono ?_
 rintro e w1 ⟨v,n,rfl,nd,f1,hcs⟩
 have hn:n.pairs=l.length/\n.items.length<=32:=by
  rcases hcs with ⟨rfl,rfl,_⟩ | ⟨h',u,Q',st,un,_⟩
  ·exact⟨rfl,by simp[Nd.items]⟩
  ·refine⟨un.pairs,?_⟩
   have:=st.le
   have e:n.size=hsz n.items.length (kb n.keys):=rfl
   unfold hsz need at e
   omega
 clear TP hcs
 cases n using Nd.cs with
 | lf l'=>
  obtain⟨a,c,rfl,hL,_⟩:=nd
  have LP:=fun w'=>l_pairs a l'.length c w'
  have e:l'.length=l.length:=hn.1
  rw[e] at LP ⊢
  clear hL hn
  go_wp2_with fail
  refine(LP _).mono ?_
  rintro e w8 ⟨rfl,rfl⟩
  go_wp2_with fail
  go_ret
  exact⟨rfl,f1⟩
 | br hh B ks=>
  obtain⟨ba,bc,ka,kc,rfl,hB,hK,_,_⟩:=nd
  have e:(ks.map (·.2)).sum=l.length:=hn.1
  have LP:=b_pairs hh ba B.length bc ka kc ks w1 hK (by have:=hn.2;simp[Nd.items] at this;omega) (by omega)
  rw[e] at LP
  clear hB hK hn e
  go_wp2_with fail
  refine LP.mono ?_
  rintro e w8 ⟨rfl,f8⟩
  go_wp2_with fail
  go_ret
  exact⟨rfl,f1.trans' f8 nE⟩
set_option maxRecDepth 100000 in
theorem y_Get (h:Hp nu sz w hb sb b T A P) {r:Nat} {l:List Pr} {Q:List Nat} (rt:Rt nu sz (says P A) r l Q) (ri:Rise l) (x:ByteArray) :
  Calls Tryz.prog 17 #[ptr sb,.int .u64 (r:Nat),.string x] w fun e w'=>e = .returned (.tuple #[.int .u64 ((getP l x).getD 0:Nat),.bool (getP l x).isSome])/\St w w':=by
 have TP:=y_topR h rt
 have HH:=Hd h
 clear h rt
 go_enter Tryz.func17,Tryz.ntmps17
 go_wp2_with fail
 refine TP.mono ?_
 rintro e w1 ⟨v,n,rfl,nd,f1,hcs⟩
 clear TP
 go_wp2_with fail
 go_loopw [8] (fun v8 wr=>∃(n:Nd) (l':List Pr),NdO (fun _=>True) wr v8 n/\St w wr/\getP l x=getP l' x/\Rise l'/\valH v8=n.high/\((n = .lf l'/\l'.length<=32)\/∃h' Q',n.size<=32/\Un nu (Tr nu sz (says P A) h') (h'+1) n l' Q'/\n.high=h'+1)) (fun v8 _=>valH v8)
 case atStart=>
  have hv:valH v=n.high:=by
   cases n using Nd.cs with
   | lf l'=>obtain⟨a,c,rfl,_⟩:=nd;rfl
   | br hh B ks=>obtain⟨ba,bc,ka,kc,rfl,_⟩:=nd;simp[valH,Nd.high]
  refine⟨n,l,nd.mono fun _ _=>trivial,f1,rfl,ri,hv,?_⟩
  rcases hcs with ⟨rfl,rfl,_⟩ | ⟨h',u,Q',st,un,_⟩
  ·exact .inl ⟨rfl,by simp⟩
  ·refine .inr ⟨h',Q',st.le,un,?_⟩
   rcases un with ⟨e,rfl,_⟩ | ⟨_,B,ks,rfl,_⟩
   ·exact e.symm
   ·rfl
 case round=>
  obtain⟨n,l',nd,fr,eg,ri',hvh,hcs⟩:=hrel
  generalize wr=wq at *
  clear wr
  cases n using Nd.cs with
  | lf l2=>
   have el:l2=l'/\l'.length<=32:=by
    rcases hcs with ⟨e,h1⟩ | ⟨h',Q',h1,un,_⟩
    ·cases e;exact⟨rfl,h1⟩
    ·rcases un with ⟨_,e,_⟩ | ⟨_,B,ks,e,_⟩
     ·cases e
      rw[lf_size] at h1
      unfold hsz need at h1
      exact⟨rfl,by omega⟩
     ·cases e
   obtain⟨rfl,hl32⟩:=el
   obtain⟨a,c,rfl,hL,_⟩:=nd
   obtain⟨k,fk⟩:=fst_of x (l2.map (·.1)) ri'.keys
   have hkl:k<=l2.length:=by have:=fk.le;simpa using this
   have gp:=getP_fst ri' fk
   obtain⟨W,hW⟩:∃W,wq.alloc (.cells #[.int .i64 0,.slice none 0 0,.slice none 0 0] 96)=W:=⟨_,rfl⟩
   have fW:St wq W:=hW▸(Fr.refl _ wq).alloc _
   have FD:=l_find a l2.length c (fun t=>(l2.getD t default).1) (fun t=>(l2.getD t default).2) x k W (fun i hi=>(hL.still fW).pair (p:=l2.getD i default) (by simp[List.getD,List.getElem?_eq_getElem hi])) (by omega) hkl (fun t ht=>by rw[<-keys_getD l2 t (by omega)];exact fk.lo t ht) (fun t h1 h2=>by rw[<-keys_getD l2 t h2];exact fk.hi t h1 (by simpa using h2))
   have t1:=fun w=>taB_leaf (.slice a l2.length c) w
   have t2:=fun w=>taL_leaf (.slice a l2.length c) w
   have HW:=Hd hW
   have HF:=Hd (fr.trans' fW nE)
   by_cases hc:k<l2.length/\(l2.getD k default).1=x
   ·rw[if_pos hc] at gp
    rw[decide_eq_true hc] at FD
    obtain⟨b1,o1,rfl,c1,c2⟩:=(hL.still fW).pair (p:=l2.getD k default) (k:=k) (by simp[List.getD,List.getElem?_eq_getElem hc.1])
    have q1:(k:Int)<l2.length:=by omega
    have HG:=Hd (ai eg gp)
    have hk32:k<=32:=by omega
    clear hL fk hW gp eg hcs ri' fr hvh hc
    generalize (l2.getD k default).2=vv at *
    generalize l2.length=n at *
    go_wp2_with (first | (rw[uh HW];go_at_call 55;refine FD.mono ?_;rintro e w3 ⟨rfl,f3⟩;replace c2:=f3.cell' c2 id) | fail)
    go_ret2
    obtain⟨eg,gp⟩:=uh HG
    refine⟨?_,(uh HF).trans' f3 nE⟩
    rw[eg,gp]
    rfl
   ·rw[if_neg hc] at gp
    rw[decide_eq_false hc] at FD
    have HG:=Hd (ai eg gp)
    clear hL fk hW gp eg hcs ri' fr hvh hc
    generalize l2.length=n at *
    go_wp2_with (first | (rw[uh HW];go_at_call 55;refine FD.mono ?_;rintro e w3 ⟨rfl,f3⟩) | fail)
    go_ret2
    obtain⟨eg,gp⟩:=uh HG
    refine⟨?_,(uh HF).trans' f3 nE⟩
    rw[eg,gp]
    rfl
  | br hh B ks0=>
   obtain⟨h',Q',le,un,hhi⟩:∃h' Q',(Nd.br hh B ks0).size<=32/\Un nu (Tr nu sz (says P A) h') (h'+1) (.br hh B ks0) l' Q'/\(Nd.br hh B ks0).high=h'+1:=by
    rcases hcs with ⟨e,_⟩ | hh
    ·cases e
    ·exact hh
   rcases un with ⟨_,e,_⟩ | ⟨h2,B',ks,e,fo⟩
   ·cases e
   cases e
   obtain⟨ba,bc,ka,kc,rfl,hB,hK,_,_⟩:=nd
   have hmk:(ks.map (kidN nu)).length=ks.length:=List.length_map _
   have hlen:ks.length=B.length+1:=by have:=fo.2.2.2.1.len;simpa using this
   have hks:ks.length<=32:=by rw[br_size,hmk] at le;unfold hsz need at le;omega
   obtain⟨k,fk⟩:=fst_of x B fo.2.2.2.1.rise
   have way:=way_of fo.2.2.2.1.rise fk
   obtain⟨i,hi⟩:∃i,(if k<B.length/\B.getD k default=x then k+1 else k)=i:=⟨_,rfl⟩
   rw[hi] at way
   have hil:i<ks.length:=by have:=way.le;omega
   obtain⟨kk,hkk⟩:∃kk,ks[i]? = some kk:=⟨_,List.getElem?_eq_getElem hil⟩
   have hkm:=List.mem_of_getElem? hkk
   have tr1:=fo.1 kk hkm
   have sub:=fo.sub hkm
   obtain⟨h1,eh,n1,Q1,st1,un1,hn1⟩:=tr1.node
   have eg1:getP l' x=getP kk.2.1 x:=by
    rw[fo.2.1,getP_way way fo.2.2.2.1]
    congr 1
    simp[List.getD,hkk]
   have hk2:(ks.map (kidN nu))[i]? = some (fi nu+8 * kk.1,kk.2.1.length):=by rw[List.getElem?_map,hkk];rfl
   have hp:=(uh HH).still fr
   have TW:∀w1,St wq w1->Calls Tryz.prog 54 #[brV (h'+1) ba B.length bc ka (ks.map (kidN nu)).length kc,.string x] w1 fun e w'=>e = .returned (.int .i64 (i:Nat))/\St w1 w':=fun w1 f1=>by
    have:=b_towards (h'+1) ba bc B ka (ks.map (kidN nu)).length kc x k w1 (hB.still f1) fk (by omega)
    rw[hi] at this
    exact this
   have KD:∀w1,St wq w1->Calls Tryz.prog 53 #[brV (h'+1) ba B.length bc ka (ks.map (kidN nu)).length kc,ptr sb,.int .i64 i] w1 _:=fun w1 f1=>b_kid (hp.still f1) (h'+1) ba B.length bc ka kc (ks.map (kidN nu)) i kk.1 n1 (hK.still f1) (by omega) kk.2.1.length hk2 st1 (by omega)
   obtain⟨W,hW⟩:∃W,wq.alloc (.cells #[.int .i64 ((h'+1:Nat):Int),.slice ba B.length bc,.slice ka (ks.map (kidN nu)).length kc] 96)=W:=⟨_,rfl⟩
   have fW:St wq W:=hW▸(Fr.refl _ wq).alloc _
   have oW:W.heap[wq.heap.size]? = some (.cells #[.int .i64 ((h'+1:Nat):Int),.slice ba B.length bc,.slice ka (ks.map (kidN nu)).length kc] 96 (0,0)):=hW▸heap_alloc_new wq _
   have d0:W.cell? ⟨wq.heap.size,0,none⟩=some (.int .i64 ((h'+1:Nat):Int)):=cOo oW 0
   have d1:W.cell? ⟨wq.heap.size,1,none⟩=some (.slice ba B.length bc):=cOo oW 1
   have d2:W.cell? ⟨wq.heap.size,2,none⟩=some (.slice ka (ks.map (kidN nu)).length kc):=cOo oW 2
   have HTW:=@Hd _ TW;have HKD:=@Hd _ KD;have HW:=Hd hW
   have HI:=Hd (ai fr (ai fW (ai eg (ai eg1 (ai (ri'.sub sub.1) (ai st1 (ai un1 (ai hn1 eh))))))))
   have t1:=fun w=>taB_br (brV (h'+1) ba B.length bc ka (ks.map (kidN nu)).length kc) w
   have hvm:valH (.iface 96 (brV (h'+1) ba B.length bc ka (ks.map (kidN nu)).length kc))=h'+1:=hvh
   have i5:i<=500:=by omega
   clear TW KD hW fW oW fo hB hK hcs le hlen hks fk way hi hil hkk hkm tr1 sub st1 un1 hn1 eg1 eg hk2 hp hvh hhi ri ri' fr hmk h2
   have HV:=Hd hvm
   clear hvm
   generalize (ks.map (kidN nu)).length=nk at *
   generalize B.length=nb at *
   generalize hhq:h'+1=hh at *
   go_wp2_with fail
   rw[uh HW]
   clear HW
   generalize wq.heap.size=g at *
   refine wp_region_held_drew (S:=fun w'=>w'.cell? ⟨g,0,none⟩=some (.int .i64 (hh:Nat))/\w'.cell? ⟨g,1,none⟩=some (.slice ba nb bc)/\w'.cell? ⟨g,2,none⟩=some (.slice ka nk kc)) (by kernel_rfl) ⟨d0,d1,d2⟩ (fun hHeld=>?_)
   refine tkO 0 (.agg #[.int .i64 (hh:Nat),.slice ba nb bc,.slice ka nk kc]) hHeld rfl ?_ ?_
   ·rintro w ⟨x0,x1,x2⟩;go_simp;try with_reducible rfl
   simp only[apt,List.set]
   refine tkO 1 ?_ hHeld rfl ?_ ?_
   rotate_left
   ·intro w q;go_simp;try with_reducible rfl
   simp only[apt,List.set]
   refine tkO 2 (.agg #[.int .i64 (hh:Nat),.slice ba nb bc,.slice ka nk kc]) hHeld rfl ?_ ?_
   ·rintro w ⟨x0,x1,x2⟩;go_simp;try with_reducible rfl
   simp only[apt,List.set]
   refine tkO 3 ?_ hHeld rfl ?_ ?_
   rotate_left
   ·intro w q;go_simp;try with_reducible rfl
   simp only[apt,List.set]
   refine rdO 4 rfl (fun K hK=>?_)
   go_simp
   go_wp2_with fail
   obtain⟨fr,fW,eg,eg1,ri1,st1,un1,hn1,eh⟩:=uh HI
   have fD2:St W W.drew:=(Fr.refl _ W).drewN 1
   have fD:St wq W.drew:=fW.trans' fD2 nE
   refine(uh HTW _ fD).mono ?_
   rintro e w3 ⟨rfl,f3⟩
   have fW3:St W w3:=fD2.trans' f3 nE
   have f03:St wq w3:=fD.trans' f3 nE
   refine hK.out _ _ ⟨fW3.cell' d0 id,fW3.cell' d1 id,fW3.cell' d2 id⟩ (fun _=>?_)
   clear hK K hHeld
   refine rdO 5 rfl (fun K hK=>?_)
   go_simp
   go_wp2_with fail
   refine(uh HKD _ f03).mono ?_
   rintro e w4 ⟨nv4,rfl,nd4,f4⟩
   have fW4:St W w4:=fW3.trans' f4 nE
   have hS:=ai (fW4.cell' d0 id) (ai (fW4.cell' d1 id) (fW4.cell' d2 id))
   refine hK.out _ _ hS (fun _=>?_)
   clear hK K
   refine rdO 6 rfl (fun K hK=>?_)
   go_simp
   refine hK.out _ _ hS (fun _=>?_)
   clear hK K
   refine wpAnyH_done (by kernel_rfl) ?_ _
   have HJ:=Hd (ai nd4 (ai (fr.trans' (f03.trans' f4 nE) nE) (ai (eg.trans eg1) (ai ri1 (ai st1 (ai un1 (ai hn1 eh)))))))
   clear nd4 fr fW eg eg1 ri1 st1 un1 hn1 eh hS fW4 f4 f03 fW3 f3 fD fD2 d0 d1 d2 HI HTW HKD t1
   go_wp2_with fail
   obtain⟨nd4,f04,eg,ri1,st1,un1,hn1,eh⟩:=uh HJ
   have hv4:valH nv4=n1.high:=by
    cases n1 using Nd.cs with
    | lf l'=>obtain⟨a,c,rfl,_⟩:=nd4;rfl
    | br hh B ks=>obtain⟨ba,bc,ka,kc,rfl,_⟩:=nd4;simp[valH,Nd.high]
   exact⟨⟨n1,kk.2.1,nd4.mono fun _ _=>trivial,f04,eg,ri1,hv4,.inr ⟨h1,Q1,st1.le,un1,hn1⟩⟩,by rw[hv4,hn1,uh HV];omega⟩
end
end

section
theorem pkW_inj {B C:List Nat} (hl:B.length=C.length) (hB:∀t,B.getD t 0<256) (hC:∀t,C.getD t 0<256) (hn:B.length<=60000) (e:pkW B=pkW C):B=C:=by
 obtain⟨_,_,p3⟩:=pack_back (fun t=>B.getD t 0) B.length (fun i _=>hB i) hn
 obtain⟨_,_,q3⟩:=pack_back (fun t=>C.getD t 0) C.length (fun i _=>hC i) (by omega)
 apply List.ext_getElem hl
 intro i h1 h2
 have hj:i / 8<(B.length+7) / 8:=by omega
 have e1:(pkW B)[i / 8]? = some (packF (fun t=>B.getD t 0) B.length (i / 8+1)):=by simp[pkW,hj]
 have e2:(pkW C)[i / 8]? = some (packF (fun t=>C.getD t 0) C.length (i / 8+1)):=by simp[pkW,show i / 8<(C.length+7) / 8 by omega]
 rw[e,e2] at e1
 have e3:=Option.some.inj e1
 have b1:=p3 i h1
 have b2:=q3 i h2
 unfold byteF at b1 b2
 rw[Nat.add_comm 1 (i / 8)] at b1 b2
 rw[<-e3,b2] at b1
 simpa [List.getD,List.getElem?_eq_getElem h1,List.getElem?_eq_getElem h2] using b1.symm
theorem join_first (L:Nat->Nat) (Z:Nat->Nat->Nat):∀n,∃rest,joinL L Z (n+1)=partL L Z 0 ++ rest
 | 0=>⟨[],by simp[joinL]⟩
 | n+1=>by
  obtain⟨r,e⟩:=join_first L Z n
  exact⟨r ++ partL L Z (n+1),by rw[joinL,e,List.append_assoc]⟩
theorem jk_first (k:ByteArray) (K:List ByteArray) (hk:k.size<=80):∃rest,jk (k :: K)=k.size :: (rowL (byF k) k.size ++ rest):=by
 obtain⟨r,e⟩:=join_first (kL (k :: K)) (kZ (k :: K)) K.length
 refine⟨r,?_⟩
 unfold jk
 rw[List.length_cons,e]
 have e1:kL (k :: K) 0=k.size:=rfl
 have e2:kZ (k :: K) 0=byF k:=rfl
 unfold partL
 rw[e1,e2,uv_lo _ (by omega)]
 rfl
theorem first_inj {k k':ByteArray} {K K':List ByteArray} (h:k.size<=80) (h':k'.size<=80) (e:jk (k :: K)=jk (k' :: K')):k=k':=by
 obtain⟨r,e1⟩:=jk_first k K h
 obtain⟨r',e2⟩:=jk_first k' K' h'
 rw[e1,e2] at e
 obtain⟨es,et⟩:=List.cons.inj e
 have hr:=List.append_inj_left et (by rw[rowL_len,rowL_len,es])
 rw[<-strB_byF k,<-strB_byF k',es]
 refine strB_congr _ _ _ fun i hi=>?_
 have:=congrArg (fun l=>l.getD i 0) hr
 replace this:(rowL (byF k) k.size).getD i 0=(rowL (byF k') k'.size).getD i 0:=this
 rw[rowL_get _ _ _ (by omega),rowL_get _ _ _ (by omega)] at this
 exact this
section
variable {nu sz:Nat} {f:Nat->Int}
theorem Std.one {u:Nat} {n n':Nd} (s:Std nu sz f u n) (s':Std nu sz f u n'):n.high=n'.high/\n.items=n'.items/\jk n.keys=jk n'.keys:=by
 have l1:=n.wds_len s.ok.kok
 have l2:=n'.wds_len s'.ok.kok
 have bnd:∀{m:Nd},Std nu sz f u m->m.high<256/\m.items.length<256/\kb m.keys<=300:=fun {m} s=>by
  have h1:=s.le
  have h2:=s.ok.h16
  have h3:m.size=hsz m.items.length (kb m.keys):=rfl
  rw[h3] at h1
  unfold hsz need at h1
  omega
 obtain⟨b1,b2,b3⟩:=bnd s
 obtain⟨c1,c2,c3⟩:=bnd s'
 have eh:hwN n.high n.items.length (kb n.keys)=hwN n'.high n'.items.length (kb n'.keys):=by
  have a1:=s.wd 0 (hwN n.high n.items.length (kb n.keys)) rfl
  have a2:=s'.wd 0 (hwN n'.high n'.items.length (kb n'.keys)) rfl
  rw[a1] at a2
  exact Int.ofNat_inj.1 a2
 obtain⟨p1,p2,p3,_,_⟩:=hw_parts n.high n.items.length (kb n.keys) b1 b2 (by omega)
 obtain⟨q1,q2,q3,_,_⟩:=hw_parts n'.high n'.items.length (kb n'.keys) c1 c2 (by omega)
 rw[eh] at p1 p2 p3
 have e1:n.high=n'.high:=by have:=p1.symm.trans q1;omega
 have e2:n.items.length=n'.items.length:=by have:=p2.symm.trans q2;omega
 have e3:kb n.keys=kb n'.keys:=by have:=p3.symm.trans q3;omega
 have hss:n.size=n'.size:=by unfold Nd.size;rw[e2,e3]
 have e:n.wds=n'.wds:=by
  apply List.ext_getElem (by omega)
  intro i h1 h2
  have a1:=s.wd i _ (List.getElem?_eq_getElem h1)
  have a2:=s'.wd i _ (List.getElem?_eq_getElem h2)
  rw[a1] at a2
  exact Int.ofNat_inj.1 a2
 unfold Nd.wds at e
 obtain⟨-,et⟩:=List.cons.inj e
 obtain⟨i1,i2⟩:=List.append_inj et e2
 exact⟨e1,i1,pkW_inj (by rw[jk_len s.ok.kok,jk_len s'.ok.kok,e3]) (jk_lt s.ok.kok) (jk_lt s'.ok.kok) (by rw[jk_len s.ok.kok];omega) i2⟩
theorem Un.hi {T:Nat->List Pr->List Nat->Prop} {h:Nat} {n:Nd} {l:List Pr} {Q:List Nat} (x:Un nu T h n l Q):n.high=h:=by
 rcases x with ⟨e,rfl,_⟩ | ⟨_,B,ks,rfl,_⟩
 ·exact e.symm
 ·rfl
theorem Tr.hi:∀{h h' u:Nat} {l l':List Pr} {Q Q':List Nat},Tr nu sz f h u l Q->Tr nu sz f h' u l' Q'->h=h'
 | 0,_,_,_,_,_,_,t,_=>t.elim
 | _,0,_,_,_,_,_,_,t=>t.elim
 | h+1,h'+1,_,_,_,_,_,⟨n,_,s,x,_⟩,⟨n',_,s',x',_⟩=>by
  have:=(s.one s').1
  rw[x.hi,x'.hi] at this
  exact this
theorem Tr.meet:∀{h u:Nat} {l l':List Pr} {Q Q':List Nat},Tr nu sz f h u l Q->Tr nu sz f h u l' Q'->∃p∈l,∃q∈l',p.1=q.1
 | 0,_,_,_,_,_,t,_=>t.elim
 | h+1,u,l,l',_,_,⟨n,_,s,x,_⟩,⟨n',_,s',x',_⟩=>by
  obtain⟨o1,o2,o3⟩:=s.one s'
  rcases x with ⟨e,rfl,hne,_⟩ | ⟨h2,B,ks,rfl,fo⟩
  ·rcases x' with ⟨_,rfl,hne',_⟩ | ⟨h2',_⟩
   ·cases l with
    | nil=>exact absurd rfl hne
    | cons p l=>
     cases l' with
     | nil=>exact absurd rfl hne'
     | cons q l'=>
      refine⟨p,List.mem_cons_self ..,q,List.mem_cons_self ..,?_⟩
      exact first_inj (s.ok.kok p.1 (by simp[Nd.keys])).2 (s'.ok.kok q.1 (by simp[Nd.keys])).2 o3
   ·omega
  ·rcases x' with ⟨e,_⟩ | ⟨_,B',ks',rfl,fo'⟩
   ·omega
   ·cases ks with
    | nil=>have:=fo.2.2.2.1.len;simp at this
    | cons k ks=>
     cases ks' with
     | nil=>have:=fo'.2.2.2.1.len;simp at this
     | cons k' ks'=>
      have b1:=s.ok.form.2.2.2 (kidN nu k) (by simp)
      have b2:=s'.ok.form.2.2.2 (kidN nu k') (by simp)
      have ei:itN (kidN nu k).1 (kidN nu k).2=itN (kidN nu k').1 (kidN nu k').2:=by
       have:=congrArg (fun l=>l.getD 0 0) o2
       simpa [Nd.items] using this
      obtain⟨p1,_,_⟩:=it_parts _ _ b1.1 b1.2
      obtain⟨q1,_,_⟩:=it_parts _ _ b2.1 b2.2
      rw[ei] at p1
      have ea:(kidN nu k).1=(kidN nu k').1:=by have:=p1.symm.trans q1;omega
      have eu:k.1=k'.1:=by
       have:fi nu+8 * k.1=fi nu+8 * k'.1:=ea
       omega
      have t1:=fo.1 k (List.mem_cons_self ..)
      have t2:=fo'.1 k' (List.mem_cons_self ..)
      rw[<-eu] at t2
      obtain⟨p,hp,q,hq,e⟩:=Tr.meet t1 t2
      exact⟨p,(fo.sub (List.mem_cons_self ..)).1.subset hp,q,(fo'.sub (List.mem_cons_self ..)).1.subset hq,e⟩
theorem Tr.at:∀{h u:Nat} {l:List Pr} {Q:List Nat},Tr nu sz f h u l Q->∀v∈Q,∃h' l' Q',h'<=h/\Tr nu sz f h' v l' Q'/\∀p∈l',p∈l
 | 0,_,_,_,t,_,_=>t.elim
 | h+1,u,l,Q,t,v,hv=>by
  obtain⟨n,Q',s,x,e⟩:=t
  rw[e] at hv
  rcases List.mem_cons.1 hv with rfl | hv
  ·exact⟨h+1,l,Q,Nat.le_refl _,⟨n,Q',s,x,e⟩,fun _ hp=>hp⟩
  ·rcases x with ⟨_,_,_,rfl⟩ | ⟨h2,B,ks,e1,fo⟩
   ·cases hv
   ·rw[fo.2.2.1] at hv
    obtain⟨r,hr,hv⟩:=List.mem_flatten.1 hv
    obtain⟨k,hk,rfl⟩:=List.mem_map.1 hr
    obtain⟨h',l',Q2,h1,h3,h4⟩:=(fo.1 k hk).at v hv
    exact⟨h',l',Q2,by omega,h3,fun p hp=>(fo.sub hk).1.subset (h4 p hp)⟩
theorem Tr.nodup:∀{h u:Nat} {l:List Pr} {Q:List Nat},Tr nu sz f h u l Q->Rise l->Q.Nodup
 | 0,_,_,_,t,_=>t.elim
 | h+1,u,l,Q,t,ri=>by
  have t0:=t
  obtain⟨n,Q',s,x,e⟩:=t
  rw[e]
  rcases x with ⟨_,_,_,rfl⟩ | ⟨h2,B,ks,e1,fo⟩
  ·simp
  ·rw[List.nodup_cons]
   refine⟨fun hu=>?_,?_⟩
   ·rw[fo.2.2.1] at hu
    obtain⟨r,hr,hu⟩:=List.mem_flatten.1 hu
    obtain⟨k,hk,rfl⟩:=List.mem_map.1 hr
    obtain⟨h',l',Q2,h1,h3,h4⟩:=(fo.1 k hk).at u hu
    have:=t0.hi h3
    omega
   ·rw[fo.2.2.1]
    refine List.pairwise_flatten.2 ⟨fun r hr=>?_,?_⟩
    ·obtain⟨k,hk,rfl⟩:=List.mem_map.1 hr
     exact(fo.1 k hk).nodup (ri.sub (fo.sub hk).1)
    ·have hp:(ks.map (·.2.1)).Pairwise fun a b=>∀p∈a,∀q∈b,ltK p.1 q.1:=by
      have:=ri
      rw[fo.2.1] at this
      exact(List.pairwise_flatten.1 this).2
     rw[List.pairwise_map] at hp ⊢
     refine List.Pairwise.imp_of_mem ?_ hp
     intro a b ha hb hab v hva v' hvb ev
     subst ev
     obtain⟨h1,l1,Q1,_,t1,s1⟩:=(fo.1 a ha).at v hva
     obtain⟨h3,l3,Q3,_,t3,s3⟩:=(fo.1 b hb).at v hvb
     have eh:=t1.hi t3
     subst eh
     obtain⟨p,hp,q,hq,e⟩:=t1.meet t3
     have:=hab p (s1 p hp) q (s3 q hq)
     rw[e] at this
     exact ltK_irr _ this
end
end

section
section
variable {nu sz:Nat} {w w' w0:World} {hb sb b:Nat} {T:Tay} {A:Ab} {P:List (Int×Int)}
theorem y_takenC (h:Hp nu sz w hb sb b T A P) (s:HpS nu (says P A)) (u:Nat) (hne:ask nu (says P A) u≠0) {b2 b3 b4:Nat} (c2:w.cell? ⟨b2,0,none⟩=some (ptr hb)) (c3:w.cell? ⟨b3,0,none⟩=some (.int .i64 ((fi nu+8 * u:Nat):Int))) (c4:w.cell? ⟨b4,0,none⟩=some (.int .i64 0)) (z4:w.frozen? ⟨b4,0,none⟩=false) :
  Calls Tryz.prog 112 #[ptr b2,ptr b3,ptr b4] w fun e w'=>e = .returned (.tuple #[])/\∃q,w'=(w.drewN q).setCell ⟨b4,0,none⟩ (.int .i64 (ask nu (says P A) u:Nat)):=by
 have SZ:=h_size h.hp h.reads s.wd u (s.inv.asks u hne).1 (begs_of s.inv hne)
 rw[show((fi nu:Int)+(u:Int) * 8)=((fi nu+8 * u:Nat):Int) by omega] at SZ
 have HSZ:=Hd SZ
 clear SZ h s hne
 generalize fi nu+8 * u=p at *
 go_enter Tryz.func112,Tryz.ntmps112
 go_wp2_with fail
 refine(uh HSZ).mono ?_
 clear HSZ
 rintro e w1 ⟨rfl,q,rfl⟩
 have c4':(w.drewN q).cell? ⟨b4,0,none⟩=some (.int .i64 0):=c4
 have z4':(w.drewN q).frozen? ⟨b4,0,none⟩=false:=z4
 clear c4 z4 c2 c3
 go_wp2
 go_end0
 exact⟨rfl,q,rfl⟩
set_option maxRecDepth 20000 in
theorem y_taken (h:Hp nu sz w hb sb b T A P) (s:HpS nu (says P A)) (u:Nat) (a32:ask nu (says P A) u=32) :
  Calls Tryz.prog 70 #[ptr hb,.int .i64 ((fi nu+8 * u:Nat):Int)] w fun e w'=>e = .returned (.bool true)/\St w w':=by
 have hne:ask nu (says P A) u≠0:=by rw[a32];omega
 obtain⟨pz,hpz⟩:∃pz,fi nu+8 * u=pz:=⟨_,rfl⟩
 obtain⟨W1,hW1⟩:∃W1,w.alloc (.cells #[ptr hb] 24)=W1:=⟨_,rfl⟩
 obtain⟨W2,hW2⟩:∃W2,W1.alloc (.cells #[.int .i64 (pz:Int)] 3)=W2:=⟨_,rfl⟩
 obtain⟨W3,hW3⟩:∃W3,W2.alloc (.cells #[.int .i64 0] 3)=W3:=⟨_,rfl⟩
 obtain⟨g,hg⟩:∃g,w.heap.size=g:=⟨_,rfl⟩
 have z1:W1.heap.size=g+1:=by rw[<-hW1];simp[hg]
 have z2:W2.heap.size=g+2:=by rw[<-hW2];simp;omega
 have z3:W3.heap.size=g+3:=by rw[<-hW3];simp;omega
 have f1:St w W1:=hW1▸(Fr.refl _ w).alloc _
 have f2:St W1 W2:=hW2▸(Fr.refl _ W1).alloc _
 have f3:St W2 W3:=hW3▸(Fr.refl _ W2).alloc _
 have f23:St W1 W3:=f2.trans' f3 nE
 have f03:St w W3:=f1.trans' f23 nE
 have b1:Box W3 g (ptr hb):=by
  have:=Box.new w (ptr hb) 24
  rw[hW1,hg] at this;exact this.kept f23 id
 have b2:Box W3 (g+1) (.int .i64 (pz:Int)):=by
  have:=Box.new W1 (.int .i64 (pz:Int)) 3
  rw[hW2,z1] at this;exact this.kept f3 id
 have b3:Box W3 (g+2) (.int .i64 0):=by
  have:=Box.new W2 (.int .i64 0) 3
  rw[hW3,z2] at this;exact this
 have TR:Calls Tryz.prog 80 #[.func (.func 112) #[] #[ptr g,ptr (g+1),ptr (g+2)]] W3 fun e w'=>∃h:How,e = .returned (.tuple #[h.v,.bool h.is])/\(h = .well/\Fr (fun k=>k=g+2) W3 w'/\Box w' (g+2) (.int .i64 (ask nu (says P A) u:Nat))):=
  try_fr (F:=fun k=>k=g+2) (fun k hk=>by omega) (acts_of (fun _ _=>by kernel_rfl) ((y_takenC (h.still (f03.alloc box)) s u hne (b1.alloc box).c (by rw[hpz];exact(b2.alloc box).c) (b3.alloc box).c (b3.alloc box).z).mono (by
   rintro e w' ⟨rfl,q,rfl⟩
   have fr1:Fr (fun k=>k=g+2) (W3.alloc box) (((W3.alloc box).drewN q).setCell ⟨g+2,0,none⟩ (.int .i64 (ask nu (says P A) u:Nat))):=((Fr.refl (fun k=>k=g+2) (W3.alloc box)).drewN q).setCell (.inl rfl) _
   refine⟨.well,rfl,fr1,fun w2 f2=>⟨rfl,?_,?_⟩⟩
   ·exact(((Fr.refl (fun k=>k=g+2) W3).alloc box).trans fr1).trans' f2 (fun k hk=>.inr (by omega))
   ·exact(((b3.alloc box).kept ((Fr.refl (fun _=>False) _).drewN q) id).set _).kept f2 (fun e=>by have e:g+2=W3.heap.size:=e;omega))))
 have ER:=g_errno (R:=fun h w'=>h = .well/\Fr (fun k=>k=g+2) W3 w'/\Box w' (g+2) (.int .i64 (ask nu (says P A) u:Nat))) TR (fun h w' x=>.inl x.1)
 have HER:=Hd ER;have HW:=Hd (ai hW1 (ai hW2 hW3));have HF:=Hd f03
 rw[hpz]
 clear h s hne TR ER f1 f2 f3 f23 f03 b1 b2 b3 hW1 hW2 hW3 z1 z2 z3
 rw[a32] at HER
 clear a32
 go_enter Tryz.func70,Tryz.ntmps70
 go_wp2_with fail
 rw[(uh HW).1,(uh HW).2.1,(uh HW).2.2,show g+1+1=g+2 from rfl]
 refine(uh HER).mono ?_
 clear HER HW
 rintro e w4 (⟨rfl,-,f4,b4⟩ | ⟨i,-,e,_⟩)
 ·have c4:=b4.c
  have HF4:=Hd ((uh HF).trans' f4 (fun k hk=>.inr (by omega)))
  clear f4 b4 HF
  go_wp2_with fail
  go_ret
  exact⟨by simp,uh HF4⟩
 ·exact(well_errnoG e.symm).elim
end
end
end Go.Proofs.YtbiopjmpdhcjgaaGreatDoor
