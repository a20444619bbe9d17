/- Joined: TxB OpnX Lw GHp GHw. -/
import Derived.Deep.CutRange
import Derived.Great.Ranges
import Derived.Great.Walk
import Derived.Laws.Rows
import Derived.Laws.Tables
import Derived.Test.YtbiopjmpdhcjgaaGreatDoorZ06
import Derived.Test.YtbiopjmpdhcjgaaGreatDoorZ09
namespace Go.Proofs.YtbiopjmpdhcjgaaGreatDoor
open Go.RowKit
set_option maxHeartbeats 4000000

section
def Stand (N:Nat) (base:Nat->Int) (xs:List (Int×Int)) (h:Nat->Int):Prop:=Clean 0 12304 base h\/Half N 0 12304 base xs h\/Clean 0 12304 (homed xs.reverse base) h
def Either (base:Nat->Int) (xs:List (Int×Int)) (h:Nat->Int):Prop:=Clean 0 12304 base h\/Clean 0 12304 (homed xs.reverse base) h
section
variable {w w':World} {b:Nat} {L:Lay} {N:Nat} {free:Prop} {A:Ab} {s:Int} {h base:Nat->Int} {xs:List (Int×Int)}
theorem open_stand (d:DevL w b L A) (c:Calm N free A s h) (st:Stand N base xs h) (hxs:xs.length<=6144) (hN:12304<=N * 8) (hs:s+12292<4294967296) :
  Calls Tryz.prog 119 #[ptr b,.int .i64 0,.int .i64 12304] w fun e w'=>
   (e = .returned (.tuple #[ptr w.heap.size,.int .i64 0])/\LogAt w' w.heap.size b 0 12304/\∃L' A' h',On w b L w' L' A'/\A'.n=A.n/\¬foot b L' w.heap.size/\Calm N free A' (s+12292) h'/\Either base xs h')\/
   (e = .panicked lost/\DM w b L w' fun A'=>¬free/\LogTorn N 0 12304 base xs (s+12292) A'):=by
 have n8:=d.n8
 rw[c.n] at n8
 have fresh:h 0=0->Either base xs h->Calls Tryz.prog 119 #[ptr b,.int .i64 0,.int .i64 12304] w fun e w'=>
   (e = .returned (.tuple #[ptr w.heap.size,.int .i64 0])/\LogAt w' w.heap.size b 0 12304/\∃L' A' h',On w b L w' L' A'/\A'.n=A.n/\¬foot b L' w.heap.size/\Calm N free A' (s+12292) h'/\Either base xs h')\/
   (e = .panicked lost/\DM w b L w' fun A'=>¬free/\LogTorn N 0 12304 base xs (s+12292) A'):=fun h0 e2=>by
  refine(open_fresh d c.dead 0 12304 (by omega) (by omega) (by rw[c.n];omega) (by rw[c.now,h0])).mono ?_
  rintro e w' ⟨rfl,rfl⟩
  exact .inl ⟨rfl,log_new _ _ _ _,L,A,h,(On.start d).alloc _,rfl,fun hf=>by have:=d.lt _ hf;omega,c.more (by omega),e2⟩
 rcases st with e | e | e
 ·exact fresh e.mark (.inl e)
 ·refine(open_sealed d c n8 0 12304 (by omega) (by omega) (by omega) xs e.whole (by omega)).mono ?_
  rintro e' w' (⟨rfl,l',L',A',o,nf,c'⟩ | ⟨rfl,D⟩)
  ·exact .inl ⟨rfl,l',L',A',_,o,c'.n.trans c.n.symm,nf,c'.more (by omega),.inr (e.done (by omega))⟩
  ·refine .inr ⟨rfl,D.mono fun A' ⟨nf,t⟩=>⟨nf,?_⟩⟩
   have tt:=e.torn (by omega) t
   obtain⟨f',g,_,tn⟩:=t
   exact⟨tn.n,by have:=tn.st;omega,fun k hp=>(tt k hp).elim (fun x=>.inr (.inl x)) (fun x=>.inr (.inr x))⟩
 ·exact fresh e.mark (.inr e)
theorem need_ok (w:World):Calls Tryz.prog 120 #[.int .i64 6144] w fun e w'=>e = .returned (.int .i64 12304)/\w'=w:=by
 go_enter Tryz.func120,Tryz.ntmps120
 go_wp2
 go_ret
 exact⟨rfl,rfl⟩
theorem room_ok (n:Int) (h:12400<=n) (h2:n<4294967296) (w:World):Calls Tryz.prog 116 #[.int .i64 n] w fun e w'=>e = .returned (.int .i64 ((n - 12400) / 8 * 8))/\w'=w:=by
 go_enter Tryz.func116,Tryz.ntmps116
 go_wp2
 go_ret
 exact⟨rfl,rfl⟩
theorem open_clo {bd bs sb:Nat} {R1:World->Prop} {lgN:Nat->World->Prop} (cd:w.cell? ⟨bd,0,none⟩=some (ptr b)) (cs:w.cell? ⟨bs,0,none⟩=some (ptr sb))
  (K:Calls Tryz.prog 119 #[ptr b,.int .i64 0,.int .i64 12304] w.drew fun e w'=>(∃lg,e = .returned (.tuple #[ptr lg,.int .i64 0])/\w'.cell? ⟨bd,0,none⟩=some (ptr b)/\w'.cell? ⟨bs,0,none⟩=some (ptr sb)/\w'.cell? ⟨sb,1,none⟩=some (.pointer none)/\w'.frozen? ⟨sb,1,none⟩=false/\lgN lg w')\/(e = .panicked lost/\R1 w')) :
  Calls Tryz.prog 118 #[ptr bd,ptr bs] w fun e w'=>(e = .returned (.tuple #[])/\∃w1 lg,lgN lg w1/\w'=w1.setCell ⟨sb,1,none⟩ (ptr lg))\/(e = .panicked lost/\R1 w'):=by
 have HK:=Hd K
 clear K
 go_enter Tryz.func118,Tryz.ntmps118
 go_wp2_with fail
 go_region_with (first | (go_at_call 120;refine(need_ok _).mono ?_;rintro e w' ⟨rfl,rfl⟩) | (go_at_call 119;refine(uh HK).mono ?_;rintro e w2 (⟨lg,rfl,d2,s2,x2,z2,g2⟩ | ⟨rfl,r1⟩);rotate_left;(exact⟨rfl,.inr ⟨rfl,r1⟩⟩);have HG:=Hd g2;clear g2))
 all_goals
  clear HK
  go_end0
  exact .inl ⟨rfl,w2,lg,uh HG,rfl⟩
end
section
variable {w w':World} {b sb:Nat} {L:Lay} {N n:Nat} {free:Prop} {A:Ab} {s:Int} {h base:Nat->Int} {xs:List (Int×Int)}
theorem forget_raw (x y:Value) (c3:w.cell? ⟨sb,3,none⟩=some x) (c4:w.cell? ⟨sb,4,none⟩=some y) (z:∀o,w.frozen? ⟨sb,o,none⟩=false) :
  Calls Tryz.prog 85 #[ptr sb] w fun e w'=>e = .returned (.tuple #[])/\w'=((w.setCell ⟨sb,3,none⟩ (.slice none 0 0)).setCell ⟨sb,4,none⟩ (.map (some w.heap.size))).alloc (.map #[] 0):=by
 have lt:sb<w.heap.size:=World.block_lt_of_cell? _ _ c3
 have hmm:=@run_makeMap Tryz.prog
 have q4:((w.setCell ⟨sb,3,none⟩ (.slice none 0 0)).alloc (.map #[] 0)).cell? ⟨sb,4,none⟩=some y:=by
  rw[World.cell?_alloc_lt _ _ _ (by simpa using lt),World.cell?_setCell_other _ _ _ _ (by simp)];exact c4
 have q5:((w.setCell ⟨sb,3,none⟩ (.slice none 0 0)).alloc (.map #[] 0)).frozen? ⟨sb,4,none⟩=false:=by
  rw[((Fr.refl (fun _=>False) (w.setCell ⟨sb,3,none⟩ (.slice none 0 0))).alloc (.map #[] 0)).frozen (by simpa using lt) id,World.frozen?_setCell];exact z 4
 go_enter Tryz.func85,Tryz.ntmps85
 go_wp2
 go_end0
 exact⟨rfl,rfl⟩
structure Raw (w0 w:World) (bd bs sb b n:Nat):Prop where
 fr:St w0 w
 cd:w.cell? ⟨bd,0,none⟩=some (ptr b)
 cs:w.cell? ⟨bs,0,none⟩=some (ptr sb)
 obj:w.heap[sb]? = some (.cells #[ptr b,.pointer none,.int .i64 n,.slice none 0 0,.map none,.bool false] 74)
 nd:w0.heap.size<=bd
 ns:w0.heap.size<=bs
 nn:w0.heap.size<=sb
 d1:bd≠sb
 d2:bs≠sb

abbrev storObj (b n:Nat) (lv mv:Value):Obj:=.cells #[ptr b,lv,.int .i64 n,.slice none 0 0,mv,.bool false] 74
theorem raw_a {W:World} (f:St w W) (bc:W.cell? ⟨w.heap.size,0,none⟩=some (ptr b)) (n:Nat) :
  Raw w ((W.alloc (.cells #[ptr (W.heap.size+1)] 23)).alloc (storObj b n (.pointer none) (.map none))).drew w.heap.size W.heap.size (W.heap.size+1) b n:=by
 have lt:w.heap.size<W.heap.size:=World.block_lt_of_cell? _ _ bc
 have f1:St W (W.alloc (.cells #[ptr (W.heap.size+1)] 23)):=(Fr.refl _ W).alloc _
 have f2:=f1.alloc (storObj b n (.pointer none) (.map none))
 have z1:(W.alloc (.cells #[ptr (W.heap.size+1)] 23)).heap.size=W.heap.size+1:=by simp
 refine⟨(f.trans f2).drew,f2.drew.cell' bc id,?_,?_,by omega,by omega,by omega,by omega,by omega⟩
 ·exact((Box.new W (ptr (W.heap.size+1)) 23).alloc _).c
 ·have:=heap_alloc_new (W.alloc (.cells #[ptr (W.heap.size+1)] 23)) (storObj b n (.pointer none) (.map none))
  rw[z1] at this
  exact this
theorem raw_b {W:World} (f:St w W) (bc:W.cell? ⟨w.heap.size,0,none⟩=some (ptr b)) (n:Nat) :
  Raw w ((W.alloc (storObj b n (.pointer none) (.map none))).alloc (.cells #[ptr W.heap.size] 23)).drew w.heap.size (W.heap.size+1) W.heap.size b n:=by
 have lt:w.heap.size<W.heap.size:=World.block_lt_of_cell? _ _ bc
 have f1:St W (W.alloc (storObj b n (.pointer none) (.map none))):=(Fr.refl _ W).alloc _
 have f2:=f1.alloc (.cells #[ptr W.heap.size] 23)
 have z1:(W.alloc (storObj b n (.pointer none) (.map none))).heap.size=W.heap.size+1:=by simp
 refine⟨(f.trans f2).drew,f2.drew.cell' bc id,?_,?_,by omega,by omega,by omega,by omega,by omega⟩
 ·have:=(Box.new (W.alloc (storObj b n (.pointer none) (.map none))) (ptr W.heap.size) 23).c
  rw[z1] at this
  exact this
 ·exact((Fr.refl (fun _=>False) _).alloc _).obj (heap_alloc_new W (storObj b n (.pointer none) (.map none))) id
structure Made (w0 w:World) (bd bs sb mb b n:Nat):Prop where
 fr:St w0 w
 cd:w.cell? ⟨bd,0,none⟩=some (ptr b)
 cs:w.cell? ⟨bs,0,none⟩=some (ptr sb)
 obj:w.heap[sb]? = some (storObj b n (.pointer none) (.map (some mb)))
 mob:w.heap[mb]? = some (.map #[] 0)
 nd:w0.heap.size<=bd
 ns:w0.heap.size<=bs
 nn:w0.heap.size<=sb
 nm:w0.heap.size<=mb
 d1:bd≠sb
 d2:bs≠sb
 d3:mb≠sb
theorem heap_lt {w:World} {k:Nat} {o:Obj} (hv:w.heap[k]? = some o):k<w.heap.size:=by
 rcases Nat.lt_or_ge k w.heap.size with hk | hk
 ·exact hk
 ·rw[Array.getElem?_eq_none hk] at hv;cases hv
theorem Raw.made {bd bs sb b n:Nat} {w1:World} (r:Raw w w1 bd bs sb b n):Made w (((w1.setCell ⟨sb,3,none⟩ (.slice none 0 0)).setCell ⟨sb,4,none⟩ (.map (some w1.heap.size))).alloc (.map #[] 0)) bd bs sb w1.heap.size b n:=by
 have lt:=heap_lt r.obj
 have f1:Fr (fun k=>k=sb) w1 (((w1.setCell ⟨sb,3,none⟩ (.slice none 0 0)).setCell ⟨sb,4,none⟩ (.map (some w1.heap.size))).alloc (.map #[] 0)):=(((Fr.refl (fun k=>k=sb) w1).setCell (.inl rfl) _).setCell (.inl rfl) _).alloc _
 refine⟨r.fr.trans' f1 (fun k hk=>.inr (by have:=r.nn;omega)),f1.cell' r.cd r.d1,f1.cell' r.cs r.d2,?_,?_,r.nd,r.ns,r.nn,?_,r.d1,r.d2,by omega⟩
 ·rw[Below.heap_alloc _ _ _ (by simpa using lt)]
  rw[heap_setCell_same _ sb 4 _ 74 _ (heap_setCell_same _ sb 3 _ 74 _ r.obj)]
  rfl
 ·have:=heap_alloc_new ((w1.setCell ⟨sb,3,none⟩ (.slice none 0 0)).setCell ⟨sb,4,none⟩ (.map (some w1.heap.size))) (.map #[] 0)
  simpa using this
 ·exact r.fr.size
structure Ope (w:World) (b:Nat) (L:Lay) (n N:Nat) (free:Prop) (s:Int) (base:Nat->Int) (xs:List (Int×Int)) (sb:Nat) (w':World):Prop where
 ex:∃T A' h',StL w' sb b T n A' [] false/\(∀k,tfoot sb b T k->foot b L k\/w.heap.size<=k)/\Calm N free A' (s+12292) h'/\Either base xs h'
 fr:Fr (foot b L) w w'
theorem Ope.still {w2:World} (o:Ope w b L n N free s base xs sb w') (f:St w' w2):Ope w b L n N free s base xs sb w2:=by
 obtain⟨T,A',h',h1,h2,h3,h4⟩:=o.ex
 exact⟨⟨T,A',h',h1.still f,h2,h3,h4⟩,o.fr.trans' f nE⟩
theorem open_made {bd bs mb:Nat} {w2:World} (m:Made w w2 bd bs sb mb b n) (d:DevL w b L A) (c:Calm N free A s h) (st:Stand N base xs h) (hxs:xs.length<=6144) (hn:N * 8=12400+n) (hs:s+12292<4294967296) (W0:World) (f0:St w2 W0) :
  Calls Tryz.prog 80 #[.func (.func 118) #[] #[ptr bd,ptr bs]] W0 fun e w'=>∃h:How,e = .returned (.tuple #[h.v,.bool h.is])/\
   ((h = .well/\Ope w b L n N free s base xs sb w'/\w'.cell? ⟨bs,0,none⟩=some (ptr sb))\/(h = .lost/\DM w b L w' fun A'=>¬free/\LogTorn N 0 12304 base xs (s+12292) A')):=by
 have lsb:=heap_lt m.obj
 have lmb:=heap_lt m.mob
 have ffoot:∀k,foot b L k->k<w.heap.size:=fun k hk=>d.lt k hk
 have f1:St w2 (W0.alloc box):=f0.alloc box
 have fw:St w (W0.alloc box):=m.fr.trans f1
 have z1:(W0.alloc box).heap.size=W0.heap.size+1:=by simp
 have sz:=fw.size
 have szm:=m.fr.size
 have sz0:=f0.size
 obtain⟨W1,hW1⟩:∃W1,W0.alloc box=W1:=⟨_,rfl⟩
 have m1:Made w W1 bd bs sb mb b n:=hW1▸⟨fw,f1.cell' m.cd id,f1.cell' m.cs id,f1.obj m.obj id,f1.obj m.mob id,m.nd,m.ns,m.nn,m.nm,m.d1,m.d2,m.d3⟩
 rw[hW1] at fw z1 sz
 refine try_fr (F:=fun k=>foot b L k\/k=sb) (fun k hk=>by rcases hk with hk | hk;(have:=ffoot k hk;omega);omega) (acts_of (fun _ _=>by kernel_rfl) ?_)
 rw[hW1]
 have d1:DevL W1.drew b L A:=d.keptF fw.drew
 have OS:=open_stand d1 c st hxs (by omega) hs
 have lbd:bd<W1.heap.size:=World.block_lt_of_cell? _ _ m1.cd
 have lbs:bs<W1.heap.size:=World.block_lt_of_cell? _ _ m1.cs
 have lsb1:=heap_lt m1.obj
 have nfk:∀k,w.heap.size<=k->¬foot b L k:=fun k hk hf=>by have:=ffoot k hf;omega
 have OC:=open_clo (bd:=bd) (bs:=bs) (sb:=sb) (b:=b) (w:=W1) (R1:=fun w'=>DM W1.drew b L w' fun A'=>¬free/\LogTorn N 0 12304 base xs (s+12292) A')
  (lgN:=fun lg w'=>lg=W1.heap.size/\LogAt w' lg b 0 12304/\∃L' A' h',On W1.drew b L w' L' A'/\A'.n=A.n/\¬foot b L' lg/\Calm N free A' (s+12292) h'/\Either base xs h') m1.cd m1.cs (OS.mono (by
   rintro e w' (⟨rfl,l',L',A',h',o,q1,q2,q3,q4⟩ | ⟨rfl,D⟩)
   ·have ob:=o.fr.obj (show W1.drew.heap[sb]? = _ from m1.obj) (nfk _ m1.nn)
    exact .inl ⟨_,rfl,o.fr.cell' (show W1.drew.cell? _=_ from m1.cd) (nfk _ m1.nd),o.fr.cell' (show W1.drew.cell? _=_ from m1.cs) (nfk _ m1.ns),cOo ob 1,frozen_of_obj ob 1,rfl,l',L',A',h',o,q1,q2,q3,q4⟩
   ·exact .inr ⟨rfl,D⟩))
 refine OC.mono ?_
 rintro e w' (⟨rfl,w1,lg,⟨hlg,l',L',A',h',o,q1,q2,q3,q4⟩,rfl⟩ | ⟨rfl,D⟩)
 ·have fa:Fr (fun k=>foot b L k\/k=sb) W1 (w1.setCell ⟨sb,1,none⟩ (ptr lg)):=((show Fr (foot b L) W1 w1 from⟨o.fr.os,o.fr.tape,o.fr.output,o.fr.size,o.fr.block⟩).mono (G:=fun k=>foot b L k\/k=sb) (fun k hk=>.inl (.inl hk))).setCell (.inl (.inr rfl)) _
  refine⟨.well,rfl,fa,fun w3 f3=>.inl ⟨rfl,?_,?_⟩⟩
  ·have ob1:w1.heap[sb]? = some (storObj b n (.pointer none) (.map (some mb))):=o.fr.obj (show W1.drew.heap[sb]? = _ from m1.obj) (nfk _ m1.nn)
   have ob2:(w1.setCell ⟨sb,1,none⟩ (ptr lg)).heap[sb]? = some (storObj b n (ptr lg) (.map (some mb))):=by
    rw[heap_setCell_same _ sb 1 _ 74 _ ob1];rfl
   have n0:sb≠W0.heap.size:=by omega
   have ob3:w3.heap[sb]? = some (storObj b n (ptr lg) (.map (some mb))):=f3.obj ob2 n0
   have f13:Fr (fun k=>k=sb\/k=W0.heap.size) w1 w3:=((Fr.refl (fun k=>k=sb\/k=W0.heap.size) w1).setCell (.inl (.inl rfl)) _).trans' f3 (fun k hk=>.inl (.inr hk))
   have nL:∀k,foot b L' k->¬(k=sb\/k=W0.heap.size):=fun k hk hh=>by
    rcases o.sub k hk with e | e
    ·have:=ffoot k e;have:=m1.nn;omega
    ·have e':W1.heap.size<=k:=e
     omega
   have mb1:w1.heap[mb]? = some (.map #[] 0):=o.fr.obj (show W1.drew.heap[mb]? = _ from m1.mob) (nfk _ m1.nm)
   have mb3:w3.heap[mb]? = some (.map #[] 0):=f13.obj mb1 (fun hh=>by have:=m.d3;omega)
   have nlg:∀k,foot b L' k->foot b L k\/w.heap.size<=k:=fun k hk=>(o.sub k hk).imp id (fun x=>by have x':W1.heap.size<=k:=x;omega)
   have lmb1:=heap_lt m1.mob
   refine⟨⟨⟨L',lg,mb,.slice none 0 0⟩,A',h',?_,?_,q3,q4⟩,?_⟩
   ·have cs:∀o,w3.cell? ⟨sb,o,none⟩=#[ptr b,ptr lg,.int .i64 n,.slice none 0 0,.map (some mb),.bool false][o]?:=fun o=>cOo ob3 o
    refine { dev:=o.d.kept f13 nL,log:=l'.kept f13 (fun hh=>by omega),words:=by rw[q1,c.n];exact hn,c0:=cs 0,c1:=cs 1,c2:=cs 2,c3:=cs 3,c4:=cs 4,c5:=cs 5,zs:=fun o=>frozen_of_obj ob3 o,own:=World.ownsRow_nil _ _ _ _,map:=⟨.map [],?_,Maps.isMap_empty,fun p x hp=>by simp at hp,fun j hj=>rfl⟩,few:=by simp,keys:=by simp,nsb:=fun hk=>nL _ hk (.inl rfl),nlg:=q2,nmb:=fun hk=>?_,nsv:=fun k hk=>by simp[Value.ownBlock] at hk,lgsb:=by show lg≠sb;omega,mbsb:=m.d3,mblg:=by show mb≠lg;omega }
    ·have:=World.ownsMap_made (H:=Unit) ({ w3 with heap:=#[] }:World) Tryz.prog 3 (plainElem Tryz.prog 3)
     obtain⟨es,clock,e1,e2⟩:=this
     simp[World.alloc] at e1
     obtain⟨e1a,e1b⟩:=e1
     exact⟨es,clock,by rw[mb3,e1a,e1b],e2⟩
    ·rcases o.sub _ hk with e | e
     ·exact nfk _ m.nm e
     ·have e':W1.heap.size<=mb:=e
      omega
   ·rintro k (hk | hk | hk | hk | hk)
    ·exact nlg k hk
    ·right;rw[hk];exact m.nn
    ·right;have:k=lg:=hk;omega
    ·right;have:k=mb:=hk;have:=m.nm;omega
    ·simp[Value.ownBlock] at hk
   ·have g1:Fr (foot b L) w w1:=(fw.mono (G:=foot b L) nE).trans ⟨o.fr.os,o.fr.tape,o.fr.output,o.fr.size,o.fr.block⟩
    exact g1.trans' f13 (fun k hk=>.inr (by have:=m.nn;omega))
  ·have c1:w1.cell? ⟨bs,0,none⟩=some (ptr sb):=o.fr.cell' (show W1.drew.cell? _=_ from m1.cs) (nfk _ m1.ns)
   have c2:(w1.setCell ⟨sb,1,none⟩ (ptr lg)).cell? ⟨bs,0,none⟩=some (ptr sb):=(World.cell?_setCell_other _ _ _ _ (fun e=>m.d2 (by injection e with e;exact e.symm))).trans c1
   exact f3.cell' c2 (by
    have:bs<w2.heap.size:=World.block_lt_of_cell? _ _ m.cs
    show ¬bs=W0.heap.size;omega)
 ·obtain⟨L',A',dv,p,fr,sub⟩:=D
  refine⟨.lost,How.ended_one _ _,(show Fr (foot b L) W1 w' from⟨fr.os,fr.tape,fr.output,fr.size,fr.block⟩).mono (fun k hk=>.inl (.inl hk)),fun w3 f3=>.inr ⟨rfl,?_⟩⟩
  have nL:∀k,foot b L' k->¬k=W0.heap.size:=fun k hk hh=>by
   rcases sub k hk with e | e
   ·have:=ffoot k e;omega
   ·have e':W1.heap.size<=k:=e
    omega
  refine⟨L',A',dv.kept f3 nL,p,((fw.mono (G:=foot b L) nE).trans (show Fr (foot b L) W1 w' from⟨fr.os,fr.tape,fr.output,fr.size,fr.block⟩)).trans' f3 (fun k hk=>.inr (by omega)),fun k hk=>(sub k hk).imp id (fun x=>by have x':W1.heap.size<=k:=x;omega)⟩
end
end

section
section
variable {w w':World} {b sb:Nat} {L:Lay} {N n:Nat} {free:Prop} {A:Ab} {s:Int} {h base:Nat->Int} {xs:List (Int×Int)}
theorem tx_open (d:DevL w b L A) (c:Calm N free A s h) (st:Stand N base xs h) (hxs:xs.length<=6144) (hn:N * 8=12400+n) (hn0:0<n) (hs:s+12292<4294967296) :
  Calls Tryz.prog 74 #[ptr b] w fun e w'=>
   (∃sb,e = .returned (.tuple #[ptr sb,.int .i64 0])/\w.heap.size<=sb/\Ope w b L n N free s base xs sb w')\/
   (e = .returned (.tuple #[.pointer none,.int .i64 50])/\DM w b L w' fun A'=>¬free/\LogTorn N 0 12304 base xs (s+12292) A'):=by
 have n8:=d.n8
 have wd:=words_any b L.bn A.n w d.n8 d.c0
 have hAn:=c.n
 obtain⟨W,hW⟩:∃W,w.alloc (.cells #[ptr b] 22)=W:=⟨_,rfl⟩
 have fW:St w W:=hW▸(Fr.refl _ w).alloc _
 have WD:∀w1,St w w1->Calls Tryz.prog 117 #[ptr b] w1 fun e w'=>e = .returned (.int .i64 (12400+n))/\w'=w1:=fun w1 f1=>by
  have:=words_any b L.bn A.n w1 d.n8 (d.keptF f1).c0
  rw[hAn,show(N:Int) * 8=12400+n by omega] at this
  exact this
 have RM:∀w1,Calls Tryz.prog 116 #[.int .i64 (12400+n)] w1 fun e w'=>e = .returned (.int .i64 n)/\w'=w1:=fun w1=>by
  have:=room_ok (12400+n) (by omega) (by omega) w1
  rw[show((12400:Int)+n - 12400) / 8 * 8=n by omega] at this
  exact this
 have WD1:=WD W fW
 have hne:((n:Int) == 0)=false:=by simp;omega
 have enil:∀w:World,(binOp .eql 22 (ptr b) (.pointer none)).run Tryz.prog w = .ok (.bool false) w:=fun w=>by kernel_rfl
 have HW:=Hd hW;have HFW:=Hd fW;have H1:=Hd WD1;have H2:=@Hd _ WD;have HD:=Hd d;have HC:=Hd c;have HST:=Hd st
 clear wd WD fW d c st WD1
 have bc:W.cell? ⟨w.heap.size,0,none⟩=some (ptr b):=hW▸(Box.new w (ptr b) 22).c
 go_enter Tryz.func74,Tryz.ntmps74
 go_wp2_with (first | (go_at_call 117;refine(uh H1).mono ?_;rintro e w1 ⟨rfl,hh⟩;replace hh:=hh.symm;subst hh) | (go_at_call 116;refine(RM _).mono ?_;rintro e w1 ⟨rfl,hh⟩;replace hh:=hh.symm;subst hh) | fail)
 go_cut [4] from 15 to 20 (fun s4 wx=>∃bs sb,s4=ptr bs/\Raw w wx w.heap.size bs sb b n)
 case first=>
  have bca:∀o,(W.alloc o).cell? ⟨w.heap.size,0,none⟩=some (ptr b):=fun o=>((Fr.refl (fun _=>False) W).alloc o).cell' bc id
  have ltW:w.heap.size<W.heap.size:=World.block_lt_of_cell? _ _ bc
  go_region_with (first | (go_at_call 117;refine(uh H2 _ (by first | exact(uh HFW).drew | exact((uh HFW).drew).alloc _ | exact((uh HFW).alloc _).drew)).mono ?_;rintro e w1 ⟨rfl,hh⟩;replace hh:=hh.symm;subst hh) | (go_at_call 116;refine(RM _).mono ?_;rintro e w1 ⟨rfl,hh⟩;replace hh:=hh.symm;subst hh))
  all_goals
   go_wp2_with fail
   go_meet
   first
    | exact⟨_,_,rfl,raw_a (uh HFW) bc n⟩
    | exact⟨_,_,rfl,raw_b (uh HFW) bc n⟩
 case rest=>
 obtain⟨bs,sb,rfl,r⟩:=hcut
 have ob:=r.obj
 have FG:=forget_raw (.slice none 0 0) (.map none) (cOo ob 3) (cOo ob 4) (fun o=>frozen_of_obj ob o)
 have m:=r.made
 have cs:=r.cs
 have nsb:=r.nn
 have ON:=fun W0 f0=>open_made m (uh HD) (uh HC) (uh HST) hxs hn hs W0 f0
 have hmf:=mf
 have HON:=@Hd _ ON;have HFG:=Hd FG;have HM:=Hd m
 clear ON FG r ob m bc
 go_wp2_with fail
 refine(uh HFG).mono ?_
 clear HFG
 rintro e w2 ⟨rfl,hh⟩
 rw[<-hh] at HON HM
 clear hh cs
 have OL:=onlyL_two (w:=w2) (uh HON)
 have HOL:=Hd OL
 clear OL HON
 go_wp2_with fail
 refine(uh HOL).mono ?_
 clear HOL
 rintro e w3 ⟨w1,f13,⟨rfl,op,cb⟩ | ⟨rfl,D⟩⟩
 ·have o3:=op.still (f13.alloc (.cells #[] 133))
  have c3:(w3.alloc (.cells #[] 133)).cell? ⟨bs,0,none⟩=some (ptr sb):=(f13.alloc _).cell' cb id
  have HO:=Hd o3
  clear op cb o3 f13
  go_wp2
  go_ret2
  exact .inl ⟨sb,rfl,nsb,uh HO⟩
 ·have HD3:=Hd (D.more (f13.alloc (.cells #[] 133)))
  clear D f13
  go_wp2
  go_ret2
  exact .inr ⟨rfl,uh HD3⟩
end
end

section
theorem new_any (n:Nat) (h1:1<=n) (h2:n<=8192) (w:World):Calls Tryz.prog 73 #[.int .i64 ((n:Int) * 8)] w (NewOk n w):=by
 have m1:=make_lines n h2
 have m2:=make_ints n h2
 have e8:((n:Int) * 8 % 8 != 0)=false:=by simp
 have ed:(n:Int) * 8 / 8=n:=by omega
 unfold NewOk
 go_enter Tryz.func73,Tryz.ntmps73
 go_wp2
 go_region
 all_goals
  go_wp2
  go_ret2
  refine⟨rfl,new_close w n h2 _ _ _ _ _ _ (by simp) (by simp) (by simp) (by omega) (by omega) (by omega)⟩
structure Opd (w:World) (b sb n:Nat) (T:Tay) (A:Ab) (w':World):Prop where
 st:StL w' sb b T n A [] false
 fr:St w w'
 new:∀k,tfoot sb b T k->w.heap.size<=k
 calm:∃N f,N * 8=12400+n/\Calm N True A 12292 f/\Clean 0 12304 (fun _=>0) f
theorem open_new (n N:Nat) (hn:N * 8=12400+n) (hn0:0<n) (w:World) {b:Nat} {L:Lay} {w1:World} (d:DevL w1 b L (Ab.fresh N)) (f:St w w1) (nw:∀k,foot b L k->w.heap.size<=k) :
  Calls Tryz.prog 74 #[ptr b] w1 fun e w'=>∃sb T A,e = .returned (.tuple #[ptr sb,.int .i64 0])/\Opd w b sb n T A w':=by
 refine(tx_open (free:=True) (s:=0) (base:=fun _=>0) (xs:=[]) d (fresh_calm N True) (.inl (clean0 0 12304)) (by simp) hn hn0 (by omega)).mono ?_
 rintro e w' (⟨sb,rfl,hsb,o⟩ | ⟨_,D⟩)
 ·obtain⟨T,A',h',st,sub,c,ei⟩:=o.ex
  refine⟨sb,T,A',rfl,st,f.trans' o.fr (fun k hk=>.inr (nw k hk)),fun k hk=>(sub k hk).elim (nw k) (fun x=>Nat.le_trans f.size x),N,h',hn,by simpa using c,?_⟩
  rcases ei with e | e
  ·exact e
  ·rw[List.reverse_nil,homed_nil] at e;exact e
 ·obtain⟨_,_,_,h,_⟩:=D
  exact absurd trivial h.1
theorem eq_nil_dev (b:Nat) (w:World):(binOp .eql 22 (ptr b) (.pointer none)).run Tryz.prog w = .ok (.bool false) w:=by kernel_rfl
theorem eq_nil_stor (b:Nat) (w:World):(binOp .eql 23 (ptr b) (.pointer none)).run Tryz.prog w = .ok (.bool false) w:=by kernel_rfl
theorem Fr.setRow (w:World) (g:Nat) (cs:Array Value):Fr (fun r=>r=g) w (w.setRow g cs):=
 ⟨rfl,rfl,rfl,by simp[World.setRow],fun k _ hk=>setRow_other w g k cs hk⟩
def agree (h g:Nat->Int) (m:Nat):Bool:=decide (∀j,j<m->h j=g j)
section
variable {w w':World} {sb b:Nat} {T:Tay} {n:Nat} {A:Ab} {P:List (Int×Int)}
abbrev says (P:List (Int×Int)) (A:Ab):Nat->Int:=fun i=>homed P A.now (12400+i)
end
structure Hold (w0:World) (X:Nat->Prop) (w:World) (sb b n:Nat) (T:Tay) (A:Ab) (P:List (Int×Int)) (dd:Bool):Prop where
 st:StL w sb b T n A P dd
 fr:St w0 w
 new:∀k,tfoot sb b T k->w0.heap.size<=k
 ap:∀k,X k->¬tfoot sb b T k
 xl:∀k,X k->w0.heap.size<=k/\k<w.heap.size
section
variable {w w' w0:World} {X Y:Nat->Prop} {sb b:Nat} {T T':Tay} {n N:Nat} {A A':Ab} {P P':List (Int×Int)} {dd dd':Bool} {s:Int} {f base:Nat->Int} {free:Prop}
theorem Hold.still (h:Hold w0 X w sb b n T A P dd) (hf:St w w'):Hold w0 X w' sb b n T A P dd:=
 ⟨h.st.still hf,h.fr.trans' hf nE,h.new,h.ap,fun k hk=>⟨(h.xl k hk).1,Nat.lt_of_lt_of_le (h.xl k hk).2 hf.size⟩⟩
theorem Hold.var (h:Hold w0 X w sb b n T A P dd) {F:Nat->Prop} (hf:Fr F w w') (hF:∀k,F k->X k):Hold w0 X w' sb b n T A P dd:=
 ⟨h.st.kept hf (fun k hk hFk=>h.ap k (hF k hFk) hk),h.fr.trans' hf (fun k hk=>.inr (h.xl k (hF k hk)).1),h.new,h.ap,fun k hk=>⟨(h.xl k hk).1,Nat.lt_of_lt_of_le (h.xl k hk).2 hf.size⟩⟩
theorem Hold.more (h:Hold w0 X w sb b n T A P dd) (o:Obj):Hold w0 (fun k=>X k\/k=w.heap.size) (w.alloc o) sb b n T A P dd:=by
 have f1:St w (w.alloc o):=(Fr.refl _ w).alloc o
 have h1:=h.still f1
 have sz:(w.alloc o).heap.size=w.heap.size+1:=by simp
 refine⟨h1.st,h1.fr,h1.new,fun k hk=>?_,fun k hk=>?_⟩
 ·rcases hk with hk | rfl
  ·exact h.ap k hk
  ·exact fun ht=>by have:=h.st.lt _ ht;omega
 ·rcases hk with hk | rfl
  ·exact h1.xl k hk
  ·exact⟨h.fr.size,by omega⟩
theorem Hold.sub (h:Hold w0 X w sb b n T A P dd) (hX:∀k,Y k->X k):Hold w0 Y w sb b n T A P dd:=⟨h.st,h.fr,h.new,fun k hk=>h.ap k (hX k hk),fun k hk=>h.xl k (hX k hk)⟩
end
section
variable {w:World} {sb b bs:Nat} {T:Tay} {n:Nat} {A:Ab} {P:List (Int×Int)}
end
end

section
structure Hp (nu sz:Nat) (w:World) (hb sb b:Nat) (T:Tay) (A:Ab) (P:List (Int×Int)):Prop where
 st:StL w sb b T sz A P false
 hp:HpL nu sz w hb sb
 nh:¬tfoot sb b T hb
 n0:¬tfoot sb b T 0
 ha:A.dead=false
def To (sz:Nat) (w:World) (sb b:Nat) (T:Tay) (A:Ab) (w':World) (g:Nat->Int) (m:Nat):Prop:=∃T' P',Onx w sb b T w' T' sz A P' false/\says P' A=g/\P'.length<=m
section
variable {nu sz:Nat} {w w' w0:World} {hb sb b:Nat} {T T0 T':Tay} {A:Ab} {P P':List (Int×Int)} {g:Nat->Int}
theorem Hp.lth (h:Hp nu sz w hb sb b T A P):hb<w.heap.size:=World.block_lt_of_cell? _ _ h.hp.c0
theorem Hp.lt0 (h:Hp nu sz w hb sb b T A P):0<w.heap.size:=World.block_lt_of_cell? _ _ (h.hp.tab 0 (by omega))
theorem Hp.still (h:Hp nu sz w hb sb b T A P) (hf:St w w'):Hp nu sz w' hb sb b T A P:=⟨h.st.still hf,h.hp.kept hf id id,h.nh,h.n0,h.ha⟩
theorem Hp.call (h:Hp nu sz w hb sb b T A P) (o:Onx w sb b T w' T' sz A P' false):Hp nu sz w' hb sb b T' A P':=
 ⟨o.st,h.hp.kept o.fr h.nh h.n0,o.other h.lth h.nh,o.other h.lt0 h.n0,h.ha⟩
theorem Hp.turn (h:Hp nu sz w hb sb b T A P) {F:Nat->Prop} (hf:Fr F w w') (h1:∀k,F k->¬tfoot sb b T k) (h2:¬F hb) (h3:¬F 0):Hp nu sz w' hb sb b T A P:=
 ⟨h.st.kept hf (fun k hk hF=>h1 k hF hk),h.hp.kept hf h2 h3,h.nh,h.n0,h.ha⟩
theorem To.le {m m':Nat} (h:To sz w sb b T A w' g m) (e:m<=m'):To sz w sb b T A w' g m':=let ⟨T',P',o,e1,e2⟩:=h;⟨T',P',o,e1,Nat.le_trans e2 e⟩
theorem To.quiet {m:Nat} (h:To sz w sb b T A w' g m) {w2:World} (hf:St w' w2):To sz w sb b T A w2 g m:=let ⟨T',P',o,e⟩:=h;⟨T',P',o.quiet hf,e⟩
theorem To.after {m:Nat} {w1:World} (h:To sz w1 sb b T A w' g m) (hf:St w w1):To sz w sb b T A w' g m:=let ⟨T',P',o,e⟩:=h;⟨T',P',o.after hf,e⟩
theorem To.trans {m:Nat} {w2:World} {g2:Nat->Int} (o:Onx w sb b T w' T' sz A P' false) (h:To sz w' sb b T' A w2 g2 m):To sz w sb b T A w2 g2 m:=let ⟨T2,P2,o2,e⟩:=h;⟨T2,P2,o.trans o2,e⟩
theorem put_len (P:List (Int×Int)) (j v:Int):(Go.Proofs.YtbiopjmpdhcjgaaGreatDoor.put P j v).length<=P.length+1:=by
 unfold Go.Proofs.YtbiopjmpdhcjgaaGreatDoor.put
 split <;> simp
theorem Hp.load (h:Hp nu sz w hb sb b T A P) (i:Nat) (hi:i<sz):Calls Tryz.prog 59 #[ptr sb,.int .i64 i] w fun e w'=>e = .returned (u64 (says P A i))/\w'=w:=t_load h.st h.ha i hi
theorem says_put (ho:Once P) (A:Ab) (i:Nat) (v:Int):says (put P (12400+(i:Int)) v) A=upd (says P A) i v:=by
 funext j
 have h1:=(homed_put ho (12400+i) v A.now).1
 have e:((12400+i:Nat):Int)=12400+(i:Int):=by omega
 rw[e] at h1
 show homed (put P (12400+(i:Int)) v) A.now (12400+j)=_
 rw[h1]
 by_cases hj:j=i
 ·subst hj;rw[upd_same,upd_same]
 ·rw[upd_other _ _ hj,upd_other _ _ (by omega)]
theorem Hp.put (h:Hp nu sz w hb sb b T A P) (hm:P.length<6144) (i:Nat) (hi:i<sz) (v:Int):Calls Tryz.prog 123 #[ptr sb,.int .i64 i,u64 v] w fun e w'=>e = .returned (.tuple #[])/\To sz w sb b T A w' (upd (says P A) i v) (P.length+1):=by
 refine(t_put h.st h.ha i v hi (.inl hm)).mono ?_
 rintro e w' ⟨rfl,T',-,o⟩
 exact⟨rfl,T',_,o,says_put h.st.once A i v,put_len _ _ _⟩
theorem Hp.reads (h:Hp nu sz w hb sb b T A P):Rds sz w sb (says P A):=fun q i hi=>(h.still ((Fr.refl _ w).drewN q)).load i hi
end
end

section
structure Bits (nu:Nat) (f g:Nat->Int):Prop where
 wd:Words64 nu g
 ak:ask nu g=ask nu f
 out:∀i,(i<18\/aw nu<=i)->g i=f i
theorem Bits.trans {nu:Nat} {f g h:Nat->Int} (a:Bits nu f g) (b:Bits nu g h):Bits nu f h:=⟨b.wd,b.ak.trans a.ak,fun i hi=>(b.out i hi).trans (a.out i hi)⟩
theorem bits_set {nu:Nat} {f:Nat->Int} (wd:Words64 nu f) {k c:Nat} (hc:c<64 * gr nu k) (v:Bool):Bits nu f (upd f (Bw nu k+c / 64) (bitTo (f (Bw nu k+c / 64)).toNat (c % 64) v:Nat)):=by
 have bl:=Bw_lt hc
 have fg:=fi_ge nu
 refine⟨fun i hi=>?_,ask_upd _ (.inl (by omega)),fun i hi=>upd_other _ _ (by omega)⟩
 by_cases e:i=Bw nu k+c / 64
 ·subst e
  rw[upd_same]
  have:=wd (Bw nu k+c / 64) (by omega)
  have:=bitTo_lt (f (Bw nu k+c / 64)).toNat (c % 64) v (by omega) (Nat.mod_lt _ (by omega))
  omega
 ·rw[upd_other _ _ e];exact wd i hi
section
variable {nu sz:Nat} {w:World} {hb sb b:Nat} {T:Tay} {A:Ab} {P:List (Int×Int)}
theorem h_setFree (h:Hp nu sz w hb sb b T A P) (wd:Words64 nu (says P A)) (hm:P.length<6144) (k c:Nat) (hc:c<64 * gr nu k) (v:Bool) :
  Calls Tryz.prog 124 #[ptr hb,.int .i64 k,.int .i64 c,.bool v] w fun e w'=>e = .returned (.tuple #[])/\∃g,To sz w sb b T A w' g (P.length+1)/\Bits nu (says P A) g/\fre nu g=setF (fre nu (says P A)) k c v:=by
 have hk:=gr_lt hc
 have bl:=Bw_lt hc
 obtain⟨g1,g2,g3,g4,g5,g6⟩:=h.hp.geo.b
 have E1:=fre_set (f:=says P A) hc v
 have E2:=bits_set wd hc v
 have PU:=fun q=>(h.still ((Fr.refl _ w).drewN q)).put hm (Bw nu k+c / 64) (by omega) (bitTo (says P A (Bw nu k+c / 64)).toNat (c % 64) v:Nat)
 have LD:=fun q=>h.reads q (Bw nu k+c / 64) (by omega)
 obtain⟨r0,r1⟩:=wd (Bw nu k+c / 64) (by omega)
 have hc5:c<=4100:=by have:=gr_le' nu k;omega
 have c0:=h.hp.c0;have ck:=h.hp.cb k hk
 generalize hG:upd (says P A) (Bw nu k+c / 64) (bitTo (says P A (Bw nu k+c / 64)).toNat (c % 64) v:Nat)=G at *
 obtain⟨x,hx⟩:∃x:Nat,says P A (Bw nu k+c / 64)=x:=⟨(says P A (Bw nu k+c / 64)).toNat,by omega⟩
 have e2:((Bw nu k+c / 64:Nat):Int)=(Bw nu k:Int)+(c:Int) / 64:=by omega
 have hw:IntKind.u64.wrap (2 ^ (c % 64))=((2 ^ (c % 64):Nat):Int):=by
  have e:((2 ^ (c % 64):Nat):Int)=2 ^ (c % 64):=by simp
  have:2 ^ (c % 64)<2 ^ 64:=Nat.pow_lt_pow_right (by omega) (Nat.mod_lt _ (by omega))
  rw[<-e,IntKind.wrap_u64]
  generalize 2 ^ (c % 64)=y at *
  exact Int.emod_eq_of_lt (Int.natCast_nonneg _) (by have:=this;omega)
 have hx64:x<18446744073709551616:=by omega
 simp only[hx,e2] at LD PU
 have hp64:2 ^ (c % 64)<18446744073709551616:=Nat.pow_lt_pow_right (m:=c % 64) (n:=64) (by omega) (Nat.mod_lt _ (by omega))
 have hbt:bitTo x (c % 64) v=(x &&& (18446744073709551615 - 2 ^ (c % 64))) ||| (if v then 2 ^ (c % 64) else 0):=rfl
 simp only[Int.toNat_natCast,hbt] at PU
 clear hbt
 generalize 2 ^ (c % 64)=y at *
 have an:=u64_andNot_nat x y hx64 hp64
 have ao:=u64_or_nat (x &&& (18446744073709551615 - y)) y (Nat.lt_of_le_of_lt Nat.and_le_left hx64) hp64
 have HLD:=@Hd _ LD
 have HPU:=@Hd _ PU
 have HE:=Hd (ai E1 E2)
 have bl3:Bw nu k+c / 64<=300:=by omega
 clear LD PU E1 E2 h wd hx hG r0 r1 e2 hc bl g1 g2 g3 g4 g5 g6
 generalize hB:Bw nu k=B at *
 clear hB
 generalize x &&& (18446744073709551615 - y)=z at *
 go_enter Tryz.func124,Tryz.ntmps124
 go_wp2_with fail
 refine region_tailP 13 (by kernel_rfl) (by kernel_rfl) ?_
 simp only[List.take_succ_cons,List.take_zero,List.drop_succ_cons,List.drop_zero]
 repeat (go_big_quiet_step (first | fail))
 refine wpQuiet_nil ?_
 rintro _ ⟨nq,rfl⟩
 simp only[hw]
 clear hw
 cases v
 ·go_wp2_with (go_at_call 59;refine(uh HLD nq).mono ?_;rintro e w' ⟨rfl,hh⟩;replace hh:=hh.symm;subst hh)
  have K:=uh HPU nq
  simp only[Bool.false_eq_true,if_false,Nat.or_zero] at K
  have HK:=Hd K
  clear K HPU HLD
  refine(uh HK).mono ?_
  clear HK
  rintro e w1 ⟨rfl,t⟩
  have HT:=Hd (t.after ((Fr.refl _ w).drewN nq))
  clear t
  go_wp2
  go_end0
  exact⟨rfl,G,uh HT,(uh HE).2,(uh HE).1⟩
 ·go_wp2_with (go_at_call 59;refine(uh HLD nq).mono ?_;rintro e w' ⟨rfl,hh⟩;replace hh:=hh.symm;subst hh)
  have K:=uh HPU nq
  simp only[if_true] at K
  have HK:=Hd K
  clear K HPU HLD
  refine(uh HK).mono ?_
  clear HK
  rintro e w1 ⟨rfl,t⟩
  have HT:=Hd (t.after ((Fr.refl _ w).drewN nq))
  clear t
  go_wp2
  go_end0
  exact⟨rfl,G,uh HT,(uh HE).2,(uh HE).1⟩
theorem words_upd {nu:Nat} {f:Nat->Int} (wd:Words64 nu f) (i:Nat) (v:Nat) (hv:v<18446744073709551616):Words64 nu (upd f i v):=fun j hj=>by
 by_cases e:j=i
 ·rw[e,upd_same];omega
 ·rw[upd_other _ _ e];exact wd j hj
theorem h_setAsked (h:Hp nu sz w hb sb b T A P) (wd:Words64 nu (says P A)) (hm:P.length<6144) (u y:Nat) (hu:u<nu) (hy:y<=512) :
  Calls Tryz.prog 135 #[ptr hb,.int .i64 u,.int .i64 y] w fun e w'=>e = .returned (.tuple #[])/\∃g,To sz w sb b T A w' g (P.length+1)/\Words64 nu g/\fre nu g=fre nu (says P A)/\ask nu g=setK (ask nu (says P A)) u y/\∀i,(i<aw nu\/aw nu+qa nu<=i)->g i=says P A i:=by
 obtain⟨g1,g2,g3,g4,g5,g6⟩:=h.hp.geo.b
 obtain⟨r0,r1⟩:=wd (aw nu+u / 4) (by omega)
 have E1:=ask_set (nu:=nu) (f:=says P A) (u:=u) (y:=y) (by omega) (by omega)
 have E2:=fre_upd (nu:=nu) (f:=says P A) (i:=aw nu+u / 4) (digTo (says P A (aw nu+u / 4)).toNat (u % 4) y:Nat) (.inr (by omega))
 have E3:=words_upd wd (aw nu+u / 4) _ (digTo_lt (says P A (aw nu+u / 4)).toNat (u % 4) y (by omega) (by omega) (by omega))
 have E4:∀i,(i<aw nu\/aw nu+qa nu<=i)->upd (says P A) (aw nu+u / 4) (digTo (says P A (aw nu+u / 4)).toNat (u % 4) y:Nat) i=says P A i:=fun i hi=>upd_other _ _ (by omega)
 have PU:=fun q=>(h.still ((Fr.refl _ w).drewN q)).put hm (aw nu+u / 4) (by omega) (digTo (says P A (aw nu+u / 4)).toNat (u % 4) y:Nat)
 have LD:=fun q=>h.reads q (aw nu+u / 4) (by omega)
 have c0:=h.hp.c0;have c9:=h.hp.c9
 generalize hG:upd (says P A) (aw nu+u / 4) (digTo (says P A (aw nu+u / 4)).toNat (u % 4) y:Nat)=G at *
 obtain⟨x,hx⟩:∃x:Nat,says P A (aw nu+u / 4)=x:=⟨(says P A (aw nu+u / 4)).toNat,by omega⟩
 have e2:((aw nu+u / 4:Nat):Int)=(aw nu:Int)+(u:Int) / 4:=by omega
 have hx64:x<18446744073709551616:=by omega
 have hbt:digTo x (u % 4) y=(x &&& (18446744073709551615 - 65535 * 2 ^ (16 * (u % 4)))) ||| (y * 2 ^ (16 * (u % 4))):=rfl
 simp only[hx,e2,Int.toNat_natCast,hbt] at LD PU
 clear hbt
 have hp:65535 * 2 ^ (16 * (u % 4))<18446744073709551616:=by
  rcases (show u % 4=0\/u % 4=1\/u % 4=2\/u % 4=3 by omega) with e | e | e | e <;> rw[e] <;> decide
 have hq:y * 2 ^ (16 * (u % 4))<18446744073709551616:=by
  rcases (show u % 4=0\/u % 4=1\/u % 4=2\/u % 4=3 by omega) with e | e | e | e <;> rw[e] <;> simp <;> omega
 have hw1:IntKind.u64.wrap (65535 * 2 ^ (u % 4 * 16))=((65535 * 2 ^ (16 * (u % 4)):Nat):Int):=by
  have e:(65535 * 2 ^ (u % 4 * 16):Int)=((65535 * 2 ^ (16 * (u % 4)):Nat):Int):=by rw[Nat.mul_comm 16];simp
  rw[e,IntKind.wrap_u64]
  exact Int.emod_eq_of_lt (Int.natCast_nonneg _) (by omega)
 have hw2:IntKind.u64.wrap ((y:Int) * 2 ^ (u % 4 * 16))=((y * 2 ^ (16 * (u % 4)):Nat):Int):=by
  have e:((y:Int) * 2 ^ (u % 4 * 16))=((y * 2 ^ (16 * (u % 4)):Nat):Int):=by rw[Nat.mul_comm 16];simp
  rw[e,IntKind.wrap_u64]
  exact Int.emod_eq_of_lt (Int.natCast_nonneg _) (by omega)
 generalize 65535 * 2 ^ (16 * (u % 4))=m1 at *
 generalize y * 2 ^ (16 * (u % 4))=m2 at *
 have an:=u64_andNot_nat x m1 hx64 hp
 have ao:=u64_or_nat (x &&& (18446744073709551615 - m1)) m2 (Nat.lt_of_le_of_lt Nat.and_le_left hx64) hq
 have HLD:=@Hd _ LD
 have HPU:=@Hd _ PU
 have HE:=Hd (ai E3 (ai E2 (ai E1 E4)))
 have hu8:u<=8000:=by omega
 have ha3:=g1.2
 clear LD PU E1 E2 E3 E4 h wd hx hG r0 r1 e2 g1 g2 g3 g4 g5 g6 hu
 generalize x &&& (18446744073709551615 - m1)=z at *
 go_enter Tryz.func135,Tryz.ntmps135
 go_wp2_with fail
 refine region_tailP 19 (by kernel_rfl) (by kernel_rfl) ?_
 simp only[List.take_succ_cons,List.take_zero,List.drop_succ_cons,List.drop_zero]
 repeat (go_big_quiet_step (first | (go_at_call 59;exact Calls.quiet_of_same (uh HLD _))))
 refine wpQuiet_nil ?_
 rintro _ ⟨nq,rfl⟩
 clear HLD c0 c9 an ao hw1 hw2
 go_wp2_with fail
 refine(uh HPU nq).mono ?_
 clear HPU
 rintro e w1 ⟨rfl,t⟩
 have HT:=Hd (t.after ((Fr.refl _ w).drewN nq))
 clear t
 go_wp2
 go_end0
 exact⟨rfl,G,uh HT,uh HE⟩
end
end
end Go.Proofs.YtbiopjmpdhcjgaaGreatDoor
