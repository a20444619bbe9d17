/- TreePlays: any op, the closure about it, and Do by it. -/
import Derived.Test.YtbiopjmpdhcjgaaGreatDoorJe
namespace Go.Proofs.YtbiopjmpdhcjgaaGreatDoor
open Go.RowKit
theorem rowr_form {w:World} {lo n:Nat} {v:Value} {xs:List Value} (h:w.ownsRow lo 35 2 v n xs):(v = .slice none 0 0/\n=0)\/∃g cap,v = .slice (some ⟨g,0,none⟩) n cap:=by
 rcases h.2 with ⟨e,h0⟩ | ⟨g,cap,_,e,_⟩
 ·exact .inl ⟨e,h0⟩
 ·exact .inr ⟨g,cap,e⟩
section
variable {nu sz:Nat} {w w' w0:World} {hb sb b:Nat} {T:Tay} {A:Ab} {P:List (Int×Int)}
def DoA (nu sz:Nat) (w:World) (sb b:Nat) (T:Tay) (A:Ab) (P:List (Int×Int)) (r:Nat) (L:List Pr) (Q:List Nat) (la:Option Addr) (lc:Nat) (ks:List Kl) (kd:Int) (r':Nat) (L':List Pr) (va:Option Addr) (vc:Nat) (w':World):Prop:=
 ∃T' P' Q',Onx w sb b T w' T' sz A P' false/\Stds nu sz (says P' A) r' L' Q' (kps ks)/\
  ((kd<2/\cnt nu (ask nu (says P' A))<=cnt nu (ask nu (says P A))+13/\L'.length<=L.length+1/\w'.ownsRow w.heap.size 43 2 (.slice va L'.length vc) L'.length (pcl L')/\∀j,w.heap.size<=j->j<w'.heap.size->(Value.slice va L'.length vc).ownBlock=some j->¬tfoot sb b T' j)\/
   (P'=P/\(((r',L',Q'),va,vc)=((r,L,Q),la,lc)\/(kd=3/\((r',L',Q'),va,vc)∈ks))))
theorem DoE.any {e:Ending} {r:Nat} {L L':List Pr} {Q:List Nat} {la:Option Addr} {lc:Nat} {ks:List Kl} {kd:Int} (h:DoE nu sz w sb b T A P L' w' e) (s:Stds nu sz (says P A) r L Q (kps ks)) (hd:kd<2) (hl:L.length<=50) (hl':L'.length<=L.length+1) (ri:Rise L') (pk:Pok L') :
  ∃r' L' va vc,e = .returned (.tuple #[.agg #[.int .u64 ((r':Nat):Int),.slice va L'.length vc],.bool true])/\DoA nu sz w sb b T A P r L Q la lc ks kd r' L' va vc w':=by
 obtain⟨T',P',Q',k,va,vc,r',rfl,hk,o,_,c,rt,row,no⟩:=h
 refine⟨r',L',va,vc,rfl,T',P',Q',o,s.chg c rt ri pk,.inl ⟨hd,?_,hl',row,no⟩⟩
 have:=c.few
 have:=hk (by omega)
 omega
theorem do_any (h:Hp nu sz w hb sb b T A P) {r:Nat} {L:List Pr} {Q:List Nat} {la:Option Addr} {lc:Nat} {ks:List Kl} (s:Stds nu sz (says P A) r L Q (kps ks)) (hl:L.length<=50) (hL:Lf w la lc L) (hla:∀y,la=some y->¬tfoot sb b T y.block) (kd:Int) (x:ByteArray) (v:Nat) (hx:¬(kd=0/\(x.size<1\/80<x.size))) (hv:v<18446744073709551616) (ka:Option Addr) (kc:Nat) (h4:ks.length<=4) (hK:Sl w 2 ka ks.length kc (rtcl (kvs ks))) (hP:P.length+3000<=6144) (room:cnt nu (ask nu (says P A))+30<nu / 4) :
  Calls Tryz.prog 26 #[ptr sb,ptr hb,.agg #[.int .u64 (r:Nat),.slice la L.length lc],.agg #[.int .i64 kd,.string x,.int .u64 (v:Nat)],.slice ka ks.length kc] w fun e w'=>∃r' L' va vc,e = .returned (.tuple #[.agg #[.int .u64 ((r':Nat):Int),.slice va L'.length vc],.bool true])/\DoA nu sz w sb b T A P r L Q la lc ks kd r' L' va vc w':=by
 by_cases h0:kd=0
 ·subst h0
  have hx':1<=x.size/\x.size<=80:=by omega
  exact(do_put h s.st s.rt s.pk s.ri (by omega) la lc hL hla x v hx' hv _ hP room s.low).mono fun e w' d=>d.any s (by omega) hl (putP_len _ _ _) (putP_rise s.ri) (s.pk.put hx' hv)
 ·by_cases h1:kd=1
  ·subst h1
   exact(do_del h s.st s.rt s.pk s.ri (by omega) la lc hL hla x v _ hP room s.low).mono fun e w' d=>d.any s (by omega) hl (Nat.le_succ_of_le (delP_sub x L).length_le) (s.ri.sub (delP_sub x L)) (s.pk.sub (delP_sub x L))
  ·by_cases h3:kd=3/\0<ks.length
   ·obtain⟨rfl,hn⟩:=h3
    refine(do_back (ptr hb) r L la lc x v hv ka kc ks hn h4 hK).mono ?_
    rintro e w' ⟨⟨⟨r',L',Q'⟩,va,vc⟩,hq,rfl,f⟩
    exact⟨r',L',va,vc,rfl,T,P,Q',(Onx.start h.st).quiet f,s.back (List.mem_map.2 ⟨_,hq,rfl⟩),.inr ⟨rfl,.inr ⟨rfl,hq⟩⟩⟩
   ·refine(do_none (ptr hb) r L la lc kd x v ka ks.length kc h0 h1 (fun e=>by have:¬0<ks.length:=fun x=>h3 ⟨e,x⟩;omega) w).mono ?_
    rintro e w' ⟨rfl,f⟩
    exact⟨r,L,la,lc,rfl,T,P,Q,(Onx.start h.st).quiet f,s,.inr ⟨rfl,.inl rfl⟩⟩
end
section
variable {w:World} {bs bh br bo bk bn bg sb hb r r0 v:Nat} {x:ByteArray} {kd:Int} {lv v0 kv:Value}
set_option maxRecDepth 100000 in
set_option maxHeartbeats 4000000 in
theorem tp_C1 {R:Nat->List Pr->Option Addr->Nat->World->Prop} (ne:bg≠bn) (c0:w.cell? ⟨bs,0,none⟩=some (ptr sb)) (c1:w.cell? ⟨bh,0,none⟩=some (ptr hb)) (c2:w.cell? ⟨br,0,none⟩=some (.int .u64 (r:Nat))) (c3:w.cell? ⟨br,1,none⟩=some lv) (c4:w.cell? ⟨bo,0,none⟩=some (.int .i64 kd)) (c5:w.cell? ⟨bo,1,none⟩=some (.string x)) (c6:w.cell? ⟨bo,2,none⟩=some (.int .u64 (v:Nat))) (c7:w.cell? ⟨bk,0,none⟩=some kv)
  (DO:Calls Tryz.prog 26 #[ptr sb,ptr hb,.agg #[.int .u64 (r:Nat),lv],.agg #[.int .i64 kd,.string x,.int .u64 (v:Nat)],kv] w fun e w'=>∃r' L' va vc,e = .returned (.tuple #[.agg #[.int .u64 ((r':Nat):Int),.slice va L'.length vc],.bool true])/\(RtL w' bn r0 v0/\Box w' bg (.bool true))/\R r' L' va vc w') :
  Calls Tryz.prog 25 #[ptr bs,ptr bh,ptr br,ptr bo,ptr bk,ptr bn,ptr bg] w fun e w'=>e = .returned (.tuple #[])/\∃(r':Nat) (L':List Pr) (va:Option Addr) (vc:Nat) (w2:World),RtL w2 bn r0 v0/\Box w2 bg (.bool true)/\R r' L' va vc w2/\w'=((w2.setCell ⟨bn,0,none⟩ (.int .u64 (r':Nat))).setCell ⟨bn,1,none⟩ (.slice va L'.length vc)).setCell ⟨bg,0,none⟩ (.bool true):=by
 have HD:=Hd DO
 clear DO
 go_enter Tryz.func25,Tryz.ntmps25
 go_wp2_with fail
 refine(uh HD).mono ?_
 clear HD c0 c1 c2 c3 c4 c5 c6 c7
 rintro e w2 ⟨r',L',va,vc,rfl,⟨on,og⟩,hR⟩
 obtain⟨W3,hW3⟩:∃W3,(w2.setCell ⟨bn,0,none⟩ (.int .u64 (r':Nat))).setCell ⟨bn,1,none⟩ (.slice va L'.length vc)=W3:=⟨_,rfl⟩
 have c0:w2.cell? ⟨bn,0,none⟩=some (.int .u64 (r0:Nat)):=cOo on.o 0
 have c1:w2.cell? ⟨bn,1,none⟩=some v0:=cOo on.o 1
 have z3:∀o,w2.frozen? ⟨bn,o,none⟩=false:=fun o=>by simp[World.frozen?,on.o]
 have og3:Box W3 bg (.bool true):=hW3▸(og.other (a:=⟨bn,0,none⟩) ne _).other (a:=⟨bn,1,none⟩) ne _
 have d0:=og3.c;have d1:=og3.z
 rw[<-hW3] at d0 d1
 have HX:=Hd (ai on (ai og hR))
 clear on og hR og3 hW3
 go_wp2_with fail
 go_end0
 obtain⟨on,og,hR⟩:=uh HX
 exact⟨rfl,r',L',va,vc,w2,on,og,hR,rfl⟩
set_option maxRecDepth 100000 in
set_option maxHeartbeats 4000000 in
theorem tp_C1B (c0:w.cell? ⟨bs,0,none⟩=some (ptr sb)) (c1:w.cell? ⟨bh,0,none⟩=some (ptr hb)) (c2:w.cell? ⟨br,0,none⟩=some (.int .u64 (r:Nat))) (c3:w.cell? ⟨br,1,none⟩=some lv) (c4:w.cell? ⟨bo,0,none⟩=some (.int .i64 kd)) (c5:w.cell? ⟨bo,1,none⟩=some (.string x)) (c6:w.cell? ⟨bo,2,none⟩=some (.int .u64 (v:Nat))) (c7:w.cell? ⟨bk,0,none⟩=some kv)
  (DO:Calls Tryz.prog 26 #[ptr sb,ptr hb,.agg #[.int .u64 (r:Nat),lv],.agg #[.int .i64 kd,.string x,.int .u64 (v:Nat)],kv] w fun e w'=>e = .panicked (errnoQ 1)/\St w w') :
  Calls Tryz.prog 25 #[ptr bs,ptr bh,ptr br,ptr bo,ptr bk,ptr bn,ptr bg] w fun e w'=>e = .panicked (errnoQ 1)/\St w w':=by
 have HD:=Hd DO
 clear DO
 go_enter Tryz.func25,Tryz.ntmps25
 go_wp2_with fail
 refine(uh HD).mono ?_
 rintro e w2 ⟨rfl,f2⟩
 go_wp2_with fail
 exact⟨rfl,rfl,f2⟩
end
end Go.Proofs.YtbiopjmpdhcjgaaGreatDoor
