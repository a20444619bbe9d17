/- TreePlays: Do by the closure of an op. -/
import Derived.Test.YtbiopjmpdhcjgaaGreatDoorJf
namespace Go.Proofs.YtbiopjmpdhcjgaaGreatDoor
open Go.RowKit
section
variable {nu sz:Nat} {w w' w0:World} {X Y:Nat->Prop} {hb sb b N n1 n2 bo bn bg r0:Nat} {T:Tay} {A:Ab} {s:Int} {base:Nat->Int} {r:Nat} {L:List Pr} {Q:List Nat} {la:Option Addr} {lc:Nat} {ks:List Kl} {kv v0:Value}
def TpR (nu sz lo:Nat) (A:Ab) (c0:Nat) (r:Nat) (L:List Pr) (Q:List Nat) (la:Option Addr) (lc:Nat) (ks:List Kl) (kd:Int) (bn bg:Nat) (Y:Nat->Prop) (h:How) (P':List (Int×Int)) (w':World):Prop:=
 h = .well/\∃r' L' Q' va vc,(Y bn/\Y bg)/\RtL w' bn r' (.slice va L'.length vc)/\Box w' bg (.bool true)/\Stds nu sz (says P' A) r' L' Q' (kps ks)/\
  ((kd<2/\cnt nu (ask nu (says P' A))<=c0+13/\L'.length<=L.length+1/\w'.ownsRow lo 43 2 (.slice va L'.length vc) L'.length (pcl L')/\∀k,(Value.slice va L'.length vc).ownBlock=some k->Y k)\/
   (P' = []/\(((r',L',Q'),va,vc)=((r,L,Q),la,lc)\/(kd=3/\((r',L',Q'),va,vc)∈ks))))
theorem TpR_stays (lo c0:Nat) (kd:Int):StaysY (TpR nu sz lo A c0 r L Q la lc ks kd bn bg):=by
 rintro Y h P w w' F ⟨q,r',L',Q',va,vc,⟨y1,y2⟩,b1,b2,t,o⟩ hf hn
 refine⟨q,r',L',Q',va,vc,⟨y1,y2⟩,b1.kept hf (hn _ y1),b2.kept hf (hn _ y2),t,?_⟩
 rcases o with ⟨h0,h1,h2,row,h3⟩ | o
 ·exact .inl ⟨h0,h1,h2,row_kept row hf (fun k hk=>hn k (h3 k hk)),h3⟩
 ·exact .inr o
theorem tp_do (hc:HpC nu sz w0 X w hb sb b T A N True s base) (M:TpM w n1 n2 hb sb r L la lc ks Y kv) (hX:∀k,TpX hb n1 n2 Y kv k->X k) (t:Stds nu sz (rb base) r L Q (kps ks)) (hl:L.length<=50) (h4:ks.length<=4)
  (kd:Int) (x:ByteArray) (v:Nat) (hx:¬(kd=0/\(x.size<1\/80<x.size))) (hv:v<18446744073709551616) (oo:w.heap[bo]? = some (.cells #[.int .i64 kd,.string x,.int .u64 (v:Nat)] 54 (0,0))) (on:RtL w bn r0 v0) (og:Box w bg (.bool true)) (xn:X bn) (xg:X bg) (ne:bn≠bg/\hb≠bn/\hb≠bg)
  (room:cnt nu (ask nu (rb base))+30<nu / 4) (hs:s+30729<4294967296) :
  Calls Tryz.prog 9 #[ptr sb,.func (.func 25) #[] #[ptr n1,ptr (n1+1),ptr n2,ptr bo,ptr (n2+1),ptr bn,ptr bg]] w fun e w'=>e = .returned (.int .i64 0)/\Fr (fun k=>tfoot sb b T k\/(k=bn\/k=bg)) w w'/\∃T' A' base' r' L' Q' va vc Z,HpC nu sz w0 (fun k=>X k\/Z k) w' hb sb b T' A' N True (s+30729) base'/\RtL w' bn r' (.slice va L'.length vc)/\Box w' bg (.bool true)/\Stds nu sz (rb base') r' L' Q' (kps ks)/\(∀k,Z k->w.heap.size<=k)/\
   ((kd<2/\cnt nu (ask nu (rb base'))<=cnt nu (ask nu (rb base))+13/\L'.length<=L.length+1/\LiY w' Z va vc L')\/(base'=base/\(((r',L',Q'),va,vc)=((r,L,Q),la,lc)\/(kd=3/\((r',L',Q'),va,vc)∈ks)))):=by
 have sy:=hc.says []
 rw[homed_nil] at sy
 have nt:∀k,X k->¬tfoot sb b T k:=hc.hd.ap
 obtain⟨ka,kc,rfl⟩:∃ka kc,kv = .slice ka ks.length kc:=by
  rcases rowr_form M.rk with ⟨e,h0⟩ | ⟨gg,cap,e⟩
  ·exact⟨none,0,by rw[e,h0]⟩
  ·exact⟨_,cap,e⟩
 have DO:=hc.doZ (V:=fun k=>k=bn\/k=bg) (g:=25) (fi:=#[]) (ca:=#[ptr n1,ptr (n1+1),ptr n2,ptr bo,ptr (n2+1),ptr bn,ptr bg]) (R:=TpR nu sz w.heap.size A (cnt nu (ask nu (rb base))) r L Q la lc ks kd bn bg) (fun k hk=>by rcases hk with rfl | rfl;exact xn;exact xg) (fun e=>e.elim ne.2.1 ne.2.2) (TpR_stays _ _ _) (fun w1 f1=>acts_of (fun _ _=>by kernel_rfl) (by
  have M1:=M.still f1
  have D:=do_any (kd:=kd) (hc.toHp.still f1) (Q:=Q) (by rw[sy];exact t) hl M1.li.lf (fun y e=>nt _ (hX _ (.inr (.inr (.inr (.inr (.inr (.inl (M1.li.y y e))))))))) x v hx hv ka kc h4 (sl_of_row M1.rk (kvs_one ks)) (by simp) (by rw[sy];exact room)
  have oo1:=f1.obj oo id
  refine(tp_C1 (R:=fun r' L' va vc w2=>DoA nu sz w1 sb b T A [] r L Q la lc ks kd r' L' va vc w2) (r0:=r0) (v0:=v0) (bn:=bn) (bg:=bg) (fun e=>ne.1 e.symm) M1.bs.c M1.bh.c (cOo M1.br.o 0) (cOo M1.br.o 1) (cOo oo1 0) (cOo oo1 1) (cOo oo1 2) M1.bk.c (D.mono ?_)).mono ?_
  ·rintro e w2 ⟨r',L',va,vc,rfl,T',P',Q',o,st⟩
   exact⟨r',L',va,vc,rfl,⟨(on.kept f1 id).kept o.fr (nt _ xn),(og.kept f1 id).kept o.fr (nt _ xg)⟩,T',P',Q',o,st⟩
  ·rintro e w' ⟨rfl,r',L',va,vc,w2,on2,og2,⟨T',P',Q',o,st,oc⟩,rfl⟩
   have f2:Fr (fun k=>k=bn\/k=bg) w2 (((w2.setCell ⟨bn,0,none⟩ (.int .u64 (r':Nat))).setCell ⟨bn,1,none⟩ (.slice va L'.length vc)).setCell ⟨bg,0,none⟩ (.bool true)):=(((Fr.refl (fun k=>k=bn\/k=bg) w2).setCell (.inl (.inl rfl)) _).setCell (.inl (.inl rfl)) _).setCell (.inl (.inr rfl)) _
   have tn:¬tfoot sb b T' bn:=o.other (Nat.lt_of_lt_of_le on.lt f1.size) (nt _ xn)
   have tg:¬tfoot sb b T' bg:=o.other (Nat.lt_of_lt_of_le og.lt f1.size) (nt _ xg)
   have og3:=(((og2.other (a:=⟨bn,0,none⟩) (show bg≠bn from fun e=>ne.1 e.symm) (.int .u64 (r':Nat))).other (a:=⟨bn,1,none⟩) (show bg≠bn from fun e=>ne.1 e.symm) (.slice va L'.length vc)).set (.bool true))
   have on3:RtL (((w2.setCell ⟨bn,0,none⟩ (.int .u64 (r':Nat))).setCell ⟨bn,1,none⟩ (.slice va L'.length vc)).setCell ⟨bg,0,none⟩ (.bool true)) bn r' (.slice va L'.length vc):=
    RtL.kept (F:=fun k=>k=bg) ⟨heap_setCell_same _ bn 1 _ _ (.slice va L'.length vc) (heap_setCell_same w2 bn 0 _ _ (.int .u64 (r':Nat)) on2.o)⟩ ((Fr.refl (fun k=>k=bg) _).setCell (.inl rfl) _) ne.1
   refine⟨.well,rfl,.inl rfl,T',P',fun k=>k=bn\/k=bg\/(w1.heap.size<=k/\k<w2.heap.size/\¬tfoot sb b T' k),(OnxX.of o).var f2 (fun k hk=>hk) (fun k hk=>by rcases hk with rfl | rfl;exact tn;exact tg),fun k hk=>?_,rfl,r',L',Q',va,vc,⟨.inl rfl,.inr (.inl rfl)⟩,on3,og3,st,?_⟩
   ·rcases hk with rfl | rfl | ⟨h1,h2,h3⟩
    ·exact⟨on3.lt,tn,.inl (.inl rfl)⟩
    ·exact⟨og3.lt,tg,.inl (.inr rfl)⟩
    ·exact⟨Nat.lt_of_lt_of_le h2 f2.size,h3,.inr h1⟩
   ·rcases oc with ⟨h0,h1,h2,row,no⟩ | ⟨h1,h2⟩
    ·refine .inl ⟨h0,by rw[sy] at h1;exact h1,h2,row_lo (row_kept row f2 (fun k hk e=>?_)) f1.size,fun k hk=>.inr (.inr ⟨(row.lt k hk).1,(row.lt k hk).2,no k (row.lt k hk).1 (row.lt k hk).2 hk⟩)⟩
     have:=(row.lt k hk).1
     have:=Nat.lt_of_lt_of_le on.lt f1.size
     have:=Nat.lt_of_lt_of_le og.lt f1.size
     omega
    ·exact .inr ⟨h1,h2⟩)) hs
 unfold DidZ at DO
 refine DO.mono ?_
 rintro e w' ⟨fr,⟨P',T',A',Yz,⟨_,r',L',Q',va,vc,_,b1,b2,st,oc⟩,rfl,hc'⟩ | ⟨i,P',T',Yz,⟨hi,_⟩,_⟩⟩
 ·rw[hc.says P'] at st
  refine⟨rfl,fr,T',A',homed P' base,r',L',Q',va,vc,?_⟩
  rcases oc with ⟨h0,h1,h2,row,h3⟩ | ⟨rfl,h2⟩
  ·rw[hc.says P'] at h1
   refine⟨fun k=>(Value.slice va L'.length vc).ownBlock=some k,hc'.sub (fun k hk=>hk.imp id (h3 k)) (.inl hc.xh),b1,b2,st,fun k hk=>(row.lt k hk).1,.inl ⟨h0,h1,h2,sl_of_row row pcl_one,fun x e=>by rw[e];rfl⟩⟩
  ·exact⟨fun _=>False,hc'.sub (fun k hk=>hk.imp id (fun x=>x.elim)) (.inl hc.xh),b1,b2,st,fun k hk=>hk.elim,.inr ⟨homed_nil _,h2⟩⟩
 ·exact(well_errno hi.symm).elim
theorem tp_bad (hc:HpC nu sz w0 X w hb sb b T A N True s base) (M:TpM w n1 n2 hb sb r L la lc ks Y kv) (x:ByteArray) (v:Nat) (hx:x.size<1\/80<x.size) (oo:w.heap[bo]? = some (.cells #[.int .i64 0,.string x,.int .u64 (v:Nat)] 54 (0,0))) (hs:s+30729<4294967296) :
  Calls Tryz.prog 9 #[ptr sb,.func (.func 25) #[] #[ptr n1,ptr (n1+1),ptr n2,ptr bo,ptr (n2+1),ptr bn,ptr bg]] w fun e w'=>e = .returned (.int .i64 1)/\Fr (fun k=>tfoot sb b T k\/False) w w'/\∃T',HpC nu sz w0 X w' hb sb b T' A N True s base:=by
 have DO:=hc.do_ (V:=fun _=>False) (g:=25) (fi:=#[]) (ca:=#[ptr n1,ptr (n1+1),ptr n2,ptr bo,ptr (n2+1),ptr bn,ptr bg]) (R:=fun h _ _=>h = .errno 1) (fun k hk=>hk.elim) (fun e=>e) (fun _ _ _ _ _ h _ _=>h) (fun w1 f1=>acts_of (fun _ _=>by kernel_rfl) (by
  have M1:=M.still f1
  have oo1:=f1.obj oo id
  refine(tp_C1B (bn:=bn) (bg:=bg) M1.bs.c M1.bh.c (cOo M1.br.o 0) (cOo M1.br.o 1) (cOo oo1 0) (cOo oo1 1) (cOo oo1 2) M1.bk.c (do_bad (sb:=sb) (ptr hb) r L la lc x v hx kv w1)).mono ?_
  rintro e w' ⟨rfl,f⟩
  exact⟨.errno 1,How.ended_one _ _,.inr ⟨1,rfl⟩,T,[],OnxX.of ((Onx.start (hc.hd.st.still f1)).quiet f),rfl⟩)) hs
 unfold DidH at DO
 refine DO.mono ?_
 rintro e w' ⟨fr,⟨P',T',A',hi,_⟩ | ⟨i,P',T',hi,rfl,hc'⟩⟩
 ·exact(well_errno hi).elim
 ·have:=errno_inj hi
  subst this
  exact⟨rfl,fr,T',hc'⟩
end
end Go.Proofs.YtbiopjmpdhcjgaaGreatDoor
