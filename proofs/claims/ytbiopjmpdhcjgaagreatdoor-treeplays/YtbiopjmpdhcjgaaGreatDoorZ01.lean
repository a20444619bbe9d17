/- Joined: NvB. -/
import Derived.BigRegion
import Derived.Deep.RegionLawGrows
import Derived.Test.YtbiopjmpdhcjgaaGreatDoorZ00
namespace Go.Proofs.YtbiopjmpdhcjgaaGreatDoor
open Go.RowKit
set_option maxHeartbeats 4000000
theorem forget_row {kp:Nat} (b bp bs n m cap:Nat) (at_:Nat->Nat) (ln:Nat->Nat->Int) (pl:Nat->Int) (w:World) (_hn:n<=8192) (hm:m<=4294967296)
  (h2:w.cell? ⟨b,2,none⟩=some (.slice (some ⟨bs,0,none⟩) m cap)) (h3:w.cell? ⟨b,3,none⟩=some (rowc bp n kp))
  (hat:∀p,p<m->at_ p<n)
  (hc:∀p,p<m->w.cell? ⟨bs,p * 9,none⟩=some (.int .i64 (at_ p)))
  (hl:∀p k,p<m->k<8->w.cell? ⟨bs,p * 9+1+k,none⟩=some (u64 (ln p k)))
  (hp:∀a,a<n->w.cell? ⟨bp,a,none⟩=some (.int .i64 (pl a)))
  (hz:∀o,w.frozen? ⟨bp,o,none⟩=false) (hzb:∀o,w.frozen? ⟨b,o,none⟩=false) (hbp:b≠bp) (hsp:bs≠bp) (_hsb:bs≠b) :
  Calls Tryz.prog 196 #[ptr b] w fun e w'=>e = .returned (.tuple #[])/\
   ∃w1,Fr (fun k=>k=bp) w w1/\w'=w1.setCell ⟨b,2,none⟩ (.slice (some ⟨bs,0,none⟩) 0 cap)/\
    (∀a,a<n->w1.cell? ⟨bp,a,none⟩=some (.int .i64 (if ∃p,p<m/\at_ p=a then 0 else pl a)))/\(∀o,w1.frozen? ⟨bp,o,none⟩=false):=by
 go_enter Tryz.func196,Tryz.ntmps196
 go_wp2
 have HH:Hid ((∀p,p<m->at_ p<n)/\(∀p,p<m->w.cell? ⟨bs,p * 9,none⟩=some (.int .i64 (at_ p)))/\(∀p k,p<m->k<8->w.cell? ⟨bs,p * 9+1+k,none⟩=some (u64 (ln p k)))/\(∀a,a<n->w.cell? ⟨bp,a,none⟩=some (.int .i64 (pl a)))/\(∀o,w.frozen? ⟨bp,o,none⟩=false)/\(∀o,w.frozen? ⟨b,o,none⟩=false)):=⟨hat,hc,hl,hp,hz,hzb⟩
 clear hat hc hl hp hz hzb
 go_loopw [9] (fun i wr=>∃q:Nat,q<=m/\i = .int .i64 q/\Fr (fun k=>k=bp) w wr/\(∀a,a<n->wr.cell? ⟨bp,a,none⟩=some (.int .i64 (if ∃p,p<q/\at_ p=a then 0 else pl a)))/\(∀o,wr.frozen? ⟨bp,o,none⟩=false)) (fun i wr=>m - (intOf i).toNat)
 case atStart=>exact⟨0,Nat.zero_le _,rfl,Fr.refl _ _,fun a ha=>by simpa using (uh HH).2.2.2.1 a ha,(uh HH).2.2.2.2.1⟩
 case round=>
  obtain⟨q,hq,rfl,hfr,hpl,hzz⟩:=hrel
  by_cases hlt:q<m
  ·obtain⟨hat,hc,hl,hp,hz,hzb⟩:=uh HH
   have hb:=World.block_lt_of_cell? _ _ h2
   have hbs:=World.block_lt_of_cell? _ _ (hc q hlt)
   have hbp':=World.block_lt_of_cell? _ _ (hp _ (hat q hlt))
   have c0:wr.cell? ⟨bs,q * 9,none⟩=some (.int .i64 (at_ q)):=hfr.cell' (hc q hlt) hsp
   have cl:∀k,k<8->wr.cell? ⟨bs,q * 9+1+k,none⟩=some (u64 (ln q k)):=fun k hk=>hfr.cell' (hl q k hlt hk) hsp
   have c1:=cl 0 (by omega);have c2:=cl 1 (by omega);have c3:=cl 2 (by omega);have c4:=cl 3 (by omega)
   have c5:=cl 4 (by omega);have c6:=cl 5 (by omega);have c7:=cl 6 (by omega);have c8:=cl 7 (by omega)
   simp only[Nat.add_assoc,Nat.reduceAdd] at c1 c2 c3 c4 c5 c6 c7 c8
   have d3:wr.cell? ⟨b,3,none⟩=some (rowc bp n kp):=hfr.cell' h3 hbp
   have HP:=Hd hpl;have HF:=Hd hfr
   clear cl hat hc hl hp hz hzb hpl hfr
   have hat:=(uh HH).1 q hlt
   have hbr:b<wr.heap.size:=Nat.lt_of_lt_of_le hb (uh HF).size
   have hpr:bp<wr.heap.size:=Nat.lt_of_lt_of_le hbp' (uh HF).size
   have dp:wr.cell? ⟨bp,at_ q,none⟩=some (.int .i64 (if ∃p,p<q/\at_ p=at_ q then 0 else pl (at_ q))):=uh HP _ hat
   have dz:wr.frozen? ⟨bp,at_ q,none⟩=false:=hzz _
   have HZ:=Hd hzz;clear hzz
   generalize hO:(if ∃p,p<q/\at_ p=at_ q then 0 else pl (at_ q))=old at dp
   clear hO
   go_wp2
   go_region
   go_wp2
   go_roundw
   case rel=>
    refine⟨q+1,by omega,by go_num,(((uh HF).setCell (.inl rfl) _).alloc _).drew,?_,?_⟩
    ·intro a ha
     rw[World.cell?_drew,World.cell?_alloc_lt _ _ _ (by simpa using hpr)]
     by_cases e:a=at_ q
     ·subst e
      rw[World.cell?_setCell_same _ _ _ dp,if_pos ⟨q,by omega,rfl⟩]
     ·rw[World.cell?_setCell_other _ _ _ _ (by simp <;> omega),uh HP a ha]
      have:(∃p,p<q+1/\at_ p=a) ↔ (∃p,p<q/\at_ p=a):=by
       constructor
       ·rintro⟨p,hp1,hp2⟩
        by_cases hpq:p=q
        ·subst hpq;omega
        ·exact⟨p,by omega,hp2⟩
       ·rintro⟨p,hp1,hp2⟩;exact⟨p,by omega,hp2⟩
      simp only[this]
    ·intro o;rw[World.frozen?_drew,World.frozen?_alloc_old _ _ _ (by simp <;> omega),World.frozen?_setCell];exact uh HZ o
   case measure=>simp[intOf];omega
  ·have d2:wr.cell? ⟨b,2,none⟩=some (.slice (some ⟨bs,0,none⟩) m cap):=hfr.cell' h2 hbp
   have z2:wr.frozen? ⟨b,2,none⟩=false:=(hfr.frozen (p:=⟨b,2,none⟩) (World.block_lt_of_cell? _ _ h2) hbp).trans ((uh HH).2.2.2.2.2 2)
   have hqm:q=m:=by omega
   subst hqm
   have HP:=Hd hpl;have HF:=Hd hfr;have HZ:=Hd hzz
   clear hpl hfr hzz
   go_wp2
   go_end0
   exact⟨rfl,wr,uh HF,rfl,uh HP,uh HZ⟩
theorem forget_nil (b:Nat) (w:World) (h2:w.cell? ⟨b,2,none⟩=some (.slice none 0 0)) (hz:w.frozen? ⟨b,2,none⟩=false) :
  Calls Tryz.prog 196 #[ptr b] w fun e w'=>e = .returned (.tuple #[])/\w'=w.setCell ⟨b,2,none⟩ (.slice none 0 0):=by
 go_enter Tryz.func196,Tryz.ntmps196
 go_wp2
 go_rounds 1
 go_end0
 exact⟨rfl,rfl⟩
def atOf (s:List (Nat×(Nat->Int))) (p:Nat):Nat:=(s[p]?.map (·.1)).getD 0
def lnOf (s:List (Nat×(Nat->Int))) (p k:Nat):Int:=(s[p]?.map (·.2)).getD (fun _=>0) k
theorem sentCells_len (s:List (Nat×(Nat->Int))):(sentCells s).length=s.length * 9:=by
 induction s with
 | nil=>rfl
 | cons x s ih=>simp only[sentCells,List.flatMap_cons,List.length_append,List.length_cons,lineCells,List.length_nil] at *;omega
theorem sentCells_cons (x:Nat×(Nat->Int)) (s:List (Nat×(Nat->Int))):sentCells (x :: s)=(.int .i64 x.1 :: lineCells x.2) ++ sentCells s:=by simp[sentCells]
theorem sentCells_at (s:List (Nat×(Nat->Int))):∀p,p<s.length->(sentCells s)[p * 9]? = some (.int .i64 (atOf s p)):=by
 induction s with
 | nil=>intro p h;simp at h
 | cons x s ih=>
  intro p h
  rw[sentCells_cons]
  cases p with
  | zero=>simp[atOf]
  | succ p=>
   have hl:((.int .i64 x.1 :: lineCells x.2:List Value)).length=9:=by simp[lineCells]
   rw[List.getElem?_append_right (by omega),hl,show(p+1) * 9 - 9=p * 9 from by omega,ih p (by simpa using h)]
   simp[atOf]
theorem lineCells_get (l:Nat->Int) (k:Nat) (hk:k<8):(lineCells l)[k]? = some (u64 (l k)):=by
 have:k=0\/k=1\/k=2\/k=3\/k=4\/k=5\/k=6\/k=7:=by omega
 rcases this with rfl | rfl | rfl | rfl | rfl | rfl | rfl | rfl <;> rfl
theorem sentCells_ln (s:List (Nat×(Nat->Int))):∀p k,p<s.length->k<8->(sentCells s)[p * 9+1+k]? = some (u64 (lnOf s p k)):=by
 induction s with
 | nil=>intro p k h;simp at h
 | cons x s ih=>
  intro p k h hk
  rw[sentCells_cons]
  have hl:((.int .i64 x.1 :: lineCells x.2:List Value)).length=9:=by simp[lineCells]
  cases p with
  | zero=>
   rw[List.getElem?_append_left (by omega),show 0 * 9+1+k=k+1 from by omega,List.getElem?_cons_succ,lineCells_get _ _ hk]
   simp[lnOf]
  | succ p=>
   rw[List.getElem?_append_right (by omega),hl,show(p+1) * 9+1+k - 9=p * 9+1+k from by omega,ih p k (by simpa using h) hk]
   simp[lnOf]
theorem DevL.sentAt {w:World} {b:Nat} {L:Lay} {A:Ab} (h:DevL w b L A) {g n cap:Nat} (hv:L.sv = .slice (some ⟨g,0,none⟩) n cap) :
  n=L.sent.length/\(∀p,p<L.sent.length->w.cell? ⟨g,p * 9,none⟩=some (.int .i64 (atOf L.sent p)))/\(∀p k,p<L.sent.length->k<8->w.cell? ⟨g,p * 9+1+k,none⟩=some (u64 (lnOf L.sent p k))):=by
 have ho:=h.own
 have hn:n=L.sent.length:=by
  rcases ho.2 with ⟨e,_⟩ | ⟨g',cap',cur,e,_⟩
  ·rw[hv] at e;simp at e
  ·rw[hv] at e;simp at e;exact e.2.1
 subst hn
 rw[hv] at ho
 refine⟨rfl,fun p hp=>?_,fun p k hp hk=>?_⟩
 ·rw[ho.cellAt _ (by omega)];exact sentCells_at _ p hp
 ·rw[ho.cellAt _ (by omega)];exact sentCells_ln _ p k hp hk
theorem atOf_get {s:List (Nat×(Nat->Int))} {p:Nat} (h:p<s.length):s[p]? = some (atOf s p,lnOf s p):=by
 obtain⟨x,hx⟩:∃x,s[p]? = some x:=⟨s[p],List.getElem?_eq_getElem h⟩
 have:lnOf s p=x.2:=by funext k;simp[lnOf,hx]
 rw[this];simp[atOf,hx]
def Ab.forgot (A:Ab):Ab:={ A with way:=fun _=>none }
theorem forget_ok {w:World} {b:Nat} {L:Lay} {A:Ab} (h:DevL w b L A) (hfew:A.steps<4294967296) :
  Calls Tryz.prog 196 #[ptr b] w fun e w'=>e = .returned (.tuple #[])/\∃L',DevL w' b L' A.forgot/\Fr (foot b L) w w'/\∀k,foot b L' k->foot b L k:=by
 rcases h.own.2 with ⟨hv,hn⟩ | ⟨g,cap,cur,hv,hg0,hgg,hcap,hmax,hcur,htake⟩
 ·have h2:=h.c2;rw[hv] at h2
  refine(forget_nil b w h2 (h.zb 2)).mono ?_
  rintro e w' ⟨rfl,rfl⟩
  have hs0:L.sent = []:=List.eq_nil_of_length_eq_zero hn
  refine⟨rfl,{ L with sv:=.slice none 0 0,place:=fun _=>0,sent:=[] },?_,(Fr.refl _ w).setCell (.inl (.inl rfl)) _,?_⟩
  ·have hpl0:∀a,a<A.n->L.place a=0:=fun a ha=>by
    rcases h.wayOk a ha with ⟨e,_⟩ | ⟨p,l,_,e⟩
    ·exact e
    ·rw[hs0] at e;simp at e
   refine h.resend _ _ _ _ (by simp) (fun o ho=>World.cell?_setCell_other _ _ _ _ (by simp <;> omega)) (World.cell?_setCell_same _ _ _ h.c2) (fun o=>by rw[World.frozen?_setCell];exact h.zb o)
    (Below.heap_setCell _ _ _ _ (Ne.symm h.bbn)) (Below.heap_setCell _ _ _ _ (Ne.symm h.bbl)) (fun a ha=>?_) (fun o=>by rw[World.frozen?_setCell];exact h.zp o) (World.ownsRow_nil _ _ _ _) (fun k hk=>by simp[Value.ownBlock] at hk) (fun p a l hp=>by simp at hp) (fun a ha=>.inl ⟨rfl,rfl⟩) (by have:=h.steps0;simpa using this)
   rw[World.cell?_setCell_other _ _ _ _ (by have:=h.bbp;simp <;> omega),h.plc a ha,hpl0 a ha]
  ·rintro k (hk | hk | hk | hk | hk)
   ·exact .inl hk
   ·exact .inr (.inl hk)
   ·exact .inr (.inr (.inl hk))
   ·exact .inr (.inr (.inr (.inl hk)))
   ·simp[Value.ownBlock] at hk
 ·obtain⟨_,hat,hln⟩:=h.sentAt hv
  have h2:=h.c2;rw[hv] at h2
  have hlen:L.sent.length<=4294967296:=by have:=h.few;omega
  refine(forget_row b L.bp g A.n L.sent.length cap (atOf L.sent) (lnOf L.sent) (fun a=>L.place a) w h.n8 hlen h2 h.c3 (fun p hp=>(h.sentOk p _ _ (atOf_get hp)).1) hat hln h.plc h.zp h.zb h.bbp (fun e=>h.sp (by rw[hv,e];rfl)) (fun e=>h.sb (by rw[hv,e];rfl))).mono ?_
  rintro e w' ⟨rfl,w1,hf1,rfl,hpl,hzp⟩
  refine⟨rfl,{ L with sv:=.slice (some ⟨g,0,none⟩) 0 cap,place:=fun _=>0,sent:=[] },?_,?_,?_⟩
  ·have gb:g≠b:=fun e=>h.sb (by rw[hv,e];rfl)
   have gn:g≠L.bn:=fun e=>h.sn (by rw[hv,e];rfl)
   have gl:g≠L.bl:=fun e=>h.sl (by rw[hv,e];rfl)
   have gp:g≠L.bp:=fun e=>h.sp (by rw[hv,e];rfl)
   have c2':w1.cell? ⟨b,2,none⟩=some L.sv:=hf1.cell' h.c2 h.bbp
   refine h.resend _ _ _ _ (by simpa using hf1.size) (fun o ho=>?_) (World.cell?_setCell_same _ _ _ c2') (fun o=>?_)
    ((Below.heap_setCell _ _ _ _ (Ne.symm h.bbn)).trans (hf1.block _ h.ltn h.bnp)) ((Below.heap_setCell _ _ _ _ (Ne.symm h.bbl)).trans (hf1.block _ h.ltl h.blp)) (fun a ha=>?_) (fun o=>by rw[World.frozen?_setCell];exact hzp o)
    ⟨by simp[sentCells],.inr ⟨g,cap,cur,rfl,hg0,?_,Nat.zero_le _,hmax,hcur,by simp[sentCells]⟩⟩ (fun k hk=>?_) (fun p a l hp=>by simp at hp) (fun a ha=>.inl ⟨rfl,rfl⟩) (by have:=h.steps0;simpa using this)
   ·rw[World.cell?_setCell_other _ _ _ _ (by simp <;> omega)];exact hf1.cell (p:=⟨b,o,none⟩) h.ltb h.bbp
   ·rw[World.frozen?_setCell];exact(hf1.frozen (p:=⟨b,o,none⟩) h.ltb h.bbp).trans (h.zb o)
   ·rw[World.cell?_setCell_other _ _ _ _ (by have:=h.bbp;simp <;> omega),hpl a ha]
    congr 2
    split
    ·rfl
    ·rename_i hno
     rcases h.wayOk a ha with ⟨e,_⟩ | ⟨p,l,_,e⟩
     ·simp[e]
     ·exact absurd ⟨p,(List.getElem?_eq_some_iff.1 e).1,by simp[atOf,e]⟩ hno
   ·rw[Below.heap_setCell _ _ _ _ gb,hf1.block _ (Array.getElem?_eq_some_iff.1 hgg).1 gp];exact hgg
   ·simp[Value.ownBlock] at hk;subst hk;exact⟨gb,gn,gl,gp⟩
  ·exact(hf1.mono (fun k hk=>.inl (.inr (.inr (.inr (.inl hk)))))).setCell (.inl (.inl rfl)) _
  ·rintro k (hk | hk | hk | hk | hk)
   ·exact .inl hk
   ·exact .inr (.inl hk)
   ·exact .inr (.inr (.inl hk))
   ·exact .inr (.inr (.inr (.inl hk)))
   ·exact .inr (.inr (.inr (.inr (by rw[hv];exact hk))))
def after (at_:Nat->Nat) (ln:Nat->Nat->Int) (lasts:Nat->Int):Nat->Nat->Int
 | 0,j=>lasts j
 | q+1,j=>if j / 8=at_ q then ln q (j % 8) else after at_ ln lasts q j
structure FenceIn (w:World) (b bl kl bs n m cap:Nat) (at_:Nat->Nat) (ln:Nat->Nat->Int) (lasts:Nat->Int):Prop where
 h2:w.cell? ⟨b,2,none⟩=some (.slice (some ⟨bs,0,none⟩) m cap)
 h1:w.cell? ⟨b,1,none⟩=some (rowc bl n kl)
 hat:∀p,p<m->at_ p<n
 hc:∀p,p<m->w.cell? ⟨bs,p * 9,none⟩=some (.int .i64 (at_ p))
 hl:∀p k,p<m->k<8->w.cell? ⟨bs,p * 9+1+k,none⟩=some (u64 (ln p k))
 hp:∀j,j<n * 8->w.cell? ⟨bl,j,none⟩=some (u64 (lasts j))
 hz:∀o,w.frozen? ⟨bl,o,none⟩=false
 hbp:b≠bl
 hsp:bs≠bl
theorem fence_row {kl:Nat} (b bl bs n m cap:Nat) (at_:Nat->Nat) (ln:Nat->Nat->Int) (lasts:Nat->Int) (S R:World->Prop) (w0:World) (_hn:n<=8192) (hm:m<=4294967296)
  (K32:Calls Tryz.prog 194 #[ptr b] w0 fun e w'=>e = .returned (.tuple #[])/\S w') (hS:∀w,S w->FenceIn w b bl kl bs n m cap at_ ln lasts)
  (K34:∀w w1,S w->Fr (fun k=>k=bl) w w1->(∀j,j<n * 8->w1.cell? ⟨bl,j,none⟩=some (u64 (after at_ ln lasts m j)))->(∀o,w1.frozen? ⟨bl,o,none⟩=false)->
   Calls Tryz.prog 196 #[ptr b] w1 fun e w'=>e = .returned (.tuple #[])/\R w') :
  Calls Tryz.prog 169 #[ptr b] w0 fun e w'=>e = .returned (.tuple #[])/\R w':=by
 have HK:=Hd K32;have HJ:=Hd K34;have HX:=Hd hS
 clear K32 K34 hS
 go_enter Tryz.func169,Tryz.ntmps169
 go_wp2_with fail
 refine(uh HK).mono ?_
 rintro e w1 ⟨rfl,q⟩
 have HJ:=Hd (fun w2=>uh HJ w1 w2 q)
 have HS:=Hd q
 obtain⟨h2,h1,hat,hc,hl,hp,hz,hbp,hsp⟩:=uh HX w1 q
 clear q HX
 have HH:Hid ((∀p,p<m->at_ p<n)/\(∀p,p<m->w1.cell? ⟨bs,p * 9,none⟩=some (.int .i64 (at_ p)))/\(∀p k,p<m->k<8->w1.cell? ⟨bs,p * 9+1+k,none⟩=some (u64 (ln p k)))/\(∀j,j<n * 8->w1.cell? ⟨bl,j,none⟩=some (u64 (lasts j)))/\(∀o,w1.frozen? ⟨bl,o,none⟩=false)):=⟨hat,hc,hl,hp,hz⟩
 clear hat hc hl hp hz HK
 go_wp2
 go_loopw [11] (fun i wr=>∃q:Nat,q<=m/\i = .int .i64 q/\Fr (fun k=>k=bl) w1 wr/\(∀j,j<n * 8->wr.cell? ⟨bl,j,none⟩=some (u64 (after at_ ln lasts q j)))/\(∀o,wr.frozen? ⟨bl,o,none⟩=false)) (fun i wr=>m - (intOf i).toNat)
 case atStart=>exact⟨0,Nat.zero_le _,rfl,Fr.refl _ _,fun a ha=>(uh HH).2.2.2.1 a ha,(uh HH).2.2.2.2⟩
 case round=>
  obtain⟨q,hq,rfl,hfr,hpl,hzz⟩:=hrel
  by_cases hlt:q<m
  ·obtain⟨hat,hc,hl,hp,hz⟩:=uh HH
   have hb:=World.block_lt_of_cell? _ _ h2
   have hbs:=World.block_lt_of_cell? _ _ (hc q hlt)
   have c0:wr.cell? ⟨bs,q * 9,none⟩=some (.int .i64 (at_ q)):=hfr.cell' (hc q hlt) hsp
   have cl:∀k,k<8->wr.cell? ⟨bs,q * 9+1+k,none⟩=some (u64 (ln q k)):=fun k hk=>hfr.cell' (hl q k hlt hk) hsp
   have c1:=cl 0 (by omega);have c2:=cl 1 (by omega);have c3:=cl 2 (by omega);have c4:=cl 3 (by omega)
   have c5:=cl 4 (by omega);have c6:=cl 5 (by omega);have c7:=cl 6 (by omega);have c8:=cl 7 (by omega)
   simp only[Nat.add_assoc,Nat.reduceAdd] at c1 c2 c3 c4 c5 c6 c7 c8
   have d3:wr.cell? ⟨b,1,none⟩=some (rowc bl n kl):=hfr.cell' h1 hbp
   have hatq:=hat q hlt
   have hbl:=World.block_lt_of_cell? _ _ (hp (at_ q * 8) (by omega))
   have hbr:b<wr.heap.size:=Nat.lt_of_lt_of_le hb hfr.size
   have hpr:bl<wr.heap.size:=Nat.lt_of_lt_of_le hbl hfr.size
   have e0:wr.cell? ⟨bl,at_ q * 8,none⟩=some (u64 _):=hpl (at_ q * 8) (by omega)
   have e1:wr.cell? ⟨bl,at_ q * 8+1,none⟩=some (u64 _):=hpl (at_ q * 8+1) (by omega)
   have e2:wr.cell? ⟨bl,at_ q * 8+2,none⟩=some (u64 _):=hpl (at_ q * 8+2) (by omega)
   have e3:wr.cell? ⟨bl,at_ q * 8+3,none⟩=some (u64 _):=hpl (at_ q * 8+3) (by omega)
   have e4:wr.cell? ⟨bl,at_ q * 8+4,none⟩=some (u64 _):=hpl (at_ q * 8+4) (by omega)
   have e5:wr.cell? ⟨bl,at_ q * 8+5,none⟩=some (u64 _):=hpl (at_ q * 8+5) (by omega)
   have e6:wr.cell? ⟨bl,at_ q * 8+6,none⟩=some (u64 _):=hpl (at_ q * 8+6) (by omega)
   have e7:wr.cell? ⟨bl,at_ q * 8+7,none⟩=some (u64 _):=hpl (at_ q * 8+7) (by omega)
   generalize after at_ ln lasts q (at_ q * 8)=o0 at e0
   generalize after at_ ln lasts q (at_ q * 8+1)=o1 at e1
   generalize after at_ ln lasts q (at_ q * 8+2)=o2 at e2
   generalize after at_ ln lasts q (at_ q * 8+3)=o3 at e3
   generalize after at_ ln lasts q (at_ q * 8+4)=o4 at e4
   generalize after at_ ln lasts q (at_ q * 8+5)=o5 at e5
   generalize after at_ ln lasts q (at_ q * 8+6)=o6 at e6
   generalize after at_ ln lasts q (at_ q * 8+7)=o7 at e7
   have z0:=hzz (at_ q * 8);have z1:=hzz (at_ q * 8+1);have z2:=hzz (at_ q * 8+2);have z3:=hzz (at_ q * 8+3)
   have z4:=hzz (at_ q * 8+4);have z5:=hzz (at_ q * 8+5);have z6:=hzz (at_ q * 8+6);have z7:=hzz (at_ q * 8+7)
   have HP:=Hd hpl;have HF:=Hd hfr;have HZ:=Hd hzz
   clear cl hat hc hl hp hz hpl hfr hzz
   go_wp2
   go_region
   go_wp2
   go_roundw
   case rel=>
    refine⟨q+1,by omega,by go_num,((set8_fr wr bl (at_ q * 8) (ln q) (uh HF) (.inl rfl)).alloc _).drew,?_,?_⟩
    ·intro j hj
     rw[World.cell?_drew,World.cell?_alloc_lt _ _ _ (by simpa using hpr)]
     by_cases hj8:j / 8=at_ q
     ·obtain⟨k,hk,rfl⟩:∃k,k<8/\j=at_ q * 8+k:=⟨j % 8,by omega,by omega⟩
      have:=set8_in wr bl (at_ q * 8) (ln q) k hk (by rw[uh HP _ hj];rfl)
      refine Eq.trans this ?_
      simp only[after,if_pos hj8]
      rw[show(at_ q * 8+k) % 8=k from by omega]
     ·have:=set8_other wr bl (at_ q * 8) (ln q) ⟨bl,j,none⟩ (.inr (by simp;omega))
      refine Eq.trans this ?_
      simp only[after,if_neg hj8]
      exact uh HP j hj
    ·intro o
     rw[World.frozen?_drew,World.frozen?_alloc_old _ _ _ (by simp <;> omega)]
     exact(set8_frozen wr bl (at_ q * 8) (ln q) _).trans (uh HZ o)
   case measure=>simp[intOf];omega
  ·have hqm:q=m:=by omega
   subst hqm
   have HC:=Hd (uh HJ wr hfr hpl hzz)
   clear hpl hfr hzz
   go_wp2_with fail
   refine(uh HC).mono ?_
   rintro e w' ⟨rfl,hR⟩
   have HR:=Hd hR;clear hR
   go_wp2
   go_end0
   exact⟨rfl,uh HR⟩
theorem fence_nil (b:Nat) (S R:World->Prop) (w0:World)
  (K32:Calls Tryz.prog 194 #[ptr b] w0 fun e w'=>e = .returned (.tuple #[])/\S w')
  (hS:∀w,S w->w.cell? ⟨b,2,none⟩=some (.slice none 0 0)) (K34:∀w,S w->Calls Tryz.prog 196 #[ptr b] w fun e w'=>e = .returned (.tuple #[])/\R w') :
  Calls Tryz.prog 169 #[ptr b] w0 fun e w'=>e = .returned (.tuple #[])/\R w':=by
 have HK:=Hd K32;have HJ:=Hd K34;have HX:=Hd hS
 clear K32 K34 hS
 go_enter Tryz.func169,Tryz.ntmps169
 go_wp2_with fail
 refine(uh HK).mono ?_
 rintro e w1 ⟨rfl,q⟩
 have h2:=uh HX w1 q
 have HJ:=Hd (uh HJ w1 q)
 clear q HX HK
 go_wp2
 refine wp_loop_rounds 1 ?_
 rw[rounds_succ]
 go_wp2_with fail
 refine(uh HJ).mono ?_
 rintro e w' ⟨rfl,hR⟩
 have HR:=Hd hR;clear hR
 go_wp2
 go_end0
 exact⟨rfl,uh HR⟩
theorem after_none {at_:Nat->Nat} {ln:Nat->Nat->Int} {lasts:Nat->Int} {j:Nat}:∀m,(∀p,p<m->at_ p≠j / 8)->after at_ ln lasts m j=lasts j
 | 0,_=>rfl
 | m+1,h=>by
  have h1:=h m (by omega)
  simp only[after]
  rw[if_neg (fun e=>h1 e.symm)]
  exact after_none m (fun p hp=>h p (by omega))
theorem after_some {at_:Nat->Nat} {ln:Nat->Nat->Int} {lasts:Nat->Int} {j:Nat} {v:Int}:∀m,(∀p,p<m->at_ p=j / 8->ln p (j % 8)=v)->(∃p,p<m/\at_ p=j / 8)->after at_ ln lasts m j=v
 | 0,_,⟨p,hp,_⟩=>by omega
 | m+1,h,⟨p,hp,hpj⟩=>by
  simp only[after]
  by_cases e:at_ m=j / 8
  ·rw[if_pos e.symm];exact h m (by omega) e
  ·rw[if_neg (fun x=>e x.symm)]
   refine after_some m (fun p hp=>h p (by omega)) ⟨p,?_,hpj⟩
   by_cases hpm:p=m
   ·subst hpm;exact absurd hpj e
   ·omega
def Ab.fenced (A:Ab):Ab:={ A with lasts:=fun j=>match A.way (j / 8) with | some l=>l (j % 8) | none=>A.lasts j,way:=fun _=>none }
theorem DevL.after_eq {w:World} {b:Nat} {L:Lay} {A:Ab} (h:DevL w b L A) (j:Nat) (hj:j<A.n * 8) :
  after (atOf L.sent) (lnOf L.sent) A.lasts L.sent.length j=A.fenced.lasts j:=by
 simp only[Ab.fenced]
 rcases h.wayOk (j / 8) (by omega) with ⟨h0,hw⟩ | ⟨p,l,hp,hs⟩
 ·rw[hw]
  refine after_none _ fun p hp e=>?_
  have:=(h.sentOk p _ _ (atOf_get hp)).2.1
  rw[e,h0] at this;omega
 ·have hpl:=(List.getElem?_eq_some_iff.1 hs).1
  have hw:=(h.sentOk p _ _ hs).2.2
  rw[hw]
  refine after_some _ (fun p' hp' e=>?_) ⟨p,hpl,by simp[atOf,hs]⟩
  have h1:=(h.sentOk p' _ _ (atOf_get hp')).2.1
  rw[e,hp] at h1
  have:p'=p:=by omega
  subst this
  simp[lnOf,hs]
theorem DevL.relast {w w':World} {b:Nat} {L:Lay} {A:Ab} (h:DevL w b L A) (lasts:Nat->Int) (hf:Fr (fun k=>k=L.bl) w w')
  (hl:∀j,j<A.n * 8->w'.cell? ⟨L.bl,j,none⟩=some (u64 (lasts j))) (hz:∀o,w'.frozen? ⟨L.bl,o,none⟩=false):DevL w' b L { A with lasts:=lasts }:=by
 have eb:w'.heap[b]? = w.heap[b]?:=hf.block _ h.ltb h.bbl
 have en:w'.heap[L.bn]? = w.heap[L.bn]?:=hf.block _ h.ltn h.bnl
 have ep:w'.heap[L.bp]? = w.heap[L.bp]?:=hf.block _ h.ltp (Ne.symm h.blp)
 have cb:∀o,w'.cell? ⟨b,o,none⟩=w.cell? ⟨b,o,none⟩:=fun o=>World.cell?_of_block eb
 have cn:∀o,w'.cell? ⟨L.bn,o,none⟩=w.cell? ⟨L.bn,o,none⟩:=fun o=>World.cell?_of_block en
 have cp:∀o,w'.cell? ⟨L.bp,o,none⟩=w.cell? ⟨L.bp,o,none⟩:=fun o=>World.cell?_of_block ep
 refine { h with c0:=?_,c1:=?_,c2:=?_,c3:=?_,c4:=?_,c5:=?_,c6:=?_,zb:=?_,zn:=?_,zl:=hz,zp:=?_,now:=?_,lasts:=hl,plc:=?_,own:=?_,ltb:=?_,ltn:=?_,ltl:=?_,ltp:=?_ }
 ·rw[cb];exact h.c0
 ·rw[cb];exact h.c1
 ·rw[cb];exact h.c2
 ·rw[cb];exact h.c3
 ·rw[cb];exact h.c4
 ·rw[cb];exact h.c5
 ·rw[cb];exact h.c6
 ·intro o;rw[World.frozen?_of_block (a:=⟨b,o,none⟩) eb];exact h.zb o
 ·intro o;rw[World.frozen?_of_block (a:=⟨L.bn,o,none⟩) en];exact h.zn o
 ·intro o;rw[World.frozen?_of_block (a:=⟨L.bp,o,none⟩) ep];exact h.zp o
 ·intro j hj;rw[cn];exact h.now j hj
 ·intro j hj;rw[cp];exact h.plc j hj
 ·exact owns_same h.own fun k hk=>hf.block k (h.lts k hk) (fun e=>h.sl (by rw[hk,e]))
 ·exact Nat.lt_of_lt_of_le h.ltb hf.size
 ·exact Nat.lt_of_lt_of_le h.ltn hf.size
 ·exact Nat.lt_of_lt_of_le h.ltl hf.size
 ·exact Nat.lt_of_lt_of_le h.ltp hf.size
theorem fence_ok {w:World} {b:Nat} {L:Lay} {A:Ab} (h:DevL w b L A) (lv:Live A) (hs1:A.steps+1<4294967296) :
  Calls Tryz.prog 169 #[ptr b] w fun e w'=>e = .returned (.tuple #[])/\∃L',DevL w' b L' A.tick.fenced/\Fr (foot b L) w w'/\∀k,foot b L' k->foot b L k:=by
 have K:=step_ok h lv
 rcases h.own.2 with ⟨hv,hn⟩ | ⟨g,cap,cur,hv,_⟩
 ·refine fence_nil b (fun w'=>DevL w' b L A.tick/\Fr (foot b L) w w') (fun w'=>∃L',DevL w' b L' A.tick.fenced/\Fr (foot b L) w w'/\∀k,foot b L' k->foot b L k) w K (fun w1 d=>by rw[<-hv];exact d.1.c2) ?_
  rintro w1 ⟨d,f⟩
  refine(forget_ok d hs1).mono ?_
  rintro e w2 ⟨rfl,L',d',f',s'⟩
  refine⟨rfl,L',?_,f.trans f',s'⟩
  have hs0:L.sent = []:=List.eq_nil_of_length_eq_zero hn
  have d2:=d'.relast A.tick.fenced.lasts (Fr.refl _ w2) (fun j hj=>?_) d'.zl
  ·exact d2
  ·have e:=d.after_eq j hj
   rw[hs0] at e
   rw[<-e];exact d'.lasts j hj
 ·have hlen:L.sent.length<=4294967296:=by have:=h.few;have:=lv.few;omega
  refine fence_row (kl:=L.kl) b L.bl g A.n L.sent.length cap (atOf L.sent) (lnOf L.sent) A.lasts (fun w'=>DevL w' b L A.tick/\Fr (foot b L) w w') (fun w'=>∃L',DevL w' b L' A.tick.fenced/\Fr (foot b L) w w'/\∀k,foot b L' k->foot b L k) w h.n8 hlen K ?_ ?_
  ·rintro w1 ⟨d,f⟩
   obtain⟨_,hat,hln⟩:=d.sentAt hv
   exact⟨by have:=d.c2;rw[hv] at this;exact this,d.c1,fun p hp=>(d.sentOk p _ _ (atOf_get hp)).1,hat,hln,d.lasts,d.zl,d.bbl,fun e=>d.sl (by rw[hv,e];rfl)⟩
  ·rintro w1 w2 ⟨d,f⟩ f2 hl hz
   have d2:=d.relast A.tick.fenced.lasts f2 (fun j hj=>by rw[hl j hj,<-d.after_eq j hj];rfl) hz
   refine(forget_ok d2 hs1).mono ?_
   rintro e w3 ⟨rfl,L',d',f',s'⟩
   exact⟨rfl,L',d',(f.trans (f2.mono fun k hk=>.inl (.inr (.inr (.inl hk))))).trans f',s'⟩
theorem fence_lost {w:World} {b:Nat} {L:Lay} {A:Ab} (h:DevL w b L A) (hd:A.dead=true\/A.fuse=0) :
  Calls Tryz.prog 169 #[ptr b] w fun e w'=>e = .panicked lost/\DevL w' b L { A with dead:=true }/\Fr (foot b L) w w':=by
 have K:=step_lost h hd
 clear h hd
 go_enter Tryz.func169,Tryz.ntmps169
 go_wp2_with fail
 refine K.mono ?_
 rintro e w1 ⟨rfl,h1,f1⟩
 exact⟨rfl,rfl,h1,f1⟩
theorem send_again {kn kp:Nat} (b bn bp bs n m cap a p:Nat) (l o:Nat->Int) (w:World) (_hn:n<=8192) (hm:m<=4294967296) (ha:a<n) (hp:p<m)
  (h0:w.cell? ⟨b,0,none⟩=some (rowc bn n kn)) (h2:w.cell? ⟨b,2,none⟩=some (.slice (some ⟨bs,0,none⟩) m cap)) (h3:w.cell? ⟨b,3,none⟩=some (rowc bp n kp))
  (hpl:w.cell? ⟨bp,a,none⟩=some (.int .i64 (p+1)))
  (hl:∀k,k<8->w.cell? ⟨bn,a * 8+k,none⟩=some (u64 (l k)))
  (ho:∀k,k<8->w.cell? ⟨bs,p * 9+1+k,none⟩=some (u64 (o k))) (hz:∀q,w.frozen? ⟨bs,q,none⟩=false) :
  Calls Tryz.prog 195 #[ptr b,.int .i64 a] w fun e w'=>e = .returned (.tuple #[])/\w'=(set8 w bs (p * 9+1) l).drew:=by
 have l0:=hl 0 (by omega);have l1:=hl 1 (by omega);have l2:=hl 2 (by omega);have l3:=hl 3 (by omega)
 have l4:=hl 4 (by omega);have l5:=hl 5 (by omega);have l6:=hl 6 (by omega);have l7:=hl 7 (by omega)
 have o0:=ho 0 (by omega);have o1:=ho 1 (by omega);have o2:=ho 2 (by omega);have o3:=ho 3 (by omega)
 have o4:=ho 4 (by omega);have o5:=ho 5 (by omega);have o6:=ho 6 (by omega);have o7:=ho 7 (by omega)
 have z0:=hz (p * 9+1);have z1:=hz (p * 9+2);have z2:=hz (p * 9+3);have z3:=hz (p * 9+4)
 have z4:=hz (p * 9+5);have z5:=hz (p * 9+6);have z6:=hz (p * 9+7);have z7:=hz (p * 9+8)
 simp only[Nat.add_assoc,Nat.reduceAdd,Nat.add_zero] at l0 l1 l2 l3 l4 l5 l6 l7 o0 o1 o2 o3 o4 o5 o6 o7
 clear hl ho hz
 go_enter Tryz.func195,Tryz.ntmps195
 go_wp2
 go_region
 go_wp2
 refine bodyPost_ret (results_none rfl _ _ _) rfl ?_
 exact⟨rfl,rfl⟩
theorem owns_form {w:World} {base size n:Nat} {e:TypeId} {v:Value} {xs:List Value} (h:w.ownsRow base e size v n xs) (hn:0<n):∃g cap,v = .slice (some ⟨g,0,none⟩) n cap:=by
 rcases h.2 with ⟨_,h0⟩ | ⟨g,cap,_,hv,_⟩
 ·omega
 ·exact⟨g,cap,hv⟩
abbrev litObj (a:Nat) (l:Nat->Int):Obj:=.cells #[.int .i64 a,u64 (l 0),u64 (l 1),u64 (l 2),u64 (l 3),u64 (l 4),u64 (l 5),u64 (l 6),u64 (l 7)] 236
theorem lit_news (w:World) (a:Nat) (l:Nat->Int) (j:Nat) (u:Value) (h:(.int .i64 a :: lineCells l:List Value)[j]? = some u):((w.alloc (litObj a l)).drew).cell? ((⟨w.heap.size,0,none⟩:Addr).add j)=some u:=by
 have hadd:(⟨w.heap.size,0,none⟩:Addr).add j=⟨w.heap.size,j,none⟩:=by unfold Addr.add;split <;> simp_all
 rw[hadd,World.cell?_drew,World.cell?_alloc_new]
 have hj:j<9:=by have:=(List.getElem?_eq_some_iff.1 h).1;simpa [lineCells] using this
 have:j=0\/j=1\/j=2\/j=3\/j=4\/j=5\/j=6\/j=7\/j=8:=by omega
 rcases this with rfl | rfl | rfl | rfl | rfl | rfl | rfl | rfl | rfl <;> exact h
theorem lit_one (a:Nat) (l:Nat->Int):∀u∈(.int .i64 a :: lineCells l:List Value),u.oneCell'=true:=by
 intro u hu
 simp[lineCells] at hu
 rcases hu with rfl | rfl | rfl | rfl | rfl | rfl | rfl | rfl | rfl <;> rfl
theorem info59:(Tryz.prog.info? 236).map (fun i=>(i.zero,i.size,i.bytes))=some (some (.agg #[.int .i64 0,.int .u64 0,.int .u64 0,.int .u64 0,.int .u64 0,.int .u64 0,.int .u64 0,.int .u64 0,.int .u64 0]),9,72):=by kernel_rfl
theorem send_grow {kn kp:Nat} (b bn bp n m cap a:Nat) (ao:Option Addr) (l:Nat->Int) (olds:List Value) (w:World) (_hn:n<=8192) (hm:m<=4294967296) (ha:a<n)
  (h0:w.cell? ⟨b,0,none⟩=some (rowc bn n kn)) (h2:w.cell? ⟨b,2,none⟩=some (.slice ao m cap)) (h3:w.cell? ⟨b,3,none⟩=some (rowc bp n kp))
  (hb2:w.frozen? ⟨b,2,none⟩=false) (hbp:b≠bp) (hzp:w.frozen? ⟨bp,a,none⟩=false)
  (hpl:w.cell? ⟨bp,a,none⟩=some (.int .i64 0))
  (hl:∀k,k<8->w.cell? ⟨bn,a * 8+k,none⟩=some (u64 (l k)))
  (hfull:cap=m) (hnone:ao=none->m=0/\cap=0) (hlo:olds.length=m * 9) (holds:∀x,ao=some x->∀j u,olds[j]? = some u->w.cell? (x.add j)=some u) :
  Calls Tryz.prog 195 #[ptr b,.int .i64 a] w fun e w'=>e = .returned (.tuple #[])/\
   ∃w1 g cap',w1.ownsRow (w.heap.size+1) 236 9 (.slice (some ⟨g,0,none⟩) (m+1) cap') (m+1) (olds ++ (.int .i64 a :: lineCells l))/\Fr (fun _=>False) w w1/\
    w'=((w1.setCell ⟨b,2,none⟩ (.slice (some ⟨g,0,none⟩) (m+1) cap')).setCell ⟨bp,a,none⟩ (.int .i64 (m+1))).drew:=by
 have l0:=hl 0 (by omega);have l1:=hl 1 (by omega);have l2:=hl 2 (by omega);have l3:=hl 3 (by omega)
 have l4:=hl 4 (by omega);have l5:=hl 5 (by omega);have l6:=hl 6 (by omega);have l7:=hl 7 (by omega)
 simp only[Nat.add_zero] at l0 l1 l2 l3 l4 l5 l6 l7
 clear hl
 have hi:=info59
 obtain⟨i0,hi0⟩:∃i,Tryz.prog.info? 236=some i:=by
  cases h:Tryz.prog.info? 236 with
  | none=>rw[h] at hi;simp at hi
  | some i=>exact⟨i,rfl⟩
 rw[hi0] at hi
 simp only[Option.map_some,Option.some.injEq,Prod.mk.injEq] at hi
 obtain⟨hz0,hz1,hz2⟩:=hi
 have holdsW:∀x,ao=some x->∀j u,olds[j]? = some u->((w.alloc (litObj a l)).drew).cell? (x.add j)=some u:=fun x hx j u hu=>by
  have hc:=holds x hx j u hu
  rw[World.cell?_drew,World.cell?_alloc_lt _ _ _ (World.block_lt_of_cell? _ _ hc)];exact hc
 have HoldsW:=Hd holdsW
 have HnewsW:=Hd (lit_news w a l)
 have Hone:=Hd (lit_one a l)
 have hbb:=World.block_lt_of_cell? _ _ h2
 have hbq:=World.block_lt_of_cell? _ _ hpl
 clear holdsW
 have Hnone:=Hd hnone;have Hlo:=Hd hlo;have Holds:=Hd holds;have Hfull:=Hd hfull
 have Hi0:=Hd hi0;have Hz0:=Hd hz0;have Hz1:=Hd hz1;have Hz2:=Hd hz2
 clear hnone hlo holds hfull hi0 hz0 hz1 hz2
 go_enter Tryz.func195,Tryz.ntmps195
 go_wp2
 go_region_law ((refine step_append_grows rfl (.tmp 33) (.tmp 43) 168 rfl 236 i0 _ 9 72 Tryz.underlying168 (uh Hi0) (uh Hz0) (uh Hz1) (uh Hz2) rfl (by decide) ao m cap olds (by simp[Act.eval]) (uh Hnone) (uh Hlo) (uh HoldsW) ⟨w.heap.size,0,none⟩ 1 1 (.int .i64 a :: lineCells l) (by simp[Act.eval]) (by simp[lineCells]) (uh HnewsW) (uh Hone) (by rw[uh Hfull];omega) (by unfold maxLen;omega) (by omega) ?_);(intro v' w' hown hgrow);(obtain⟨g,cap',rfl⟩:=owns_form hown (by omega));(have q2:w'.cell? ⟨b,2,none⟩=some (.slice ao m cap):=hgrow.cell (by rw[World.cell?_drew,World.cell?_alloc_lt _ _ _ hbb];exact h2) (by simp));(have q3:w'.cell? ⟨b,3,none⟩=some (rowc bp n kp):=hgrow.cell (by rw[World.cell?_drew,World.cell?_alloc_lt _ _ _ hbb];exact h3) (by simp));(have qp:w'.cell? ⟨bp,a,none⟩=some (.int .i64 0):=hgrow.cell (by rw[World.cell?_drew,World.cell?_alloc_lt _ _ _ hbq];exact hpl) (by simp));(have z2:w'.frozen? ⟨b,2,none⟩=false:=(World.frozen?_of_block (hgrow.block b (by simp;omega) (by simp))).trans (by rw[World.frozen?_drew,World.frozen?_alloc_old _ _ _ (by simp;omega)];exact hb2));(have zp:w'.frozen? ⟨bp,a,none⟩=false:=(World.frozen?_of_block (hgrow.block bp (by simp;omega) (by simp))).trans (by rw[World.frozen?_drew,World.frozen?_alloc_old _ _ _ (by simp;omega)];exact hzp));(have Hown:=Hd hown);(have Hgrow:=Hd hgrow);(clear hown hgrow))
 all_goals
  go_wp2
  go_region
  go_wp2
  go_end0
  refine⟨rfl,w',g,cap',?_,?_,rfl⟩
  ·have:=uh Hown
   simp only[World.size_drew,World.size_alloc] at this
   exact this
  ·exact(((Fr.refl _ w).alloc _).drew).grown (uh Hgrow) (fun k hk=>by cases hk)
theorem setCells_heap (g:Nat):∀(vs:List Value) (o:Nat) (w:World) (cur:Array Value) (t:TypeId),w.heap[g]? = some (.cells cur t (0,0))->o+vs.length<=cur.size->
  ∃cur',(w.setCells g o vs).heap[g]? = some (.cells cur' t (0,0))/\cur'.size=cur.size/\cur'.toList.take (o+vs.length)=cur.toList.take o ++ vs
 | [],o,w,cur,t,h,_=>⟨cur,h,rfl,by simp⟩
 | v :: r,o,w,cur,t,h,hs=>by
  have h1:=heap_setCell_same w g o cur t v h
  simp only[List.length_cons] at hs
  obtain⟨cur',e1,e2,e3⟩:=setCells_heap g r (o+1) (w.setCell ⟨g,o,none⟩ v) _ t h1 (by simp;omega)
  refine⟨cur',e1,by simpa using e2,?_⟩
  rw[List.length_cons,show o+(r.length+1)=o+1+r.length from by omega,e3]
  have ho:o<cur.size:=by omega
  simp only[Array.toList_setIfInBounds]
  rw[List.take_succ_eq_append_getElem (by simpa using ho)]
  simp[List.take_set_of_le]
theorem setCells_fr (g:Nat) {F:Nat->Prop} {a:World} (hg:F g\/a.heap.size<=g):∀(vs:List Value) (o:Nat) (w:World),Fr F a w->Fr F a (w.setCells g o vs)
 | [],_,_,h=>h
 | _ :: r,o,_,h=>setCells_fr g hg r (o+1) _ (h.setCell hg _)

theorem room_facts (w:World) (a g m cap:Nat) (l:Nat->Int) (olds:List Value) (cur:Array Value) (hg:w.heap[g]? = some (.cells cur 236 (0,0))) (hroom:m<cap) (hmax:cap<=maxLen) (hcur:cur.size=cap * 9) (htake:cur.toList.take (m * 9)=olds) :
  Fr (fun k=>k=g) w (((w.alloc (litObj a l)).drew).setCells g (0+m * 9) (.int .i64 a :: lineCells l))/\
  (((w.alloc (litObj a l)).drew).setCells g (0+m * 9) (.int .i64 a :: lineCells l)).ownsRow 0 236 9 (.slice (some ⟨g,0,none⟩) (m+1) cap) (m+1) (olds ++ (.int .i64 a :: lineCells l)):=by
 have hlt:g<w.heap.size:=(Array.getElem?_eq_some_iff.1 hg).1
 have hg':((w.alloc (litObj a l)).drew).heap[g]? = some (.cells cur 236 (0,0)):=(Below.heap_alloc _ _ _ hlt).trans hg
 have hlen:(.int .i64 a :: lineCells l:List Value).length=9:=by simp[lineCells]
 obtain⟨cur',e1,e2,e3⟩:=setCells_heap g (.int .i64 a :: lineCells l) (0+m * 9) _ cur 236 hg' (by rw[hlen];omega)
 refine⟨setCells_fr g (F:=fun k=>k=g) (.inl rfl) _ _ _ (((Fr.refl _ w).alloc _).drew),?_,.inr ⟨g,cap,cur',rfl,Nat.zero_le _,e1,by omega,hmax,by omega,?_⟩⟩
 ·rw[List.length_append,hlen,<-htake,List.length_take];simp;omega
 ·rw[hlen,show 0+m * 9+9=(m+1) * 9 from by omega,show 0+m * 9=m * 9 from by omega] at e3
  rw[e3,htake]
theorem send_room {kn kp:Nat} (b bn bp g n m cap a:Nat) (l:Nat->Int) (olds:List Value) (cur:Array Value) (w:World) (_hn:n<=8192) (_hm:m<=4294967296) (ha:a<n)
  (h0:w.cell? ⟨b,0,none⟩=some (rowc bn n kn)) (h2:w.cell? ⟨b,2,none⟩=some (.slice (some ⟨g,0,none⟩) m cap)) (h3:w.cell? ⟨b,3,none⟩=some (rowc bp n kp))
  (hb2:w.frozen? ⟨b,2,none⟩=false) (hbp:b≠bp) (hzp:w.frozen? ⟨bp,a,none⟩=false)
  (hpl:w.cell? ⟨bp,a,none⟩=some (.int .i64 0))
  (hl:∀k,k<8->w.cell? ⟨bn,a * 8+k,none⟩=some (u64 (l k)))
  (hg:w.heap[g]? = some (.cells cur 236 (0,0))) (hroom:m<cap) (hmax:cap<=maxLen) (hcur:cur.size=cap * 9) (htake:cur.toList.take (m * 9)=olds) (hgb:b≠g) (hgp:bp≠g) :
  Calls Tryz.prog 195 #[ptr b,.int .i64 a] w fun e w'=>e = .returned (.tuple #[])/\
   ∃w1,w1.ownsRow 0 236 9 (.slice (some ⟨g,0,none⟩) (m+1) cap) (m+1) (olds ++ (.int .i64 a :: lineCells l))/\Fr (fun k=>k=g) w w1/\
    w'=((w1.setCell ⟨b,2,none⟩ (.slice (some ⟨g,0,none⟩) (m+1) cap)).setCell ⟨bp,a,none⟩ (.int .i64 (m+1))).drew:=by
 have l0:=hl 0 (by omega);have l1:=hl 1 (by omega);have l2:=hl 2 (by omega);have l3:=hl 3 (by omega)
 have l4:=hl 4 (by omega);have l5:=hl 5 (by omega);have l6:=hl 6 (by omega);have l7:=hl 7 (by omega)
 simp only[Nat.add_zero] at l0 l1 l2 l3 l4 l5 l6 l7
 clear hl
 have hi:=info59
 obtain⟨i0,hi0⟩:∃i,Tryz.prog.info? 236=some i:=by
  cases h:Tryz.prog.info? 236 with
  | none=>rw[h] at hi;simp at hi
  | some i=>exact⟨i,rfl⟩
 rw[hi0] at hi
 simp only[Option.map_some,Option.some.injEq,Prod.mk.injEq] at hi
 obtain⟨hz0,hz1,hz2⟩:=hi
 have hlt:g<w.heap.size:=(Array.getElem?_eq_some_iff.1 hg).1
 have hg':((w.alloc (litObj a l)).drew).heap[g]? = some (.cells cur 236 (0,0)):=(Below.heap_alloc _ _ _ hlt).trans hg
 have hspare:∀j,j<(.int .i64 a :: lineCells l:List Value).length->(((w.alloc (litObj a l)).drew).cell? ⟨g,0+m * 9+j,none⟩).isSome=true/\((w.alloc (litObj a l)).drew).frozen? ⟨g,0+m * 9+j,none⟩=false:=fun j hj=>by
  have hj9:j<9:=by simpa [lineCells] using hj
  rw[cell_of_row _ g _ cur 236 (0,0) hg',frozen_of_row _ g _ cur 236 hg']
  refine⟨?_,rfl⟩
  rw[Array.getElem?_eq_getElem (by omega)];rfl
 have Hspare:=Hd hspare
 have HnewsW:=Hd (lit_news w a l)
 have Hone:=Hd (lit_one a l)
 have hbb:=World.block_lt_of_cell? _ _ h2
 have hbq:=World.block_lt_of_cell? _ _ hpl
 obtain⟨rf,ro⟩:=room_facts w a g m cap l olds cur hg hroom hmax hcur htake
 have q2:=rf.cell' h2 hgb
 have q3:=rf.cell' h3 hgb
 have qp:=rf.cell' hpl hgp
 have z2:=(rf.frozen (p:=⟨b,2,none⟩) hbb hgb).trans hb2
 have zp:=(rf.frozen (p:=⟨bp,a,none⟩) hbq hgp).trans hzp
 have Q:=Hd (ai rf (ai ro (ai q2 (ai q3 (ai qp (ai z2 zp))))))
 have Hi0:=Hd hi0;have Hz1:=Hd hz1
 have Hroom:=Hd hroom
 clear hspare hi0 hz0 hz1 hz2 rf ro q2 q3 qp z2 zp hg hg' hroom hmax hcur htake
 go_enter Tryz.func195,Tryz.ntmps195
 go_wp2
 go_region_law ((refine step_append_room rfl (.tmp 33) (.tmp 43) 168 rfl 236 i0 9 Tryz.underlying168 (uh Hi0) (uh Hz1) g 0 m cap (by simp[Act.eval]) ⟨w.heap.size,0,none⟩ 1 1 (.int .i64 a :: lineCells l) (by simp[Act.eval]) (by simp[lineCells]) (uh HnewsW) (uh Hone) (uh Hroom) (uh Hspare) ?_);(revert Q;generalize ((w.alloc (litObj a l)).drew).setCells g (0+m * 9) (.int .i64 a :: lineCells l)=W1;intro Q;obtain⟨rf,ro,q2,q3,qp,z2,zp⟩:=uh Q;have RF:=Hd rf;have RO:=Hd ro;clear rf ro Q))
 all_goals
  go_wp2
  go_region
  go_wp2
  go_end0
  exact⟨rfl,W1,uh RO,uh RF,rfl⟩
theorem sentCells_app (s t:List (Nat×(Nat->Int))):sentCells (s ++ t)=sentCells s ++ sentCells t:=by simp[sentCells]
theorem sentCells_set (a:Nat) (l:Nat->Int):∀(s:List (Nat×(Nat->Int))) (p:Nat),p<s.length->atOf s p=a->
  sentCells (s.set p (a,l))=(((((((((sentCells s).set (p * 9+1) (u64 (l 0))).set (p * 9+1+1) (u64 (l 1))).set (p * 9+1+2) (u64 (l 2))).set (p * 9+1+3) (u64 (l 3))).set (p * 9+1+4) (u64 (l 4))).set (p * 9+1+5) (u64 (l 5))).set (p * 9+1+6) (u64 (l 6))).set (p * 9+1+7) (u64 (l 7)))
 | [],p,h,_=>by simp at h
 | x :: s,0,_,ha=>by
  have:x.1=a:=by simpa [atOf] using ha
  simp[sentCells,lineCells,this]
 | x :: s,p+1,h,ha=>by
  have ih:=sentCells_set a l s p (by simpa using h) (by simpa [atOf] using ha)
  rw[List.set_cons_succ,sentCells_cons,ih,sentCells_cons]
  have hl:((.int .i64 x.1 :: lineCells x.2:List Value)).length=9:=by simp[lineCells]
  have st:∀(r:List Value) (k:Nat) (v:Value),((.int .i64 x.1 :: lineCells x.2) ++ r).set ((p+1) * 9+1+k) v=(.int .i64 x.1 :: lineCells x.2) ++ r.set (p * 9+1+k) v:=fun r k v=>by
   rw[List.set_append_right _ _ (by rw[hl];omega),hl,show(p+1) * 9+1+k - 9=p * 9+1+k from by omega]
  have s0:=fun r v=>st r 0 v
  simp only[Nat.add_zero] at s0
  rw[s0,st,st,st,st,st,st,st]
theorem set8_owns {w:World} {g m cap:Nat} {s:List (Nat×(Nat->Int))} (h:w.ownsRow 0 236 9 (.slice (some ⟨g,0,none⟩) m cap) m (sentCells s)) (p a:Nat) (l:Nat->Int) (hp:p<s.length) (ha:atOf s p=a) :
  (set8 w g (p * 9+1) l).ownsRow 0 236 9 (.slice (some ⟨g,0,none⟩) m cap) m (sentCells (s.set p (a,l))):=by
 rw[sentCells_set a l s p hp ha]
 exact((((((((h.stored _ _).1.stored _ _).1.stored _ _).1.stored _ _).1.stored _ _).1.stored _ _).1.stored _ _).1.stored _ _).1
theorem owns_base {w:World} {base size n:Nat} {e:TypeId} {v:Value} {xs:List Value} (h:w.ownsRow base e size v n xs):w.ownsRow 0 e size v n xs:=by
 refine⟨h.1,?_⟩
 rcases h.2 with h0 | ⟨g,cap,cur,hv,_,hr⟩
 ·exact .inl h0
 ·exact .inr ⟨g,cap,cur,hv,Nat.zero_le _,hr⟩
def Ab.sendLine (A:Ab) (a:Nat):Ab:={ A with way:=upd A.way a (some fun k=>A.now (a * 8+k)) }
theorem DevL.push {w w1:World} {b:Nat} {L:Lay} {A:Ab} (h:DevL w b L A) (a:Nat) (ha:a<A.n) (hp0:L.place a=0) {F:Nat->Prop} (f1:Fr F w w1) (hF:∀k,F k->L.sv.ownBlock=some k) (g cap:Nat)
  (hg:L.sv.ownBlock=some g\/w.heap.size<=g) (own1:w1.ownsRow 0 236 9 (.slice (some ⟨g,0,none⟩) (L.sent.length+1) cap) (L.sent.length+1) (sentCells L.sent ++ (.int .i64 a :: lineCells fun k=>A.now (a * 8+k))))
  (hfew:(L.sent.length:Int)+1<=A.steps) :
  DevL (((w1.setCell ⟨b,2,none⟩ (.slice (some ⟨g,0,none⟩) (L.sent.length+1) cap)).setCell ⟨L.bp,a,none⟩ (.int .i64 ((L.sent.length:Int)+1))).drew) b
   { L with sv:=.slice (some ⟨g,0,none⟩) (L.sent.length+1) cap,place:=upd L.place a (L.sent.length+1),sent:=L.sent ++ [(a,fun k=>A.now (a * 8+k))] } (A.sendLine a):=by
 have nF:∀k,L.sv.ownBlock≠some k->¬F k:=fun k hk hf=>hk (hF k hf)
 have gb:g≠b:=by rcases hg with e | e;exact fun x=>h.sb (by rw[e,x]);have:=h.ltb;omega
 have gn:g≠L.bn:=by rcases hg with e | e;exact fun x=>h.sn (by rw[e,x]);have:=h.ltn;omega
 have gl:g≠L.bl:=by rcases hg with e | e;exact fun x=>h.sl (by rw[e,x]);have:=h.ltl;omega
 have gp:g≠L.bp:=by rcases hg with e | e;exact fun x=>h.sp (by rw[e,x]);have:=h.ltp;omega
 have c2:w1.cell? ⟨b,2,none⟩=some L.sv:=f1.cell' h.c2 (nF _ h.sb)
 have bbp:=h.bbp
 have hno:∀p l,L.sent[p]? ≠ some (a,l):=fun p l e=>by have:=(h.sentOk p _ _ e).2.1;omega
 have d:=h.resend (w':=(((w1.setCell ⟨b,2,none⟩ (.slice (some ⟨g,0,none⟩) (L.sent.length+1) cap)).setCell ⟨L.bp,a,none⟩ (.int .i64 ((L.sent.length:Int)+1))).drew)) (.slice (some ⟨g,0,none⟩) (L.sent.length+1) cap) (upd L.place a (L.sent.length+1)) (L.sent ++ [(a,fun k=>A.now (a * 8+k))]) (upd A.way a (some fun k=>A.now (a * 8+k)))
  (by simpa using f1.size) (fun o ho=>?_) ?_ (fun o=>?_) ?_ ?_ (fun q hq=>?_) (fun o=>?_) ?_ (fun k hk=>?_) (fun p q l hp=>?_) (fun q hq=>?_) (by simpa using hfew)
 ·exact d
 ·rw[World.cell?_drew,World.cell?_setCell_other _ _ _ _ (by simp <;> omega),World.cell?_setCell_other _ _ _ _ (by simp <;> omega)]
  exact f1.cell (p:=⟨b,o,none⟩) h.ltb (nF _ h.sb)
 ·rw[World.cell?_drew,World.cell?_setCell_other _ _ _ _ (by simp <;> omega)]
  exact World.cell?_setCell_same _ _ _ c2
 ·rw[World.frozen?_drew,World.frozen?_setCell,World.frozen?_setCell]
  exact(f1.frozen (p:=⟨b,o,none⟩) h.ltb (nF _ h.sb)).trans (h.zb o)
 ·show((w1.setCell ⟨b,2,none⟩ _).setCell ⟨L.bp,a,none⟩ _).heap[L.bn]? = _
  rw[Below.heap_setCell _ _ _ _ (h.bnp),Below.heap_setCell _ _ _ _ (Ne.symm h.bbn)]
  exact f1.block _ h.ltn (nF _ h.sn)
 ·show((w1.setCell ⟨b,2,none⟩ _).setCell ⟨L.bp,a,none⟩ _).heap[L.bl]? = _
  rw[Below.heap_setCell _ _ _ _ (h.blp),Below.heap_setCell _ _ _ _ (Ne.symm h.bbl)]
  exact f1.block _ h.ltl (nF _ h.sl)
 ·have hq1:(w1.setCell ⟨b,2,none⟩ (.slice (some ⟨g,0,none⟩) (L.sent.length+1) cap)).cell? ⟨L.bp,q,none⟩=some (.int .i64 (L.place q)):=by
   rw[World.cell?_setCell_other _ _ _ _ (by simp <;> omega)]
   exact f1.cell' (h.plc q hq) (nF _ h.sp)
  rw[World.cell?_drew]
  by_cases e:q=a
  ·subst e;rw[World.cell?_setCell_same _ _ _ hq1,upd_same];simp
  ·rw[World.cell?_setCell_other _ _ _ _ (by simp <;> omega),hq1,upd_other _ _ e]
 ·rw[World.frozen?_drew,World.frozen?_setCell,World.frozen?_setCell]
  exact(f1.frozen (p:=⟨L.bp,o,none⟩) h.ltp (nF _ h.sp)).trans (h.zp o)
 ·rw[sentCells_app,List.length_append]
  refine owns_same own1 fun k hk=>?_
  simp[Value.ownBlock] at hk;subst hk
  show((w1.setCell ⟨b,2,none⟩ _).setCell ⟨L.bp,a,none⟩ _).heap[g]? = _
  rw[Below.heap_setCell _ _ _ _ gp,Below.heap_setCell _ _ _ _ gb]
 ·simp[Value.ownBlock] at hk;subst hk;exact⟨gb,gn,gl,gp⟩
 ·by_cases hpl:p<L.sent.length
  ·rw[List.getElem?_append_left hpl] at hp
   have:=h.sentOk p q l hp
   have hqa:q≠a:=fun e=>hno p l (by rw[<-e];exact hp)
   rw[upd_other _ _ hqa,upd_other _ _ hqa];exact this
  ·rw[List.getElem?_append_right (by omega)] at hp
   have hpz:p - L.sent.length=0:=by
    have:=(List.getElem?_eq_some_iff.1 hp).1;simp at this;omega
   rw[hpz] at hp
   simp at hp
   obtain⟨rfl,rfl⟩:=hp
   exact⟨ha,by rw[upd_same];omega,by rw[upd_same]⟩
 ·by_cases e:q=a
  ·subst e
   exact .inr ⟨L.sent.length,fun k=>A.now (q * 8+k),by rw[upd_same],by simp⟩
  ·rcases h.wayOk q hq with ⟨e1,e2⟩ | ⟨p,l,e1,e2⟩
   ·exact .inl ⟨by rw[upd_other _ _ e];exact e1,by rw[upd_other _ _ e];exact e2⟩
   ·exact .inr ⟨p,l,by rw[upd_other _ _ e];exact e1,by rw[List.getElem?_append_left (List.getElem?_eq_some_iff.1 e2).1];exact e2⟩
theorem send_ok {w:World} {b:Nat} {L:Lay} {A:Ab} (h:DevL w b L A) (a:Nat) (ha:a<A.n) (hs:A.steps<4294967296) (hfew:L.place a=0->(L.sent.length:Int)+1<=A.steps) :
  Calls Tryz.prog 195 #[ptr b,.int .i64 a] w fun e w'=>e = .returned (.tuple #[])/\∃L',DevL w' b L' (A.sendLine a)/\Fr (foot b L) w w'/\∀k,foot b L' k->foot b L k\/w.heap.size<=k:=by
 have hlen:L.sent.length<=4294967296:=by have:=h.few;omega
 have hl:∀k,k<8->w.cell? ⟨L.bn,a * 8+k,none⟩=some (u64 (A.now (a * 8+k))):=fun k hk=>h.now _ (by omega)
 have hpl:=h.plc a ha
 rcases h.wayOk a ha with ⟨e0,hw⟩ | ⟨p,l,e1,e2⟩
 ·rw[e0] at hpl
  have hfew:=hfew e0
  have hpl':w.cell? ⟨L.bp,a,none⟩=some (.int .i64 0):=hpl
  have grow:∀(ao:Option Addr),L.sv = .slice ao L.sent.length L.sent.length->(ao=none->L.sent.length=0)->(∀x,ao=some x->∃g,x=⟨g,0,none⟩)->
    Calls Tryz.prog 195 #[ptr b,.int .i64 a] w fun e w'=>e = .returned (.tuple #[])/\∃L',DevL w' b L' (A.sendLine a)/\Fr (foot b L) w w'/\∀k,foot b L' k->foot b L k\/w.heap.size<=k:=by
   intro ao hv hnone hsome
   have h2:=h.c2;rw[hv] at h2
   refine(send_grow b L.bn L.bp A.n L.sent.length L.sent.length a ao (fun k=>A.now (a * 8+k)) (sentCells L.sent) w h.n8 hlen ha h.c0 h2 h.c3 (h.zb 2) h.bbp (h.zp a) hpl' hl rfl (fun e=>⟨hnone e,hnone e⟩) (sentCells_len _) ?_).mono ?_
   ·intro x hx j u hu
    obtain⟨g,rfl⟩:=hsome x hx
    have ho:=h.own;rw[hv,hx] at ho
    exact ho.cells rfl j u hu
   ·rintro e w' ⟨rfl,w1,g,cap',own1,f1,rfl⟩
    have hgb:w.heap.size+1<=g:=(own1.lt g rfl).1
    have d:=h.push a ha e0 f1 (fun k hk=>hk.elim) g cap' (.inr (by omega)) (owns_base own1) hfew
    refine⟨rfl,_,d,?_,?_⟩
    ·exact(((f1.mono (fun k hk=>hk.elim)).setCell (.inl (.inl rfl)) _).setCell (.inl (.inr (.inr (.inr (.inl rfl))))) _).drew
    ·rintro k (hk | hk | hk | hk | hk)
     ·exact .inl (.inl hk)
     ·exact .inl (.inr (.inl hk))
     ·exact .inl (.inr (.inr (.inl hk)))
     ·exact .inl (.inr (.inr (.inr (.inl hk))))
     ·simp[Value.ownBlock] at hk;exact .inr (by omega)
  rcases h.own.2 with ⟨hv,hn⟩ | ⟨g,cap,cur,hv,hg0,hgg,hcap,hmax,hcur,htake⟩
  ·exact grow none (by rw[hv,hn]) (fun _=>hn) (fun x hx=>by cases hx)
  ·by_cases hfull:cap=L.sent.length
   ·exact grow (some ⟨g,0,none⟩) (by rw[hv,hfull]) (fun e=>by cases e) (fun x hx=>⟨g,by cases hx;rfl⟩)
   ·have h2:=h.c2;rw[hv] at h2
    have gb:b≠g:=fun e=>h.sb (by rw[hv,e];rfl)
    have gp:L.bp≠g:=fun e=>h.sp (by rw[hv,e];rfl)
    refine(send_room b L.bn L.bp g A.n L.sent.length cap a (fun k=>A.now (a * 8+k)) (sentCells L.sent) cur w h.n8 hlen ha h.c0 h2 h.c3 (h.zb 2) h.bbp (h.zp a) hpl' hl hgg (by omega) hmax hcur htake gb gp).mono ?_
    rintro e w' ⟨rfl,w1,own1,f1,rfl⟩
    have d:=h.push a ha e0 f1 (fun k hk=>by rw[hv,hk];rfl) g cap (.inl (by rw[hv];rfl)) own1 hfew
    refine⟨rfl,_,d,?_,?_⟩
    ·exact(((f1.mono (fun k hk=>.inl (.inr (.inr (.inr (.inr (by rw[hv,hk];rfl))))))).setCell (.inl (.inl rfl)) _).setCell (.inl (.inr (.inr (.inr (.inl rfl))))) _).drew
    ·rintro k (hk | hk | hk | hk | hk)
     ·exact .inl (.inl hk)
     ·exact .inl (.inr (.inl hk))
     ·exact .inl (.inr (.inr (.inl hk)))
     ·exact .inl (.inr (.inr (.inr (.inl hk))))
     ·exact .inl (.inr (.inr (.inr (.inr (by rw[hv];exact hk)))))
 ·have hp:p<L.sent.length:=(List.getElem?_eq_some_iff.1 e2).1
  rw[e1] at hpl
  have hpl':w.cell? ⟨L.bp,a,none⟩=some (.int .i64 (p+1)):=hpl
  have hap:atOf L.sent p=a:=by simp[atOf,e2]
  rcases h.own.2 with ⟨hv,hn⟩ | ⟨g,cap,cur,hv,hg0,hgg,hcap,hmax,hcur,htake⟩
  ·omega
  ·have h2:=h.c2;rw[hv] at h2
   obtain⟨_,hat,hln⟩:=h.sentAt hv
   have gb:g≠b:=fun e=>h.sb (by rw[hv,e];rfl)
   have gn:g≠L.bn:=fun e=>h.sn (by rw[hv,e];rfl)
   have gl:g≠L.bl:=fun e=>h.sl (by rw[hv,e];rfl)
   have gp:g≠L.bp:=fun e=>h.sp (by rw[hv,e];rfl)
   have ho:=h.own;rw[hv] at ho
   refine(send_again b L.bn L.bp g A.n L.sent.length cap a p (fun k=>A.now (a * 8+k)) (lnOf L.sent p) w h.n8 hlen ha hp h.c0 h2 h.c3 hpl' hl (fun k hk=>hln p k hp hk) (fun q=>ho.frozenAt q)).mono ?_
   rintro e w' ⟨rfl,rfl⟩
   have d:=h.resend (w':=set8 w g (p * 9+1) (fun k=>A.now (a * 8+k))) L.sv L.place (L.sent.set p (a,fun k=>A.now (a * 8+k))) (upd A.way a (some fun k=>A.now (a * 8+k)))
    (by rw[set8_size];exact Nat.le_refl _) (fun o ho=>set8_other _ _ _ _ _ (.inl (Ne.symm gb))) ?_ (fun o=>by rw[set8_frozen];exact h.zb o) (set8_heap _ _ _ _ _ (Ne.symm gn)) (set8_heap _ _ _ _ _ (Ne.symm gl))
    (fun q hq=>by rw[set8_other _ _ _ _ _ (.inl (Ne.symm gp))];exact h.plc q hq) (fun o=>by rw[set8_frozen];exact h.zp o) ?_ (fun k hk=>?_) (fun q x y hq=>?_) (fun q hq=>?_) (by simpa using h.few)
   ·refine⟨rfl,_,d.kept ((Fr.refl (fun _=>False) _).drew) (fun k _ hk=>hk),?_,?_⟩
    ·exact(set8_fr _ _ _ _ (Fr.refl _ w) (.inl (.inr (.inr (.inr (.inr (by rw[hv];rfl))))))).drew
    ·exact fun k hk=>.inl hk
   ·rw[set8_other _ _ _ _ _ (.inl (Ne.symm gb))];exact h.c2
   ·rw[hv,List.length_set]
    exact set8_owns ho p a _ hp hap
   ·rw[hv] at hk;simp[Value.ownBlock] at hk;subst hk;exact⟨gb,gn,gl,gp⟩
   ·by_cases hqp:q=p
    ·subst hqp
     rw[List.getElem?_set_self hp] at hq
     simp at hq
     obtain⟨rfl,rfl⟩:=hq
     exact⟨ha,e1,by rw[upd_same]⟩
    ·rw[List.getElem?_set_ne (fun e=>hqp e.symm)] at hq
     have hx:=h.sentOk q x y hq
     have hxa:x≠a:=fun e=>by rw[e,e1] at hx;omega
     rw[upd_other _ _ hxa];exact hx
   ·by_cases e:q=a
    ·subst e;exact .inr ⟨p,_,e1,List.getElem?_set_self hp⟩
    ·rcases h.wayOk q hq with ⟨f1,f2⟩ | ⟨p',l',f1,f2⟩
     ·exact .inl ⟨f1,by rw[upd_other _ _ e];exact f2⟩
     ·refine .inr ⟨p',l',f1,?_⟩
      rw[List.getElem?_set_ne (fun x=>e (by subst x;rw[e2] at f2;simp at f2;exact f2.1.symm))];exact f2
theorem flush_ok {w:World} {b:Nat} {L:Lay} {A:Ab} (h:DevL w b L A) (lv:Live A) (hs1:A.steps+1<4294967296) (j:Nat) (hj:j<A.n * 8) :
  Calls Tryz.prog 168 #[ptr b,.int .i64 j] w fun e w'=>e = .returned (.tuple #[])/\∃L',DevL w' b L' (A.tick.sendLine (j / 8))/\Fr (foot b L) w w'/\∀k,foot b L' k->foot b L k\/w.heap.size<=k:=by
 have H:=mustHave_yes b L.bn A.n j w h.n8 h.c0 (by omega) (by omega)
 have K:=step_ok h lv
 have hn:=h.n8
 have hfw:=h.few
 have HFW:=Hd hfw
 clear hfw h
 go_enter Tryz.func168,Tryz.ntmps168
 go_wp2_with (go_at_call 152;refine H.mono ?_;rintro e w' ⟨rfl,rfl⟩)
 refine K.mono ?_
 rintro e w1 ⟨rfl,h1,f1⟩
 have S:=send_ok h1 (j / 8) (by show j / 8<A.n;omega) hs1 (fun _=>by have:=uh HFW;show _<=A.steps+1;omega)
 have FF:=Hd f1
 have SS:=Hd S
 clear h1 f1 H K S
 go_wp2_with fail
 refine(uh SS).mono ?_
 rintro e w2 ⟨rfl,L',d,f2,s2⟩
 have DD:=Hd d;have F2:=Hd f2;have S2:=Hd s2
 clear d f2 s2 SS
 go_wp2
 go_end0
 refine⟨rfl,L',uh DD,(uh FF).trans (uh F2),fun k hk=>?_⟩
 rcases uh S2 k hk with h | h
 ·exact .inl h
 ·exact .inr (Nat.le_trans (uh FF).size h)
theorem flush_lost {w:World} {b:Nat} {L:Lay} {A:Ab} (h:DevL w b L A) (hd:A.dead=true\/A.fuse=0) (i:Int) (hi0:0<=i) (hi:i<A.n * 8) :
  Calls Tryz.prog 168 #[ptr b,.int .i64 i] w fun e w'=>e = .panicked lost/\DevL w' b L { A with dead:=true }/\Fr (foot b L) w w':=by
 have H:=mustHave_yes b L.bn A.n i w h.n8 h.c0 hi0 hi
 have K:=step_lost h hd
 clear hi hi0 h hd
 go_enter Tryz.func168,Tryz.ntmps168
 go_wp2_with (go_at_call 152;refine H.mono ?_;rintro e w' ⟨rfl,rfl⟩)
 refine K.mono ?_
 rintro e w1 ⟨rfl,h1,f1⟩
 exact⟨rfl,rfl,h1,f1⟩
end Go.Proofs.YtbiopjmpdhcjgaaGreatDoor
