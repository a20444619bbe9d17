/- Joined: Yl Za Zb Ym Yo. -/
import Derived.Test.YtbiopjmpdhcjgaaGreatDoorZ11
import Derived.Test.YtbiopjmpdhcjgaaGreatDoorZ15
import Derived.Test.YtbiopjmpdhcjgaaGreatDoorZ16
namespace Go.Proofs.YtbiopjmpdhcjgaaGreatDoor
open Go.RowKit
set_option maxHeartbeats 4000000
set_option maxRecDepth 100000 in
theorem y_keysOf (K:List ByteArray) (ht i:Nat) (wa:Option Addr) (wc:Nat) (w:World) (hS:Sl w 1 wa (pkW (jk K)).length wc (vals .u64 (pkW (jk K)))) (hl:K.length<=100) (hsz:∀t,t<K.length->1<=kL K t/\kL K t<=80) (hri:∀t,t+1<K.length->ltK (K.getD t default) (K.getD (t+1) default)) (hb:(jk K).length<60000) :
  Calls Tryz.prog 143 #[hdV ht i (jk K).length,.slice wa (pkW (jk K)).length wc] w fun e w'=>∃v,e = .returned v/\w'.ownsRow w.heap.size 9 1 v K.length (K.map Value.string)/\St w w':=by
 have hB:∀t,(jk K).getD t 0<256:=fun t=>joinF_lt (kL K) (kZ K) K.length t (fun i hi=>by have:=hsz i hi;omega) (fun i _ t _=>byF_lt _ _)
 have hjl:(jk K).length=offL (kL K) K.length:=join_len _ _ _ (fun i hi=>by have:=hsz i hi;omega)
 have hjf:joinF (kL K) (kZ K) K.length=fun t=>(jk K).getD t 0:=rfl
 obtain⟨B,hBd⟩:∃B,jk K=B:=⟨_,rfl⟩
 rw[hBd] at hS hb hB hjl hjf ⊢
 have hpl:=pkW_len B
 have hnd:need B.length<=10000:=by unfold need;omega
 have w1:IntKind.u64.wrap (B.length:Int)=B.length:=by rw[IntKind.wrap_u64];omega
 obtain⟨W,hW⟩:∃W,w.alloc (hdO ht i B.length)=W:=⟨_,rfl⟩
 have fW:St w W:=hW▸(Fr.refl _ w).alloc _
 obtain⟨W2,hW2⟩:∃W2,W.alloc (.cells #[.int .u64 (B.length:Nat)] 27)=W2:=⟨_,rfl⟩
 have f2:St W W2:=hW2▸(Fr.refl _ W).alloc _
 have o2:W2.heap[W.heap.size]? = some (.cells #[.int .u64 (B.length:Nat)] 27 (0,0)):=hW2▸heap_alloc_new W _
 have f02:St w W2:=fW.trans' f2 nE
 have S1:Sl W2 1 (some ⟨W.heap.size,0,none⟩) 1 1 (vals .u64 [B.length]):=⟨rfl,Nat.le_refl _,(fun e=>by cases e),vals_one _ _,(fun j u hu=>⟨W.heap.size,0,rfl,by
  rw[Nat.zero_add,cOo o2 j,<-hu]
  simp[vals]⟩),(fun x e=>by cases e;rfl)⟩
 have CC:=cat2_W W2 _ _ _ _ _ _ _ _ S1 (hS.still f02) (by omega)
 have z1:W.heap.size=w.heap.size+1:=by rw[<-hW];simp
 have z2:W2.heap.size=w.heap.size+1+1:=by rw[<-hW2];simp[z1]
 rw[z1] at CC
 rw[show #[Value.slice (some ⟨W2.heap.size,0,none⟩) 2 2]=#[Value.slice (some ⟨w.heap.size+1+1,0,none⟩) 2 2] by rw[z2]] at CC
 have HC:=Hd CC
 have HW:=Hd (ai hW hW2)
 have HF:=Hd f02
 have UB:=@Hd _ (fun(a:Option Addr) (c:Nat) (w':World) (hN:Nats .u64 w' a (need B.length) (packF (fun t=>B.getD t 0) B.length))=>unpack_back a c B w' hN hB (by omega))
 have SP:=@Hd _ (fun(a:Option Addr) (c:Nat) (w':World) (hN:Nats .u8 w' a B.length (fun t=>B.getD t 0)) (hc:B.length<=c)=>split_all a B.length c K.length (kL K) (kZ K) w' (hjf▸hN) hjl hc (by omega) (fun i hi=>by have:=hsz i hi;omega) (by omega))
 clear CC hW hW2 fW f2 o2 f02 S1 hS hjl hjf hB hpl hnd
 unfold hdV
 go_enter Tryz.func143,Tryz.ntmps143
 go_wp2_with fail
 rw[(uh HW).1,(uh HW).2]
 refine(uh HC).mono ?_
 rintro e w3 ⟨v3,rfl,h3,f3⟩
 clear HC HW
 obtain⟨a3,c3,rfl⟩:=rows_form h3
 obtain⟨hq,hN⟩:=pk_nats (B:=B) (by simpa [vals] using h3)
 rw[hq]
 have UB3:=uh UB a3 c3 w3 hN
 clear h3 hN UB
 go_wp2_with fail
 refine UB3.mono ?_
 rintro e w4 ⟨f4,g4,rfl,hN4⟩
 have SP4:=uh SP (some ⟨g4,0,none⟩) B.length w4 hN4 (Nat.le_refl _)
 have f04:St w w4:=((uh HF).trans' f3 nE).trans' f4 nE
 have HF4:=Hd f04
 clear SP UB3 hN4 f3 f4 f04 HF
 go_wp2_with (first | (go_at_call 69;refine(y_must _).mono ?_;rintro e w' ⟨rfl,hh⟩;replace hh:=hh.symm;subst hh) | fail)
 refine SP4.mono ?_
 rintro e w5 ⟨G,pv,rfl,f5,hpv,hG⟩
 obtain⟨pa,pc,rfl⟩:=rows_form hpv
 have f05:St w w5:=(uh HF4).trans' f5 nE
 have hSP:=sl_of_row hpv (fun u hu=>by
  obtain⟨t,_,rfl⟩:=List.mem_map.1 hu
  rfl)
 have HY:=@Hd _ (fun(r:Nat) (hr:r<K.length) (wr:World) (fr:St w5 wr)=>show(∃b o,pa=some ⟨b,o,none⟩/\wr.cell? ⟨b,o+r,none⟩=some (.slice (some ⟨G r,0,none⟩) (kL K r) (kL K r)))/\(convert 89 9 (.slice (some ⟨G r,0,none⟩) (kL K r) (kL K r))).run Tryz.prog wr = .ok (.string (K.getD r default)) wr from by
  obtain⟨b,o,e,c⟩:=hSP.cells r (.slice (some ⟨G r,0,none⟩) (kL K r) (kL K r)) (by simp[ptsV,hr])
  refine⟨⟨b,o,e,fr.cell' c id⟩,?_⟩
  rw[conv_str wr _ _ _ (kZ K r) (((hG r hr).2.2.kept fr id).nats)]
  unfold kZ kL
  rw[strB_byF])
 have HF5:=Hd f05
 clear SP4 hpv hG hSP f5 f05 HF4
 go_wp2_with (first | (go_at_call 69;refine(y_must _).mono ?_;rintro e w' ⟨rfl,hh⟩;replace hh:=hh.symm;subst hh) | fail)
 go_loopw [8,36] (fun v i wr=>∃r:Nat,r<=K.length/\i = .int .i64 r/\wr.ownsRow w5.heap.size 9 1 v r ((K.take r).map Value.string)/\St w5 wr) (fun _ i _=>K.length - (RowKit.intOf i).toNat)
 case atStart=>exact⟨0,by omega,rfl,World.ownsRow_nil _ _ _ _,Fr.refl _ _⟩
 case round=>
  obtain⟨r,hrn,rfl,hrow,fr⟩:=hrel
  by_cases hlt:r<K.length
  ·obtain⟨⟨b,o,rfl,c1⟩,cv⟩:=uh HY r hlt wr fr
   obtain⟨s1,s2⟩:=hsz r hlt
   have hlt':(r:Int)<K.length:=by omega
   obtain⟨x,hx⟩:∃x,K.getD r default=x:=⟨_,rfl⟩
   have hxs:kL K r=x.size:=by unfold kL;rw[hx]
   have hKr:K[r]? = some x:=by
    rw[List.getElem?_eq_getElem hlt,<-hx]
    simp[List.getD,List.getElem?_eq_getElem hlt]
   rw[hxs] at c1 cv s1 s2
   rw[hx] at cv
   have s1':(1:Int)<=x.size:=by omega
   have s2':(x.size:Int)<=80:=by omega
   obtain⟨v',w2,hap,hw2,f2,hloc⟩:=run_val infoT rfl (by decide) Tryz.underlying93 wr w5.heap.size _ r _ hrow (.string x) rfl (by omega) fr.size
   have htk:(K.take (r+1)).map Value.string=(K.take r).map Value.string ++ [.string x]:=by
    rw[List.take_add_one,hKr];simp
   have HX:=Hd (show w2.ownsRow w5.heap.size 9 1 v' (r+1) ((K.take (r+1)).map Value.string)/\St w5 w2 from⟨by rw[htk];exact hw2,fr.trans' f2 (fun k hk=>.inr (hrow.lt k hk).1)⟩)
   have HAP:=Hd hap
   have HCV:=Hd cv
   by_cases hr0:r=0
   ·have e0:((r:Int) == 0)=true:=by simp[hr0]
    clear hap cv hw2 f2 hloc htk HY hrow hsz hri hKr hx hxs hr0
    go_wp2_with fail
    rw[uh HCV]
    go_wp2_with (first | (go_at_call 69;refine(y_must _).mono ?_;rintro e w' ⟨rfl,hh⟩;replace hh:=hh.symm;subst hh) | (at_builtin;refine wpList_append_run rfl (.tmp 65) (.tmp 67) 93 rfl _ _ rfl rfl v' w2 (uh HAP) ?_) | fail)
    obtain⟨hw2,f2⟩:=uh HX
    exact⟨⟨r+1,by omega,by simp,hw2,f2⟩,by simp[RowKit.intOf];omega⟩
   ·have e0:((r:Int) == 0)=false:=by simp[hr0]
    obtain⟨va,vc,rfl⟩:=rows_form hrow
    obtain⟨y,hy⟩:∃y,K.getD (r - 1) default=y:=⟨_,rfl⟩
    have hKy:K[r - 1]? = some y:=by
     rw[List.getElem?_eq_getElem (by omega),<-hy]
     simp[List.getD,List.getElem?_eq_getElem (show r - 1<K.length by omega)]
    obtain⟨b3,o3,rfl,c3'⟩:=(sl_of_row hrow (fun u hu=>by
     obtain⟨t,_,rfl⟩:=List.mem_map.1 hu
     rfl)).cells (r - 1) (.string y) (by rw[List.getElem?_map,List.getElem?_take,if_pos (by omega),hKy];rfl)
    have hyx:Op.bytesLess y.toList x.toList=true:=by
     have:=hri (r - 1) (by omega)
     rw[show r - 1+1=r by omega,hx,hy] at this
     rw[less_eq,decide_eq_true this]
    have em:IntKind.i64.wrap ((r:Int) - 1)=((r - 1:Nat):Int):=by rw[IntKind.wrap_i64];omega
    have em':(r:Int) - 1=((r - 1:Nat):Int):=by omega
    have em2:((r - 1:Nat):Int)<r:=by omega
    clear hap cv hw2 f2 hloc htk HY hrow hsz hri hKr hx hxs hr0 hy hKy
    go_wp2_with fail
    rw[uh HCV]
    go_wp2_with (first | (go_at_call 69;refine(y_must _).mono ?_;rintro e w' ⟨rfl,hh⟩;replace hh:=hh.symm;subst hh) | (at_builtin;refine wpList_append_run rfl (.tmp 65) (.tmp 67) 93 rfl _ _ rfl rfl v' w2 (uh HAP) ?_) | fail)
    obtain⟨hw2,f2⟩:=uh HX
    exact⟨⟨r+1,by omega,by simp,hw2,f2⟩,by simp[RowKit.intOf];omega⟩
  ·have e:r=K.length:=by omega
   subst e
   clear HY
   have hlt':¬(K.length:Int)<K.length:=by omega
   go_wp2_with fail
   go_ret
   exact⟨_,rfl,own_lo (by simpa using hrow) (uh HF5).size,(uh HF5).trans' fr nE⟩
def Blw (l:List Pr) (b:ByteArray):Prop:=∀p∈l,ltK p.1 b
def Nbl (l:List Pr) (b:ByteArray):Prop:=∀p∈l,¬ltK p.1 b
def Rise (l:List Pr):Prop:=l.Pairwise fun p q=>ltK p.1 q.1
def putP (l:List Pr) (x:ByteArray) (v:Nat):List Pr:=match l with
 | []=>[(x,v)]
 | p :: l=>if ltK p.1 x then p :: putP l x v else if p.1=x then (x,v) :: l else (x,v) :: p :: l
theorem putP_left {x:ByteArray} {v:Nat} {M:List Pr}:∀{L:List Pr},Blw L x->putP (L ++ M) x v=L ++ putP M x v
 | [],_=>rfl
 | p :: L,h=>by
  rw[List.cons_append,putP,if_pos (h p (List.mem_cons_self ..)),putP_left (fun q hq=>h q (List.mem_cons_of_mem _ hq)),List.cons_append]
theorem putP_front {x:ByteArray} {v:Nat}:∀{R:List Pr},(∀p∈R,ltK x p.1)->putP R x v=(x,v) :: R
 | [],_=>rfl
 | p :: R,h=>by
  have h1:=h p (List.mem_cons_self ..)
  rw[putP,if_neg (ltK_asym h1),if_neg (fun e=>ltK_irr x (by rw[e] at h1;exact h1))]
theorem putP_right {x:ByteArray} {v:Nat} {R:List Pr} (hR:∀p∈R,ltK x p.1):∀{M:List Pr},putP (M ++ R) x v=putP M x v ++ R
 | []=>by rw[List.nil_append,putP_front hR];rfl
 | p :: M=>by
  rw[List.cons_append,putP,putP]
  split
  ·rw[putP_right hR,List.cons_append]
  ·split <;> rfl
theorem putP_ne (l:List Pr) (x:ByteArray) (v:Nat):putP l x v ≠ []:=by
 cases l with
 | nil=>simp[putP]
 | cons p l=>
  unfold putP
  split
  ·simp
  ·split <;> simp
theorem putP_mem {x:ByteArray} {v:Nat} {q:Pr}:∀{l:List Pr},q∈putP l x v->q=(x,v)\/q∈l
 | [],h=>by simpa [putP] using h
 | p :: l,h=>by
  unfold putP at h
  split at h
  ·rcases List.mem_cons.1 h with h | h
   ·exact .inr (h▸List.mem_cons_self ..)
   ·rcases putP_mem h with h | h
    ·exact .inl h
    ·exact .inr (List.mem_cons_of_mem _ h)
  ·split at h
   ·rcases List.mem_cons.1 h with h | h
    ·exact .inl h
    ·exact .inr (List.mem_cons_of_mem _ h)
   ·rcases List.mem_cons.1 h with h | h
    ·exact .inl h
    ·exact .inr h
theorem putP_rise {x:ByteArray} {v:Nat}:∀{l:List Pr},Rise l->Rise (putP l x v)
 | [],_=>List.pairwise_singleton ..
 | p :: l,h=>by
  obtain⟨h1,h2⟩:=List.pairwise_cons.1 h
  unfold putP
  split
  ·next hp=>
   refine List.pairwise_cons.2 ⟨fun q hq=>?_,putP_rise h2⟩
   rcases putP_mem hq with rfl | hq
   ·exact hp
   ·exact h1 q hq
  ·split
   ·next hp he=>exact List.pairwise_cons.2 ⟨fun q hq=>by rw[<-he];exact h1 q hq,h2⟩
   ·next hp he=>
    have hx:ltK x p.1:=Decidable.byContradiction fun hn=>he (ltK_tri hp hn)
    refine List.pairwise_cons.2 ⟨fun q hq=>?_,h⟩
    rcases List.mem_cons.1 hq with rfl | hq
    ·exact hx
    ·exact ltK_trans hx (h1 q hq)
theorem putP_len (x:ByteArray) (v:Nat):∀l:List Pr,(putP l x v).length<=l.length+1
 | []=>Nat.le_refl _
 | p :: l=>by
  unfold putP
  split
  ·have:=putP_len x v l
   simp;omega
  ·split <;> simp
def Sep:List ByteArray->List (List Pr)->Prop
 | [],[m]=>m ≠ []
 | b :: B,m :: M=>m ≠ []/\Blw m b/\Nbl M.flatten b/\Sep B M
 | _,_=>False
theorem Sep.len:∀{B:List ByteArray} {M:List (List Pr)},Sep B M->M.length=B.length+1
 | [],[_],_=>rfl
 | _ :: B,_ :: M,h=>by simp[Sep.len h.2.2.2]
 | [],[],h=>h.elim
 | [],_ :: _ :: _,h=>h.elim
 | _ :: _,[],h=>h.elim
theorem Sep.some:∀{B:List ByteArray} {M:List (List Pr)},Sep B M->∃p m M',M=m :: M'/\p∈m
 | [],[m],h=>by
  obtain⟨p,hp⟩:=List.exists_mem_of_ne_nil m h
  exact⟨p,m,[],rfl,hp⟩
 | _ :: B,m :: M,h=>by
  obtain⟨p,hp⟩:=List.exists_mem_of_ne_nil m h.1
  exact⟨p,m,M,rfl,hp⟩
 | [],[],h=>h.elim
 | [],_ :: _ :: _,h=>h.elim
 | _ :: _,[],h=>h.elim
theorem Sep.ne:∀{B:List ByteArray} {M:List (List Pr)},Sep B M->∀m∈M,m ≠ []
 | [],[m],h,x,hx=>by
  rcases List.mem_singleton.1 hx with rfl
  exact h
 | _ :: B,m :: M,h,x,hx=>by
  rcases List.mem_cons.1 hx with rfl | hx
  ·exact h.1
  ·exact h.2.2.2.ne x hx
 | [],[],h,_,_=>h.elim
 | [],_ :: _ :: _,h,_,_=>h.elim
 | _ :: _,[],h,_,_=>h.elim
theorem sep_join {b:ByteArray} {B2:List ByteArray} {M2:List (List Pr)} (h2:Sep B2 M2) (hn:Nbl M2.flatten b):∀{B1:List ByteArray} {M1:List (List Pr)},Sep B1 M1->Blw M1.flatten b->Sep (B1 ++ b :: B2) (M1 ++ M2)
 | [],[m],h1,hb=>⟨h1,(fun p hp=>hb p (by simpa using hp)),hn,h2⟩
 | b1 :: B1,m :: M1,h1,hb=>by
  have hb':Blw M1.flatten b:=fun p hp=>hb p (by rw[List.flatten_cons];exact List.mem_append_right _ hp)
  refine⟨h1.1,h1.2.1,fun p hp=>?_,sep_join h2 hn h1.2.2.2 hb'⟩
  replace hp:p∈(M1 ++ M2).flatten:=hp
  rw[List.flatten_append] at hp
  rcases List.mem_append.1 hp with hp | hp
  ·exact h1.2.2.1 p hp
  ·obtain⟨q,m',M',e,hq⟩:=h1.2.2.2.some
   have hq':q∈M1.flatten:=by rw[e,List.flatten_cons];exact List.mem_append_left _ hq
   exact fun hl=>hn p hp (ltK_trans hl (ltK_le_trans (h1.2.2.1 q hq') (hb' q hq')))
 | [],[],h,_=>h.elim
 | [],_ :: _ :: _,h,_=>h.elim
 | _ :: _,[],h,_=>h.elim
theorem sep_split {b:ByteArray} {B2:List ByteArray}:∀{B1:List ByteArray} {M1 M2:List (List Pr)},M1.length=B1.length+1->Sep (B1 ++ b :: B2) (M1 ++ M2)->Sep B1 M1/\Sep B2 M2/\Blw M1.flatten b/\Nbl M2.flatten b
 | [],[m],M2,_,h=>⟨h.1,h.2.2.2,(fun p hp=>h.2.1 p (by simpa using hp)),h.2.2.1⟩
 | b1 :: B1,m :: M1,M2,hl,h=>by
  obtain⟨s1,s2,s3,s4⟩:=sep_split (by simpa using hl) h.2.2.2
  refine⟨⟨h.1,h.2.1,fun p hp=>h.2.2.1 p (show p∈(M1 ++ M2).flatten by rw[List.flatten_append];exact List.mem_append_left _ hp),s1⟩,s2,fun p hp=>?_,s4⟩
  rw[List.flatten_cons] at hp
  rcases List.mem_append.1 hp with hp | hp
  ·obtain⟨q,m',M',e,hq⟩:=s1.some
   have hq':q∈M1.flatten:=by rw[e,List.flatten_cons];exact List.mem_append_left _ hq
   exact ltK_trans (h.2.1 p hp) (ltK_le_trans (h.2.2.1 q (show q∈(M1 ++ M2).flatten by rw[List.flatten_append];exact List.mem_append_left _ hq')) (s3 q hq'))
  ·exact s3 p hp
 | [],[],_,hl,_=>by simp at hl
 | [],_ :: _ :: _,_,hl,_=>by simp at hl
 | _ :: _,[],_,hl,_=>by simp at hl
theorem Sep.rise:∀{B:List ByteArray} {M:List (List Pr)},Sep B M->B.Pairwise ltK
 | [],_,_=>List.Pairwise.nil
 | [b],_,_=>List.pairwise_singleton ..
 | b :: b' :: B,m :: M,h=>by
  have ih:=Sep.rise h.2.2.2
  have hb:ltK b b':=by
   obtain⟨q,m',M',rfl,hq⟩:=h.2.2.2.some
   exact ltK_le_trans (h.2.2.1 q (by rw[List.flatten_cons];exact List.mem_append_left _ hq)) (h.2.2.2.2.1 q hq)
  refine List.pairwise_cons.2 ⟨fun c hc=>?_,ih⟩
  rcases List.mem_cons.1 hc with rfl | hc
  ·exact hb
  ·exact ltK_trans hb ((List.pairwise_cons.1 ih).1 c hc)
 | _ :: _,[],h=>h.elim
structure Way (B:List ByteArray) (x:ByteArray) (i:Nat):Prop where
 le:i<=B.length
 lo:∀t,t<i->¬ltK x (B.getD t default)
 hi:∀t,i<=t->t<B.length->ltK x (B.getD t default)
theorem getD_split {α : Type} (B:List α) (d : α) (i:Nat) (hi:i<B.length):B=B.take i ++ B.getD i d :: B.drop (i+1):=by
 have:B.getD i d=B[i]:=by simp[List.getD,List.getElem?_eq_getElem hi]
 rw[this,List.getElem_cons_drop,List.take_append_drop]
theorem Way.ahead {B:List ByteArray} {x:ByteArray} {i:Nat} {M:List (List Pr)} (w:Way B x i) (h:Sep B M):Blw (M.take i).flatten x:=by
 by_cases h0:i=0
 ·subst h0
  intro p hp
  simp at hp
 ·have hl:=h.len
  have hle:=w.le
  rw[getD_split B default (i - 1) (by omega),<-List.take_append_drop i M] at h
  obtain⟨_,_,s3,_⟩:=sep_split (by simp;omega) h
  exact fun p hp=>ltK_trans_le (s3 p hp) (w.lo (i - 1) (by omega))
theorem Way.behind {B:List ByteArray} {x:ByteArray} {i:Nat} {M:List (List Pr)} (w:Way B x i) (h:Sep B M):∀p∈(M.drop (i+1)).flatten,ltK x p.1:=by
 have hl:=h.len
 by_cases h0:i<B.length
 ·rw[getD_split B default i h0,<-List.take_append_drop (i+1) M] at h
  obtain⟨_,_,_,s4⟩:=sep_split (by simp;omega) h
  exact fun p hp=>ltK_trans_le (w.hi i (Nat.le_refl _) h0) (s4 p hp)
 ·intro p hp
  rw[List.drop_eq_nil_of_le (by omega)] at hp
  simp at hp
theorem putP_way {B:List ByteArray} {x:ByteArray} {v i:Nat} {M:List (List Pr)} (w:Way B x i) (h:Sep B M):putP M.flatten x v=(M.take i).flatten ++ (putP (M.getD i []) x v ++ (M.drop (i+1)).flatten):=by
 have hl:=h.len
 have hle:=w.le
 have hs:=getD_split M [] i (by omega)
 have e:M.flatten=(M.take i).flatten ++ (M.getD i [] ++ (M.drop (i+1)).flatten):=by
  rw[<-List.flatten_cons,<-List.flatten_append,<-hs]
 rw[e,putP_left (w.ahead h),putP_right (w.behind h)]
theorem sep_replace {B:List ByteArray} {i:Nat} {M:List (List Pr)} {B':List ByteArray} {M':List (List Pr)} (h:Sep B M) (hi:i<=B.length) (h':Sep B' M') (hlo:0<i->Nbl M'.flatten (B.getD (i - 1) default)) (hhi:i<B.length->Blw M'.flatten (B.getD i default)):Sep (B.take i ++ (B' ++ B.drop i)) (M.take i ++ (M' ++ M.drop (i+1))):=by
 have hl:=h.len
 have hR:Sep (B' ++ B.drop i) (M' ++ M.drop (i+1))/\(i<B.length->∀p∈(M.drop (i+1)).flatten,¬ltK p.1 (B.getD i default)):=by
  by_cases h0:i<B.length
  ·have h2:=h
   rw[getD_split B default i h0,<-List.take_append_drop (i+1) M] at h2
   obtain⟨_,s2,_,s4⟩:=sep_split (by simp;omega) h2
   refine⟨?_,fun _=>s4⟩
   rw[show B.drop i=B.getD i default :: B.drop (i+1) by
    have:B.getD i default=B[i]:=by simp[List.getD,List.getElem?_eq_getElem h0]
    rw[this,List.getElem_cons_drop]]
   exact sep_join s2 s4 h' (hhi h0)
  ·rw[List.drop_eq_nil_of_le (by omega),List.drop_eq_nil_of_le (by omega),List.append_nil,List.append_nil]
   exact⟨h',fun hh=>absurd hh h0⟩
 by_cases h0:i=0
 ·subst h0
  simpa using hR.1
 ·have h2:=h
  rw[getD_split B default (i - 1) (by omega),<-List.take_append_drop i M] at h2
  obtain⟨s1,_,s3,s4⟩:=sep_split (by simp;omega) h2
  have e1:B.take i=B.take (i - 1) ++ [B.getD (i - 1) default]:=by
   have:B.getD (i - 1) default=B[i - 1]:=by simp[List.getD,List.getElem?_eq_getElem (show i - 1<B.length by omega)]
   rw[this,List.take_append_getElem,show i - 1+1=i by omega]
  rw[e1,List.append_assoc]
  refine sep_join hR.1 (fun p hp=>?_) s1 s3
  rw[List.flatten_append] at hp
  rcases List.mem_append.1 hp with hp | hp
  ·exact hlo (by omega) p hp
  ·refine s4 p ?_
   have:M.drop i=M[i]'(by omega) :: M.drop (i+1):=(List.getElem_cons_drop ..).symm
   rw[this,List.flatten_cons]
   exact List.mem_append_right _ hp
def kb:List ByteArray->Nat
 | []=>0
 | k :: K=>k.size+1+kb K
theorem kb_app:∀(K L:List ByteArray),kb (K ++ L)=kb K+kb L
 | [],L=>by simp[kb]
 | k :: K,L=>by simp[kb,kb_app K L];omega
def Kok (K:List ByteArray):Prop:=∀k∈K,1<=k.size/\k.size<=80
theorem Kok.app {K L:List ByteArray} (h:Kok K) (g:Kok L):Kok (K ++ L):=fun k hk=>(List.mem_append.1 hk).elim (h k) (g k)
theorem Kok.take {K:List ByteArray} (h:Kok K) (i:Nat):Kok (K.take i):=fun k hk=>h k (List.mem_of_mem_take hk)
theorem Kok.drop {K:List ByteArray} (h:Kok K) (i:Nat):Kok (K.drop i):=fun k hk=>h k (List.mem_of_mem_drop hk)
theorem kb_le:∀{K:List ByteArray},Kok K->kb K<=81 * K.length
 | [],_=>by simp[kb]
 | k :: K,h=>by
  have h1:=(h k (List.mem_cons_self ..)).2
  have h2:=kb_le (K:=K) (fun x hx=>h x (List.mem_cons_of_mem _ hx))
  simp[kb];omega
theorem kb_step {K:List ByteArray} (h:Kok K) (i:Nat) (hi:i<K.length):kb (K.take i)<=kb (K.take (i+1))/\kb (K.take (i+1))<=kb (K.take i)+81:=by
 have h1:=(h _ (List.getElem_mem hi)).2
 rw[<-List.take_append_getElem hi,kb_app]
 simp[kb];omega
theorem kb_split (K:List ByteArray) (i:Nat):kb K=kb (K.take i)+kb (K.drop i):=by rw[<-kb_app,List.take_append_drop]
theorem kL_at {K:List ByteArray} (h:Kok K) (i:Nat) (hi:i<K.length):1<=kL K i/\kL K i<=80:=by
 have:=h _ (List.getElem_mem hi)
 unfold kL
 rw[List.getD,List.getElem?_eq_getElem hi]
 exact this
theorem jk_len {K:List ByteArray} (h:Kok K):(jk K).length=kb K:=by
 have g:∀i,i<=K.length->offL (kL K) i=kb (K.take i):=by
  intro i
  induction i with
  | zero=>intro _;simp[offL,kb]
  | succ i ih=>
   intro hi
   have hk:=kL_at h i (by omega)
   have e:kL K i=K[i].size:=by
    unfold kL
    rw[List.getD,List.getElem?_eq_getElem (by omega)]
    rfl
   rw[<-List.take_append_getElem (by omega),kb_app,<-ih (by omega)]
   simp only[offL,kb,ul,e]
   rw[if_pos (by omega)]
   omega
 unfold jk
 rw[join_len _ _ _ (fun i hi=>by have:=kL_at h i hi;omega),g _ (Nat.le_refl _),List.take_length]
theorem jk_lt {K:List ByteArray} (h:Kok K) (t:Nat):(jk K).getD t 0<256:=joinF_lt (kL K) (kZ K) K.length t (fun i hi=>by have:=kL_at h i hi;omega) (fun i _ t _=>byF_lt _ _)
theorem cut_leaf (n:Nat) (c:Nat->Nat) (h0:c 0=0) (hs:∀i,i<n->c i<=c (i+1)/\c (i+1)<=c i+81) (ht:33<=hsz n (c n)) (ht2:hsz n (c n)<=46):∃i,1<=i/\i<n/\hsz i (c i)<=32/\hsz (n - i) (c n - c i)<=32:=by
 have key:∀m,m<=n->33<=hsz m (c m)->∃i,1<=i/\i<m/\hsz i (c i)<=32/\33<=hsz (i+1) (c (i+1)):=by
  intro m
  induction m with
  | zero=>intro _ h;unfold hsz need at h;omega
  | succ m ih=>
   intro hm h
   by_cases hc:33<=hsz m (c m)
   ·obtain⟨i,a1,a2,a3,a4⟩:=ih (by omega) hc
    exact⟨i,a1,by omega,a3,a4⟩
   ·refine⟨m,?_,by omega,by omega,h⟩
    refine Nat.pos_of_ne_zero fun e=>?_
    subst e
    have:=hs 0 (by omega)
    unfold hsz need at h
    omega
 have mono:∀i j,i<=j->j<=n->c i<=c j:=by
  intro i j hij
  induction hij with
  | refl=>intro _;exact Nat.le_refl _
  | @step m hk ih=>
   intro hj
   exact Nat.le_trans (ih (by omega)) (hs m (by omega)).1
 obtain⟨i,a1,a2,a3,a4⟩:=key n (Nat.le_refl _) ht
 refine⟨i,a1,a2,a3,?_⟩
 have:=hs i a2
 have:=mono i n (by omega) (Nat.le_refl _)
 unfold hsz need at *
 omega
theorem cut_branch (n:Nat) (c:Nat->Nat) (h0:c 0=0) (hs:∀i,i+1<n->c i<=c (i+1)/\c (i+1)<=c i+81) (ht:33<=hsz n (c (n - 1))) (ht2:hsz n (c (n - 1))<=46):∃i,2<=i/\i+2<=n/\hsz i (c (i - 1))<=32/\hsz (n - i) (c (n - 1) - c i)<=32:=by
 have mono:∀i j,i<=j->j+1<=n->c i<=c j:=by
  intro i j hij
  induction hij with
  | refl=>intro _;exact Nat.le_refl _
  | @step m hk ih=>
   intro hj
   exact Nat.le_trans (ih (by omega)) (hs m (by omega)).1
 have grow:∀j,j+1<=n->c j<=81 * j:=by
  intro j
  induction j with
  | zero=>intro _;omega
  | succ j ih=>
   intro hj
   have:=(hs j (by omega)).2
   have:=ih (by omega)
   omega
 have hn:4<=n:=by
  refine Nat.le_of_not_lt fun hlt=>?_
  by_cases h:n=0
  ·subst h
   unfold hsz need at ht
   simp[h0] at ht
  ·have:=grow (n - 1) (by omega)
   unfold hsz need at ht
   omega
 have key:∀m,2<=m->m+2<=n->hsz m (c (m - 1))<=32\/∃i,2<=i/\i+2<=n/\hsz i (c (i - 1))<=32/\33<=hsz (i+1) (c i):=by
  intro m h2
  induction h2 with
  | refl=>
   intro _
   refine .inl ?_
   have:=grow 1 (by omega)
   unfold hsz need
   simp
   omega
  | @step m hm ih=>
   intro hle
   rcases ih (by omega) with h | h
   ·by_cases hc:hsz (m+1) (c m)<=32
    ·exact .inl hc
    ·have:2<=m:=hm
     exact .inr ⟨m,hm,by omega,h,by omega⟩
   ·exact .inr h
 rcases key (n - 2) (by omega) (by omega) with h | ⟨i,a1,a2,a3,a4⟩
 ·refine⟨n - 2,by omega,by omega,h,?_⟩
  have:=hs (n - 2) (by omega)
  rw[show n - 2+1=n - 1 by omega] at this
  unfold hsz need
  omega
 ·refine⟨i,a1,a2,a3,?_⟩
  have h1:=hs (i - 1) (by omega)
  rw[show i - 1+1=i by omega] at h1
  have:=mono i (n - 1) (by omega) (by omega)
  unfold hsz need at *
  omega
structure Nd where
 val:List Pr ⊕ (Nat×List ByteArray×List (Nat×Nat))
abbrev Nd.lf (l:List Pr):Nd:=⟨.inl l⟩
abbrev Nd.br (h:Nat) (B:List ByteArray) (ks:List (Nat×Nat)):Nd:=⟨.inr (h,B,ks)⟩
theorem Nd.cs {motive:Nd->Prop} (n:Nd) (lf:∀l,motive (Nd.lf l)) (br:∀h B ks,motive (Nd.br h B ks)):motive n:=by
 obtain⟨l | ⟨h,B,ks⟩⟩:=n
 ·exact lf l
 ·exact br h B ks
def Nd.high:Nd->Nat
 | ⟨.inl _⟩=>1
 | ⟨.inr (h,_,_)⟩=>h
def Nd.keys:Nd->List ByteArray
 | ⟨.inl l⟩=>l.map (·.1)
 | ⟨.inr (_,B,_)⟩=>B
def Nd.items:Nd->List Nat
 | ⟨.inl l⟩=>l.map (·.2)
 | ⟨.inr (_,_,ks)⟩=>ks.map fun k=>itN k.1 k.2
def Nd.pairs:Nd->Nat
 | ⟨.inl l⟩=>l.length
 | ⟨.inr (_,_,ks)⟩=>(ks.map (·.2)).sum
def Nd.size (n:Nd):Nat:=hsz n.items.length (kb n.keys)
def Nd.wds (n:Nd):List Nat:=hwN n.high n.items.length (kb n.keys) :: (n.items ++ pkW (jk n.keys))
theorem Nd.wds_len (n:Nd) (h:Kok n.keys):n.wds.length=n.size:=by
 unfold Nd.wds Nd.size hsz
 rw[List.length_cons,List.length_append,pkW_len,jk_len h]
 unfold need
 omega
def Nd.Form:Nd->Prop
 | ⟨.inl l⟩=>l ≠ []
 | ⟨.inr (h,B,ks)⟩=>2<=h/\ks.length=B.length+1/\2<=ks.length/\∀k∈ks,k.1<4294967296/\k.2<2147483648
theorem Nd.size_pos (n:Nd):1<=n.size:=by unfold Nd.size hsz need;omega
theorem Nd.klen {n:Nd} (h:n.Form):n.keys.length<=n.items.length:=by
 cases n using Nd.cs with
 | lf l=>simp[Nd.keys,Nd.items]
 | br hh B ks=>
  have:=h.2.1
  simp[Nd.keys,Nd.items]
  omega
structure Nd.Ok (n:Nd):Prop where
 kok:Kok n.keys
 rise:n.keys.Pairwise ltK
 h1:1<=n.high
 h16:n.high<=16
 u64:∀x∈n.items,x<18446744073709551616
 form:n.Form
def Sam (nu:Nat) (f g:Nat->Int) (v:Nat):Prop:=ask nu g v=ask nu f v/\∀i,i<ask nu f v->g (fi nu+8 * v+i)=f (fi nu+8 * v+i)
structure Std (nu sz:Nat) (f:Nat->Int) (u:Nat) (n:Nd):Prop where
 ak:ask nu f u=32
 le:n.size<=32
 fit:fi nu+8 * u+32<=sz
 wd:∀i x,n.wds[i]? = some x->f (fi nu+8 * u+i)=(x:Nat)
 ok:n.Ok
theorem Std.same {nu sz:Nat} {f g:Nat->Int} {u:Nat} {n:Nd} (h:Std nu sz f u n) (s:Sam nu f g u):Std nu sz g u n:=
 ⟨s.1.trans h.ak,h.le,h.fit,fun i x hx=>by
  rw[s.2 i (by have h1:=h.le;have h2:=n.wds_len h.ok.kok;have h3:=(List.getElem?_eq_some_iff.1 hx).1;rw[h.ak];omega)]
  exact h.wd i x hx,h.ok⟩
def For (T:Nat->List Pr->List Nat->Prop) (B:List ByteArray) (ks:List (Nat×List Pr×List Nat)) (l:List Pr) (Q:List Nat):Prop:=
 (∀k∈ks,T k.1 k.2.1 k.2.2)/\l=(ks.map (·.2.1)).flatten/\Q=(ks.map (·.2.2)).flatten/\Sep B (ks.map (·.2.1))/\Kok B
def kidN (nu:Nat) (k:Nat×List Pr×List Nat):Nat×Nat:=(fi nu+8 * k.1,k.2.1.length)
def Un (nu:Nat) (T:Nat->List Pr->List Nat->Prop) (h:Nat) (n:Nd) (l:List Pr) (Q:List Nat):Prop:=
 (h=1/\n = .lf l/\l ≠ []/\Q = [])\/(2<=h/\∃(B:List ByteArray) (ks:List (Nat×List Pr×List Nat)),n = .br h B (ks.map (kidN nu))/\For T B ks l Q)
def Tr (nu sz:Nat) (f:Nat->Int):Nat->Nat->List Pr->List Nat->Prop
 | 0,_,_,_=>False
 | h+1,u,l,Q=>∃n Q',Std nu sz f u n/\Un nu (Tr nu sz f h) (h+1) n l Q'/\Q=u :: Q'
theorem Un.mono {nu h:Nat} {T T':Nat->List Pr->List Nat->Prop} {n:Nd} {l:List Pr} {Q:List Nat} (x:Un nu T h n l Q) (hT:∀u m R,T u m R->(∀v∈R,v∈Q)->T' u m R):Un nu T' h n l Q:=by
 rcases x with x | ⟨h2,B,ks,e1,e2,e3,e4,e5,e6⟩
 ·exact .inl x
 ·exact .inr ⟨h2,B,ks,e1,fun k hk=>hT _ _ _ (e2 k hk) (fun v hv=>by
   rw[e4]
   exact List.mem_flatten.2 ⟨k.2.2,List.mem_map.2 ⟨k,hk,rfl⟩,hv⟩),e3,e4,e5,e6⟩
theorem Tr.same {nu sz:Nat} {f g:Nat->Int}:∀{h u:Nat} {l:List Pr} {Q:List Nat},Tr nu sz f h u l Q->(∀v∈Q,Sam nu f g v)->Tr nu sz g h u l Q
 | 0,_,_,_,x,_=>x.elim
 | h+1,u,l,Q,⟨n,Q',s,x,e⟩,hs=>⟨n,Q',s.same (hs u (by rw[e];exact List.mem_cons_self ..)),x.mono (fun u m R t hR=>t.same fun v hv=>hs v (by rw[e];exact List.mem_cons_of_mem _ (hR v hv))),e⟩
theorem Un.ne {nu h:Nat} {T:Nat->List Pr->List Nat->Prop} {n:Nd} {l:List Pr} {Q:List Nat} (x:Un nu T h n l Q):l ≠ []:=by
 rcases x with x | ⟨h2,B,ks,e1,e2,e3,e4,e5,e6⟩
 ·exact x.2.2.1
 ·obtain⟨p,m,M',e,hp⟩:=e5.some
  rw[e3,e]
  intro hh
  have:p∈(m :: M').flatten:=by rw[List.flatten_cons];exact List.mem_append_left _ hp
  rw[hh] at this
  cases this
theorem Tr.ne {nu sz:Nat} {f:Nat->Int} {h u:Nat} {l:List Pr} {Q:List Nat} (x:Tr nu sz f h u l Q):l ≠ []:=by
 cases h with
 | zero=>exact x.elim
 | succ h=>
  obtain⟨n,Q',s,x,e⟩:=x
  exact x.ne
theorem sum_ge {α : Type} (g : α->Nat) (c:Nat):∀(L:List α),(∀a∈L,c<=g a)->c * L.length<=(L.map g).sum
 | [],_=>by simp
 | a :: L,h=>by
  have h1:=h a (List.mem_cons_self ..)
  have h2:=sum_ge g c L (fun x hx=>h x (List.mem_cons_of_mem _ hx))
  simp[Nat.mul_add];omega
theorem Tr.pow {nu sz:Nat} {f:Nat->Int}:∀{h u:Nat} {l:List Pr} {Q:List Nat},Tr nu sz f (h+1) u l Q->2 ^ h<=l.length
 | 0,u,l,Q,x=>by
  exact List.length_pos_iff.2 x.ne
 | h+1,u,l,Q,⟨n,Q',s,x,e⟩=>by
  rcases x with x | ⟨h2,B,ks,e1,e2,e3,e4,e5,e6⟩
  ·omega
  ·have hk:2<=ks.length:=by
    have:=s.ok.form
    rw[e1] at this
    simpa using this.2.2.1
   rw[e3,List.length_flatten,List.map_map]
   have:=sum_ge (fun k:Nat×List Pr×List Nat=>k.2.1.length) (2 ^ h) ks (fun k hk=>(e2 k hk).pow)
   have h3:2 ^ h * 2<=2 ^ h * ks.length:=Nat.mul_le_mul_left _ hk
   rw[Nat.pow_succ]
   exact Nat.le_trans h3 this
theorem sum_le2 {α : Type} (g m : α->Nat):∀(L:List α),(∀a∈L,g a+1<=2 * m a)->(L.map g).sum+L.length<=2 * (L.map m).sum
 | [],_=>by simp
 | a :: L,h=>by
  have h1:=h a (List.mem_cons_self ..)
  have h2:=sum_le2 g m L (fun x hx=>h x (List.mem_cons_of_mem _ hx))
  simp;omega
theorem Tr.few {nu sz:Nat} {f:Nat->Int}:∀{h u:Nat} {l:List Pr} {Q:List Nat},Tr nu sz f h u l Q->Q.length+1<=2 * l.length
 | 0,_,_,_,x=>x.elim
 | h+1,u,l,Q,⟨n,Q',s,x,e⟩=>by
  rcases x with ⟨_,_,x,rfl⟩ | ⟨h2,B,ks,e1,e2,e3,e4,e5,e6⟩
  ·have:=List.length_pos_iff.2 x
   rw[e];simp;omega
  ·have hk:2<=ks.length:=by
    have:=s.ok.form
    rw[e1] at this
    simpa using this.2.2.1
   have:=sum_le2 (fun k:Nat×List Pr×List Nat=>k.2.2.length) (fun k=>k.2.1.length) ks (fun k hk=>(e2 k hk).few)
   rw[e,List.length_cons,e4,e3,List.length_flatten,List.length_flatten,List.map_map,List.map_map]
   simp only[Function.comp_def]
   omega
def kcl:List (Nat×Nat)->List Value
 | []=>[]
 | k :: l=>.int .u64 (k.1:Nat) :: .int .i64 (k.2:Nat) :: kcl l
theorem kcl_len:∀l:List (Nat×Nat),(kcl l).length=l.length * 2
 | []=>rfl
 | _ :: l=>by simp[kcl,kcl_len l];omega
theorem kcl_app:∀(l m:List (Nat×Nat)),kcl (l ++ m)=kcl l ++ kcl m
 | [],_=>rfl
 | p :: l,m=>by simp[kcl,kcl_app l m]
theorem kcl_one:∀{l:List (Nat×Nat)},∀u∈kcl l,u.oneCell'=true
 | [],u,h=>by cases h
 | p :: l,u,h=>by
  rcases List.mem_cons.1 h with rfl | h
  ·rfl
  ·rcases List.mem_cons.1 h with rfl | h
   ·rfl
   ·exact kcl_one u h
theorem kcl_at:∀{l:List (Nat×Nat)} {k:Nat} {p:Nat×Nat},l[k]? = some p->(kcl l)[k * 2]? = some (.int .u64 (p.1:Nat))/\(kcl l)[k * 2+1]? = some (.int .i64 (p.2:Nat))
 | [],_,_,h=>by simp at h
 | q :: l,0,p,h=>by
  cases (Option.some.inj h:q=p)
  exact⟨rfl,rfl⟩
 | q :: l,k+1,p,h=>by
  have:=kcl_at (l:=l) (k:=k) (p:=p) (by simpa using h)
  rw[show(k+1) * 2=k * 2+1+1 by omega]
  exact this
theorem kcl_take:∀(l:List (Nat×Nat)) (k:Nat),(kcl l).take (k * 2)=kcl (l.take k)
 | [],k=>by simp[kcl]
 | p :: l,0=>by simp[kcl]
 | p :: l,k+1=>by
  rw[show(k+1) * 2=k * 2+1+1 by omega]
  simp[kcl,kcl_take l k]
theorem kcl_drop:∀(l:List (Nat×Nat)) (k:Nat),(kcl l).drop (k * 2)=kcl (l.drop k)
 | [],k=>by simp[kcl]
 | p :: l,0=>by simp
 | p :: l,k+1=>by
  rw[show(k+1) * 2=k * 2+1+1 by omega]
  simp[kcl,kcl_drop l k]
abbrev Kds (w:World) (a:Option Addr) (c:Nat) (l:List (Nat×Nat)):Prop:=Sl w 2 a l.length c (kcl l)
abbrev Kys (w:World) (a:Option Addr) (c:Nat) (l:List ByteArray):Prop:=Sl w 1 a l.length c (l.map Value.string)
theorem str_one (l:List ByteArray):∀u∈l.map Value.string,u.oneCell'=true:=fun u hu=>by
 obtain⟨t,_,rfl⟩:=List.mem_map.1 hu
 rfl
theorem Sl.kid {w:World} {a:Option Addr} {c k:Nat} {l:List (Nat×Nat)} {p:Nat×Nat} (h:Kds w a c l) (hp:l[k]? = some p):∃b o,a=some ⟨b,o,none⟩/\w.cell? ⟨b,o+k * 2,none⟩=some (.int .u64 (p.1:Nat))/\w.cell? ⟨b,o+k * 2+1,none⟩=some (.int .i64 (p.2:Nat)):=by
 obtain⟨h1,h2⟩:=kcl_at hp
 obtain⟨b,o,e,c1⟩:=h.cells _ _ h1
 obtain⟨b',o',e',c2⟩:=h.cells _ _ h2
 rw[e] at e'
 cases e'
 exact⟨b,o,e,c1,by rw[<-Nat.add_assoc] at c2;exact c2⟩
abbrev brV (h:Nat) (ba:Option Addr) (bn bc:Nat) (ka:Option Addr) (kn kc:Nat):Value:=.agg #[.int .i64 h,.slice ba bn bc,.slice ka kn kc]
def NdO (F:Nat->Prop) (w:World) (v:Value):Nd->Prop
 | ⟨.inl l⟩=>∃a c,v = .iface 100 (.slice a l.length c)/\Lf w a c l/\∀x,a=some x->F x.block
 | ⟨.inr (h,B,ks)⟩=>∃ba bc ka kc,v = .iface 96 (brV h ba B.length bc ka ks.length kc)/\Kys w ba bc B/\Kds w ka kc ks/\(∀x,ba=some x->F x.block)/\∀x,ka=some x->F x.block
theorem Sl.same {w w':World} {sz n c:Nat} {a:Option Addr} {xs:List Value} (h:Sl w sz a n c xs) (hn:∀x,a=some x->w'.heap[x.block]? = w.heap[x.block]?):Sl w' sz a n c xs:=
 ⟨h.len,h.cap,h.nil,h.one,fun j u hu=>by
  obtain⟨b,o,e,c1⟩:=h.cells j u hu
  exact⟨b,o,e,(show w'.cell? ⟨b,o+j,none⟩=w.cell? ⟨b,o+j,none⟩ from World.cell?_of_block (hn ⟨b,o,none⟩ e)).trans c1⟩,h.flat⟩
theorem NdO.kept {F G:Nat->Prop} {w w':World} {v:Value} {n:Nd} (h:NdO F w v n) (f:∀k,F k->w'.heap[k]? = w.heap[k]?/\G k):NdO G w' v n:=by
 cases n using Nd.cs with
 | lf l=>
  obtain⟨a,c,e,h,hf⟩:=h
  exact⟨a,c,e,h.same fun x hx=>(f _ (hf x hx)).1,fun x hx=>(f _ (hf x hx)).2⟩
 | br h B ks=>
  obtain⟨ba,bc,ka,kc,e,h1,h2,g1,g2⟩:=h
  exact⟨ba,bc,ka,kc,e,h1.same fun x hx=>(f _ (g1 x hx)).1,h2.same fun x hx=>(f _ (g2 x hx)).1,fun x hx=>(f _ (g1 x hx)).2,fun x hx=>(f _ (g2 x hx)).2⟩
theorem NdO.mono {F G:Nat->Prop} {w:World} {v:Value} {n:Nd} (h:NdO F w v n) (f:∀k,F k->G k):NdO G w v n:=h.kept fun k hk=>⟨rfl,f k hk⟩
theorem own_block {w:World} {lo sz n c:Nat} {t:TypeId} {a:Option Addr} {xs:List Value} (h:w.ownsRow lo t sz (.slice a n c) n xs):∀x,a=some x->lo<=x.block/\x.block<w.heap.size:=fun x hx=>h.lt x.block (by rw[hx];rfl)

section
theorem l_pairs (a:Option Addr) (n c:Nat) (w:World):Calls Tryz.prog 236 #[.slice a n c] w fun e w'=>e = .returned (.int .i64 n)/\w'=w:=by
 go_enter Tryz.func236,Tryz.ntmps236
 go_wp2
 go_ret
 exact⟨rfl,rfl⟩
theorem l_least (a:Option Addr) (n c:Nat) (w:World):Calls Tryz.prog 235 #[.slice a n c] w fun e w'=>e = .returned (.int .i64 1)/\w'=w:=by
 go_enter Tryz.func235,Tryz.ntmps235
 go_wp2
 go_ret
 exact⟨rfl,rfl⟩
section
variable (h:Nat) (ba:Option Addr) (bn bc:Nat) (ka:Option Addr) (kn kc:Nat)
theorem b_least (w:World):Calls Tryz.prog 229 #[brV h ba bn bc ka kn kc] w fun e w'=>e = .returned (.int .i64 2)/\St w w':=by
 go_enter Tryz.func229,Tryz.ntmps229
 go_wp2
 go_ret
 exact⟨rfl,by first | exact Fr.refl _ _ | exact(Fr.refl _ w).alloc _⟩
theorem b_height (w:World):Calls Tryz.prog 226 #[brV h ba bn bc ka kn kc] w fun e w'=>e = .returned (.int .i64 h)/\St w w':=by
 go_enter Tryz.func226,Tryz.ntmps226
 go_wp2
 go_ret
 exact⟨rfl,(Fr.refl _ w).alloc _⟩
theorem b_keys (w:World):Calls Tryz.prog 228 #[brV h ba bn bc ka kn kc] w fun e w'=>e = .returned (.slice ba bn bc)/\St w w':=by
 go_enter Tryz.func228,Tryz.ntmps228
 go_wp2
 go_ret
 exact⟨rfl,(Fr.refl _ w).alloc _⟩
end
theorem it_or (a p:Nat) (ha:a<4294967296) (hp:p<2147483648):IntKind.u64.wrap (p:Int)=p/\IntKind.u64.wrap ((p:Int) * 4294967296)=(p:Int) * 4294967296/\bits .or .u64 ((p:Int) * 4294967296) (a:Int)=(itN a p:Nat):=by
 refine⟨by rw[IntKind.wrap_u64];omega,by rw[IntKind.wrap_u64];omega,?_⟩
 rw[show(p:Int) * 4294967296=((p * 4294967296:Nat):Int) by omega,u64_or_nat _ _ (by omega) (by omega)]
 unfold itN
 congr 1
 rw[show p * 4294967296=p <<< 32 by rw[Nat.shiftLeft_eq],Nat.shiftLeft_add_eq_or_of_lt ha]
set_option maxRecDepth 100000 in
theorem b_items (h:Nat) (ba:Option Addr) (bn bc:Nat) (ka:Option Addr) (kc:Nat) (ks:List (Nat×Nat)) (w:World) (hK:Kds w ka kc ks) (hl:ks.length<=500) (hk:∀k∈ks,k.1<4294967296/\k.2<2147483648) :
  Calls Tryz.prog 227 #[brV h ba bn bc ka ks.length kc] w fun e w'=>∃v,e = .returned v/\w'.ownsRow w.heap.size 27 1 v ks.length (vals .u64 (ks.map fun k=>itN k.1 k.2))/\St w w':=by
 obtain⟨W,hW⟩:∃W,w.alloc (.cells #[.int .i64 h,.slice ba bn bc,.slice ka ks.length kc] 96)=W:=⟨_,rfl⟩
 have fW:St w W:=hW▸(Fr.refl _ w).alloc _
 have HW:=Hd hW
 clear hW
 go_enter Tryz.func227,Tryz.ntmps227
 go_wp2_with fail
 rw[uh HW]
 clear HW
 go_loopw [3,9] (fun v i wr=>∃r:Nat,r<=ks.length/\i = .int .i64 r/\wr.ownsRow w.heap.size 27 1 v r (vals .u64 ((ks.take r).map fun k=>itN k.1 k.2))/\St w wr) (fun _ i _=>ks.length - (RowKit.intOf i).toNat)
 case atStart=>exact⟨0,by omega,rfl,World.ownsRow_nil _ _ _ _,fW⟩
 case round=>
  obtain⟨r,hrn,rfl,hrow,fr⟩:=hrel
  by_cases hlt:r<ks.length
  ·obtain⟨p,hp⟩:∃p,ks[r]? = some p:=⟨_,List.getElem?_eq_getElem hlt⟩
   obtain⟨b,o,rfl,c1,c2⟩:=hK.kid hp
   obtain⟨k1,k2⟩:=hk p (List.mem_of_getElem? hp)
   obtain⟨i1,i2,i3⟩:=it_or p.1 p.2 k1 k2
   replace c1:=fr.cell' c1 id
   replace c2:=fr.cell' c2 id
   have hlt':(r:Int)<ks.length:=by omega
   obtain⟨W1,hW1⟩:∃W1,wr.alloc (.cells #[.int .u64 (p.1:Nat),.int .i64 (p.2:Nat)] 123)=W1:=⟨_,rfl⟩
   have f1:St wr W1:=hW1▸(Fr.refl _ wr).alloc _
   obtain⟨v',w2,hap,hw2,f2,hloc⟩:=run_val infoU rfl (by decide) Tryz.underlying141 W1 w.heap.size _ r _ (own_still hrow f1) (.int .u64 (itN p.1 p.2:Nat)) rfl (by omega) (Nat.le_trans fr.size f1.size)
   have ht:vals .u64 ((ks.take (r+1)).map fun k=>itN k.1 k.2)=vals .u64 ((ks.take r).map fun k=>itN k.1 k.2) ++ [.int .u64 (itN p.1 p.2:Nat)]:=by
    rw[List.take_add_one,hp];simp[vals]
   have HX:=Hd (show w2.ownsRow w.heap.size 27 1 v' (r+1) (vals .u64 ((ks.take (r+1)).map fun k=>itN k.1 k.2))/\St w w2 from⟨by rw[ht];exact hw2,(fr.trans' f1 nE).trans' f2 (fun k hk=>.inr (hrow.lt k hk).1)⟩)
   rw[show W1.heap.size=wr.heap.size+1 by rw[<-hW1];simp] at hap
   have HAP:=Hd hap
   have HW1:=Hd hW1
   clear hK hap hw2 hloc f2 hrow ht f1 hW1 hk
   generalize itN p.1 p.2=iv at *
   go_wp2_with (first | (at_builtin;rw[uh HW1];refine wpList_append_run rfl (.tmp 13) (.tmp 21) 141 rfl _ _ rfl rfl v' w2 (uh HAP) ?_) | fail)
   obtain⟨hw2,f2⟩:=uh HX
   exact⟨⟨r+1,by omega,by simp,hw2,f2⟩,by simp[RowKit.intOf];omega⟩
  ·have e:r=ks.length:=by omega
   subst e
   clear hK hk
   have hlt':¬(ks.length:Int)<ks.length:=by omega
   go_wp2_with fail
   go_ret
   exact⟨_,rfl,by simpa using hrow,fr⟩
set_option maxRecDepth 100000 in
theorem b_pairs (h:Nat) (ba:Option Addr) (bn bc:Nat) (ka:Option Addr) (kc:Nat) (ks:List (Nat×Nat)) (w:World) (hK:Kds w ka kc ks) (hl:ks.length<=500) (hs:(ks.map (·.2)).sum<1000000) :
  Calls Tryz.prog 230 #[brV h ba bn bc ka ks.length kc] w fun e w'=>e = .returned (.int .i64 ((ks.map (·.2)).sum:Nat))/\St w w':=by
 obtain⟨W,hW⟩:∃W,w.alloc (.cells #[.int .i64 h,.slice ba bn bc,.slice ka ks.length kc] 96)=W:=⟨_,rfl⟩
 have fW:St w W:=hW▸(Fr.refl _ w).alloc _
 have HW:=Hd hW
 clear hW
 go_enter Tryz.func230,Tryz.ntmps230
 go_wp2_with fail
 rw[uh HW]
 clear HW
 go_loopw [3,9] (fun v i wr=>∃r:Nat,r<=ks.length/\i = .int .i64 r/\v = .int .i64 (((ks.take r).map (·.2)).sum:Nat)/\St w wr) (fun _ i _=>ks.length - (RowKit.intOf i).toNat)
 case atStart=>exact⟨0,by omega,rfl,rfl,fW⟩
 case round=>
  obtain⟨r,hrn,rfl,rfl,fr⟩:=hrel
  by_cases hlt:r<ks.length
  ·obtain⟨p,hp⟩:∃p,ks[r]? = some p:=⟨_,List.getElem?_eq_getElem hlt⟩
   obtain⟨b,o,rfl,c1,c2⟩:=hK.kid hp
   replace c1:=fr.cell' c1 id
   replace c2:=fr.cell' c2 id
   have hlt':(r:Int)<ks.length:=by omega
   have ht:((ks.take (r+1)).map (·.2)).sum=((ks.take r).map (·.2)).sum+p.2:=by
    rw[List.take_add_one,hp];simp
   have hle:((ks.take (r+1)).map (·.2)).sum<=(ks.map (·.2)).sum:=by
    conv=>rhs;rw[<-List.take_append_drop (r+1) ks,List.map_append,List.sum_append]
    omega
   have hw:IntKind.i64.wrap ((((ks.take r).map (·.2)).sum:Nat)+(p.2:Int))=(((ks.take r).map (·.2)).sum:Nat)+(p.2:Int):=(wrap_small _ (by omega) (by omega)).1
   have HG2:=Hd ht
   clear hK ht hle
   generalize ((ks.take r).map (·.2)).sum=s0 at *
   go_wp2_with fail
   exact⟨⟨r+1,by omega,by simp,by rw[show((ks.take (r+1)).map (·.2)).sum=s0+p.2 from uh HG2];simp,fr.alloc _⟩,by simp[RowKit.intOf];omega⟩
  ·have e:r=ks.length:=by omega
   subst e
   clear hK
   have hlt':¬(ks.length:Int)<ks.length:=by omega
   go_wp2_with fail
   go_ret
   exact⟨by simp,fr⟩
end
end Go.Proofs.YtbiopjmpdhcjgaaGreatDoor
