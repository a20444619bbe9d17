/- Joined: RdD Comm. -/
import Derived.Test.YtbiopjmpdhcjgaaGreatDoorZ07
import Derived.Test.YtbiopjmpdhcjgaaGreatDoorZ08
namespace Go.Proofs.YtbiopjmpdhcjgaaGreatDoor
open Go.RowKit
set_option maxHeartbeats 4000000

section
section
variable {w:World} {b:Nat} {L:Lay} {N:Nat} {free:Prop} {A:Ab} {s:Int} {f:Nat->Int}
abbrev logObj (b at_ ws:Nat):Obj:=.cells #[ptr b,.int .i64 at_,.int .i64 ws] 177
theorem log_new (w:World) (b at_ ws:Nat):LogAt (w.alloc (logObj b at_ ws)) w.heap.size b at_ ws:=
 ⟨cell_of_row _ _ _ _ _ _ (heap_alloc_new w _),cell_of_row _ _ _ _ _ _ (heap_alloc_new w _),cell_of_row _ _ _ _ _ _ (heap_alloc_new w _)⟩
theorem open_fresh (d:DevL w b L A) (hd:A.dead=false) (at_ ws:Nat) (h8:at_ % 8=0) (h16:16<=ws) (hw:at_+ws<=A.n * 8) (h0:A.now at_=0) :
  Calls Tryz.prog 119 #[ptr b,.int .i64 at_,.int .i64 ws] w fun e w'=>e = .returned (.tuple #[ptr w.heap.size,.int .i64 0])/\w'=w.alloc (logObj b at_ ws):=by
 have H:=words_any b L.bn A.n w d.n8 d.c0
 have f1:Fr (fun _=>False) w (w.alloc (logObj b at_ ws)):=(Fr.refl _ w).alloc _
 have K:=load_ok (d.keptF f1) hd at_ (by omega)
 rw[h0] at K
 have n8:=d.n8
 have e8:((at_:Int) % 8 != 0)=false:=by simp;omega
 have bz:=b_zero
 have HK:=Hd K
 clear d hd h0 K f1
 go_enter Tryz.func119,Tryz.ntmps119
 go_wp2_with (go_at_call 117;refine H.mono ?_;rintro e w' ⟨rfl,rfl⟩)
 refine(uh HK).mono ?_
 rintro e w1 ⟨rfl,rfl⟩
 clear HK H
 go_wp2
 go_ret2
 exact⟨rfl,rfl⟩
structure Sealed (N at_:Nat) (f:Nat->Int) (xs:List (Int×Int)):Prop where
 ne:xs ≠ []
 mark:f at_=marked xs.length
 ent:∀i,i<2 * xs.length->f (at_+8+i)=ent xs i
 out:∀x∈xs,outside N at_ x.1 (at_+8+2 * xs.length)
 fit:at_+8+2 * xs.length<=N * 8
def HomeTorn (N at_:Nat) (A:Ab) (s:Int) (f:Nat->Int) (xs:List (Int×Int)):Prop:=
 ∃f' g,((f'=f/\∀j,g j=f j\/g j=homed xs.reverse f j)\/(f'=homed xs.reverse f/\(g=f'\/g=upd f' at_ 0)))/\Torn N A s f' g
theorem open_sealed (d:DevL w b L A) (h:Calm N free A s f) (hN:N<=8192) (at_ ws:Nat) (h8:at_ % 8=0) (h16:16<=ws) (hw:at_+ws<=N * 8) (xs:List (Int×Int)) (sl:Sealed N at_ f xs) (hs:s+2 * xs.length+4<4294967296) :
  Calls Tryz.prog 119 #[ptr b,.int .i64 at_,.int .i64 ws] w fun e w'=>
   (e = .returned (.tuple #[ptr w.heap.size,.int .i64 0])/\LogAt w' w.heap.size b at_ ws/\∃L' A',On w b L w' L' A'/\¬foot b L' w.heap.size/\Calm N free A' (s+2 * xs.length+4) (upd (homed xs.reverse f) at_ 0))\/
   (e = .panicked lost/\DM w b L w' fun A'=>¬free/\HomeTorn N at_ A' (s+2 * xs.length+4) f xs):=by
 have hlen:xs.length<4294967296:=by have:=sl.fit;omega
 have hfit:=sl.fit
 have H:=words_any b L.bn A.n w d.n8 d.c0
 have f1:Fr (fun _=>False) w (w.alloc (logObj b at_ ws)):=(Fr.refl _ w).alloc _
 have d1:=d.keptF f1
 have nf1:¬foot b L w.heap.size:=fun hf=>by have:=d.lt _ hf;omega
 have K:=d_load d1 h at_ (by omega)
 rw[sl.mark] at K
 have hAn:=h.n
 have SND:=sound_ok d1 h.dead (log_new w b at_ ws) xs.length (by rw[hAn];exact hfit) (fun k hk=>by
  obtain⟨x,hx⟩:∃x,xs[k]? = some x:=⟨_,List.getElem?_eq_getElem hk⟩
  have ho:=sl.out x (List.mem_of_getElem? hx)
  rw[h.now,sl.ent (2 * k) (by omega),ent_word hx,hAn]
  have:wrap64 x.1=x.1:=by have:=ho.1;have:=ho.2.1;unfold wrap64;omega
  rw[this];exact ho)
 have BR:∀w2,Fr (fun _=>False) (w.alloc (logObj b at_ ws)) w2->Calls Tryz.prog 132 #[ptr w.heap.size,.int .i64 xs.length] w2 (Ends w2 b L _ _):=fun w2 f2=>
  bring_dev (d1.keptF f2) ((log_new w b at_ ws).kept f2 (fun h=>h)) nf1 h xs sl.ne sl.ent sl.out hfit hN hs
 have e8:((at_:Int) % 8 != 0)=false:=by simp;omega
 have n8:=d.n8
 rw[<-hAn] at hw
 have ba:=b_and xs.length hlen
 have bh:=b_high xs.length hlen
 have wn:IntKind.i64.wrap (xs.length:Int)=xs.length:=(wrap_small _ (by omega) (by omega)).1
 have HK:=Hd K;have HS:=Hd SND;have HB:=Hd BR;have HF1:=Hd f1;have HD1:=Hd d1;have HNF:=Hd nf1;have HD:=Hd d
 clear K SND BR f1 d1 nf1 sl h hAn d
 generalize hmk:marked xs.length=mk at *
 have HMK:=Hd hmk
 clear hmk
 go_enter Tryz.func119,Tryz.ntmps119
 go_wp2_with (go_at_call 117;refine H.mono ?_;rintro e w' ⟨rfl,hh⟩;replace hh:=hh.symm;subst hh)
 refine(uh HK).mono ?_
 rintro e w1 ⟨rfl,rfl⟩
 clear HK H
 go_wp2_with fail
 refine(uh HS).mono ?_
 rintro e w2 ⟨rfl,f2⟩
 have B2:=uh HB w2 f2
 have HB2:=Hd B2;have HF2:=Hd f2
 clear B2 f2 HB HS
 go_wp2_with fail
 refine(uh HB2).mono ?_
 clear HB2
 rintro e w3 (⟨rfl,D⟩ | ⟨rfl,D⟩)
 rotate_left
 ·exact⟨rfl,.inr ⟨rfl,(D.after ((uh HF1).trans (uh HF2))).mono fun A' t=>t⟩⟩
 obtain⟨L3,A3,o3,c3⟩:=D.on
 have HO3:=Hd o3;have HC3:=Hd c3
 clear D o3 c3
 go_wp2
 go_ret2
 have o3:=uh HO3
 have f2:=uh HF2
 refine .inl ⟨rfl,((log_new w b at_ ws).kept f2 (fun h=>h)).kept o3.fr (uh HNF),L3,A3,(On.start (uh HD)).quiet ((uh HF1).trans f2) |>.trans o3,fun hf=>?_,uh HC3⟩
 rcases o3.sub _ hf with e | e
 ·exact uh HNF e
 ·have:=f2.size
  have:w.heap.size+1<=w2.heap.size:=by simpa using this
  omega
end
structure Clean (at_ ws:Nat) (base f:Nat->Int):Prop where
 mark:f at_=0
 out:∀j,(j<at_\/at_+ws<=j)->f j=base j
structure Half (N at_ ws:Nat) (base:Nat->Int) (xs:List (Int×Int)) (f:Nat->Int):Prop where
 whole:Sealed N at_ f xs
 out:∀j,(j<at_\/at_+ws<=j)->f j=base j\/f j=homed xs.reverse base j
def Poss (A:Ab) (h:Nat->Int):Prop:=∀j,h j=A.now j\/h j=A.lasts j
structure Takes (N at_ ws:Nat) (xs:List (Int×Int)):Prop where
 ne:xs ≠ []
 out:∀x∈xs,outside N at_ x.1 (at_+ws)
 fit:16+2 * xs.length<=ws
 dev:at_+ws<=N * 8
section
variable {N at_ ws:Nat} {base f g h:Nat->Int} {xs:List (Int×Int)}
theorem Sealed.still (s:Sealed N at_ f xs) {j:Nat} (h1:at_<=j) (h2:j<at_+8+2 * xs.length) (k:Nat->Int):homed xs.reverse k j=k j:=
 homed_other (fun y hy e=>by
  have ho:=s.out y (List.mem_reverse.1 hy)
  rw[e] at ho
  obtain⟨_,_,h3⟩:=ho
  omega) k
theorem Half.out' (s:Half N at_ ws base xs f) (j:Nat) (hj:j<at_\/at_+ws<=j):homed xs.reverse f j=homed xs.reverse base j:=homed_again _ _ _ _ (s.out j hj)
theorem Half.done (s:Half N at_ ws base xs f) (hws:0<ws):Clean at_ ws (homed xs.reverse base) (upd (homed xs.reverse f) at_ 0):=
 ⟨upd_same _ _ _,fun j hj=>by rw[upd_other _ _ (by omega)];exact s.out' j hj⟩
theorem Half.same (s:Half N at_ ws base xs f) (hl:∀j,at_<=j->j<at_+8+2 * xs.length->h j=f j) (ho:∀j,(j<at_\/at_+ws<=j)->h j=base j\/h j=homed xs.reverse base j):Half N at_ ws base xs h:=
 ⟨{ s.whole with mark:=by rw[hl at_ (Nat.le_refl _) (by omega)];exact s.whole.mark,ent:=fun i hi=>by rw[hl _ (by omega) (by omega)];exact s.whole.ent i hi },ho⟩
theorem Half.torn (s:Half N at_ ws base xs f) (hws:0<ws) {A:Ab} {st:Int} (t:HomeTorn N at_ A st f xs):∀h,Poss A h->Half N at_ ws base xs h\/Clean at_ ws (homed xs.reverse base) h:=by
 intro h hp
 obtain⟨f',g,hc,ht⟩:=t
 have hp':∀j,h j=g j\/h j=f' j:=fun j=>by have:=hp j;rwa [ht.now,ht.lasts] at this
 rcases hc with ⟨rfl,hg⟩ | ⟨rfl,hg⟩
 ·refine .inl (s.same (fun j h1 h2=>?_) (fun j hj=>?_))
  ·have:=s.whole.still h1 h2 f'
   rcases hp' j with e | e
   ·rcases hg j with e2 | e2
    ·rw[e,e2]
    ·rw[e,e2,this]
   ·exact e
  ·have hj':h j=f' j\/h j=homed xs.reverse f' j:=by
    rcases hp' j with e | e
    ·rcases hg j with e2 | e2
     ·exact .inl (e.trans e2)
     ·exact .inr (e.trans e2)
    ·exact .inl e
   rcases hj' with e | e
   ·rw[e];exact s.out j hj
   ·rw[e,s.out' j hj];exact .inr rfl
 ·have other:∀j,j≠at_->h j=homed xs.reverse f j:=fun j hj=>by
   rcases hp' j with e | e
   ·rcases hg with rfl | rfl
    ·exact e
    ·rw[e,upd_other _ _ hj]
   ·exact e
  have own:h at_=f at_\/h at_=0:=by
   have:=s.whole.still (Nat.le_refl at_) (by omega) f
   rcases hp' at_ with e | e
   ·rcases hg with rfl | rfl
    ·left;rw[e,this]
    ·right;rw[e,upd_same]
   ·left;rw[e,this]
  rcases own with e | e
  ·refine .inl (s.same (fun j h1 h2=>?_) (fun j hj=>.inr ?_))
   ·by_cases hj:j=at_
    ·subst hj;exact e
    ·rw[other j hj,s.whole.still h1 h2 f]
   ·rw[other j (by omega),s.out' j hj]
  ·exact .inr ⟨e,fun j hj=>by rw[other j (by omega),s.out' j hj]⟩
theorem Takes.outside (t:Takes N at_ ws xs):∀x∈xs,outside N at_ x.1 (at_+8+2 * xs.length):=fun x hx=>by
 obtain⟨h1,h2,h3⟩:=t.out x hx
 have:=t.fit
 exact⟨h1,h2,by omega⟩
theorem Clean.half (c:Clean at_ ws base f) (t:Takes N at_ ws xs):Half N at_ ws base xs (upd (noted at_ xs f (2 * xs.length)) at_ (marked xs.length)):=by
 have hfit:=t.fit
 refine⟨⟨t.ne,upd_same _ _ _,fun i hi=>?_,t.outside,by have:=t.dev;omega⟩,fun j hj=>.inl ?_⟩
 ·rw[upd_other _ _ (by omega)];unfold noted;rw[if_pos (by omega),show at_+8+i - (at_+8)=i by omega]
 ·rw[upd_other _ _ (by omega)];unfold noted;rw[if_neg (by omega)];exact c.out j hj
theorem Clean.noteTorn (c:Clean at_ ws base f) (hfit:16+2 * xs.length<=ws) {A:Ab} {st:Int} (hg:∀j,(j<at_+8\/at_+8+2 * xs.length<=j)->g j=f j) (ht:Torn N A st f g):∀h,Poss A h->Clean at_ ws base h:=by
 intro h hp
 have hp':∀j,(j<at_+8\/at_+8+2 * xs.length<=j)->h j=f j:=fun j hj=>by
  have:=hp j
  rw[ht.now,ht.lasts,hg j hj] at this
  exact this.elim id id
 exact⟨(hp' at_ (by omega)).trans c.mark,fun j hj=>(hp' j (by omega)).trans (c.out j hj)⟩
theorem Clean.markTorn (c:Clean at_ ws base f) (t:Takes N at_ ws xs) {A:Ab} {st:Int} (hg:g=noted at_ xs f (2 * xs.length)\/g=upd (noted at_ xs f (2 * xs.length)) at_ (marked xs.length)) (ht:Torn N A st (noted at_ xs f (2 * xs.length)) g) :
  ∀h,Poss A h->Clean at_ ws base h\/Half N at_ ws base xs h:=by
 intro h hp
 have hfit:=t.fit
 have hp':∀j,h j=g j\/h j=noted at_ xs f (2 * xs.length) j:=fun j=>by have:=hp j;rwa [ht.now,ht.lasts] at this
 have other:∀j,j≠at_->h j=noted at_ xs f (2 * xs.length) j:=fun j hj=>by
  rcases hp' j with e | e
  ·rcases hg with rfl | rfl
   ·exact e
   ·rw[e,upd_other _ _ hj]
  ·exact e
 have n0:noted at_ xs f (2 * xs.length) at_=0:=by unfold noted;rw[if_neg (by omega)];exact c.mark
 have own:h at_=0\/h at_=marked xs.length:=by
  rcases hp' at_ with e | e
  ·rcases hg with rfl | rfl
   ·left;rw[e,n0]
   ·right;rw[e,upd_same]
  ·left;rw[e,n0]
 have out:∀j,(j<at_\/at_+ws<=j)->h j=base j:=fun j hj=>by
  rw[other j (by omega)];unfold noted;rw[if_neg (by omega)];exact c.out j hj
 rcases own with e | e
 ·exact .inl ⟨e,out⟩
 ·refine .inr ((c.half t).same (fun j h1 h2=>?_) (fun j hj=>.inl (out j hj)))
  by_cases hj:j=at_
  ·subst hj;rw[e,upd_same]
  ·rw[other j hj,upd_other _ _ hj]
end
def LogTorn (N at_ ws:Nat) (base:Nat->Int) (xs:List (Int×Int)) (st:Int) (A:Ab):Prop:=
 A.n=N/\A.steps<=st/\∀h,Poss A h->Clean at_ ws base h\/Half N at_ ws base xs h\/Clean at_ ws (homed xs.reverse base) h
section
variable {w:World} {b:Nat} {L:Lay} {N:Nat} {free:Prop} {A:Ab} {s:Int} {f base:Nat->Int} {lg at_ ws:Nat}
theorem commit_ok (d:DevL w b L A) (hl:LogAt w lg b at_ ws) (hlg:¬foot b L lg) (h:Calm N free A s f) (hc:Clean at_ ws base f) (xb xo cap:Nat) (xs:List (Int×Int)) (hx:WrAt w xb xo xs) (hxb:¬foot b L xb)
  (ht:Takes N at_ ws xs) (h8:at_ % 8=0) (hN:N<=8192) (hs:s+5 * xs.length+9<4294967296) :
  Calls Tryz.prog 84 #[ptr lg,.slice (some ⟨xb,xo,none⟩) xs.length cap] w fun e w'=>
   (e = .returned (.int .i64 0)/\DM w b L w' fun A'=>∃f',Calm N free A' (s+5 * xs.length+9) f'/\Clean at_ ws (homed xs.reverse base) f')\/
   (e = .panicked lost/\DM w b L w' fun A'=>¬free/\LogTorn N at_ ws base xs (s+5 * xs.length+9) A'):=by
 have hfit:=ht.fit
 have hdev:=ht.dev
 have hpos:0<xs.length:=List.length_pos_iff.2 ht.ne
 have MO:∀w2,Fr (fun _=>False) w w2->Calls Tryz.prog 129 #[ptr lg] w2 fun e w'=>e = .returned (.int .i64 (((ws - 16) / 2:Nat):Int))/\w'=w2:=fun w2 f2=>most_ok (hl.kept f2 (fun h=>h)) (by omega) (by omega)
 have NO:∀w2,Fr (fun _=>False) w w2->Calls Tryz.prog 130 #[ptr lg,.slice (some ⟨xb,xo,none⟩) xs.length cap] w2 (Ends w2 b L _ _):=fun w2 f2=>
  note_ok (On.start (d.keptF f2)) (hl.kept f2 (fun h=>h)) hlg h xb xo cap xs (hx.kept f2 (fun h=>h)) hxb (fun x hx=>⟨(ht.out x hx).1,(ht.out x hx).2.1⟩) h8 (by omega) hN (by omega)
 have HD:=Hd d;have HL:=Hd hl;have HG:=Hd hlg;have HC:=Hd h;have HCL:=Hd hc;have HX:=Hd hx;have HXB:=Hd hxb;have HT:=Hd ht;have HMO:=Hd MO;have HNO:=Hd NO
 have bo:=b_or xs.length (by omega)
 have wn:IntKind.u64.wrap (xs.length:Int)=xs.length:=(wrap_small _ (by omega) (by omega)).2
 generalize hmk:marked xs.length=mk at *
 have HMK:=Hd hmk
 clear d hl hlg h hc hx hxb ht MO NO hmk
 generalize hlen:xs.length=len at *
 have HLEN:=Hd hlen
 clear hlen
 go_enter Tryz.func84,Tryz.ntmps84
 go_wp2
 go_loopw [9] (fun i wr=>∃k:Nat,k<=len/\i = .int .i64 k/\Fr (fun _=>False) w wr) (fun i wr=>len - (intOf i).toNat)
 case atStart=>exact⟨0,Nat.zero_le _,rfl,Fr.refl _ _⟩
 case round=>
  obtain⟨k,hk,rfl,fk⟩:=hrel
  by_cases hlt:k<len
  ·obtain⟨x,hxk⟩:∃x,xs[k]? = some x:=⟨_,List.getElem?_eq_getElem (by rw[uh HLEN];exact hlt)⟩
   have ho:=(uh HT).out x (List.mem_of_getElem? hxk)
   obtain⟨cw,cv⟩:=(uh HX).kept fk (fun h=>h) k x hxk
   have HFK:=Hd fk;have HOU:=Hd ho
   clear fk hxk ho
   go_wp2
   obtain⟨W1,hW1⟩:∃W1,wr.alloc (.cells #[.int .i64 x.1,.int .u64 x.2] 161)=W1:=⟨_,rfl⟩
   have f1:Fr (fun _=>False) w W1:=hW1▸(uh HFK).alloc _
   have x0:W1.cell? ⟨wr.heap.size,0,none⟩=some (.int .i64 x.1):=by rw[<-hW1];exact cell_of_row _ _ _ _ _ _ (heap_alloc_new wr _)
   rw[hW1]
   generalize wr.heap.size=bx at *
   have l1:=(uh HL).kept f1 (fun h=>h)
   have d1:=(uh HD).keptF f1
   have c1:=l1.c1
   have c2:=l1.c2
   have hn:=(uh HC).n
   have d0:=d1.c0
   rw[hn] at d0
   have HF1:=Hd f1;have HL1:=Hd l1;have HD0:=Hd d0
   clear hW1 f1 l1 d1 cw cv HFK hn d0
   refine region_tailP 13 (by kernel_rfl) (by kernel_rfl) ?_
   simp only[List.take_succ_cons,List.take_zero,List.drop_succ_cons,List.drop_zero]
   repeat (go_big_quiet_step (first | (go_at_call 128;exact Calls.quiet_of_same (outside_yes ((uh HL1).drewN _) hN (uh HD0) _ _ (uh HOU)))))
   refine wpQuiet_nil ?_
   rintro _ ⟨nq,rfl⟩
   clear c1 c2 x0
   go_wp2
   exact⟨⟨k+1,by omega,by go_num,(uh HF1).drewN _⟩,by simp[intOf];omega⟩
  ·obtain rfl:k=len:=by omega
   have M1:=uh HMO wr fk
   have N1:=uh HNO wr fk
   have HM1:=Hd M1;have HN1:=Hd N1;have HFK:=Hd fk
   have hm:k<=(ws - 16) / 2:=by omega
   have hk0:((k:Int) == 0)=false:=by simp;omega
   clear fk M1 N1 HMO HNO HX HXB
   go_wp2_with (go_at_call 129;refine(uh HM1).mono ?_;rintro e w' ⟨rfl,hh⟩;replace hh:=hh.symm;subst hh)
   refine(uh HN1).mono ?_
   clear HN1 HM1
   rintro e w1 (⟨rfl,D⟩ | ⟨rfl,D⟩)
   rotate_left
   ·refine⟨rfl,.inr ⟨rfl,(D.after (uh HFK)).mono fun A' t=>?_⟩⟩
    obtain⟨t1,g,t2,t3⟩:=t
    have hl:=uh HLEN
    exact⟨t1,t3.n,Int.le_trans t3.st (by omega),fun h hp=>.inl ((uh HCL).noteTorn (xs:=xs) (by omega) (by rw[hl];exact t2) t3 h hp)⟩
   obtain⟨L1,A1,o1,c1⟩:=D.on
   have lr:=(uh HL).kept (uh HFK) (fun h=>h)
   have M2:=mark_ok o1 lr (uh HG) c1 (by omega) (by omega) mk
   have HM2:=Hd M2;have HLR:=Hd lr
   clear D o1 c1 M2 lr
   go_wp2_with fail
   refine(uh HM2).mono ?_
   clear HM2
   rintro e w2 (⟨rfl,D⟩ | ⟨rfl,D⟩)
   rotate_left
   ·refine⟨rfl,.inr ⟨rfl,(D.after (uh HFK)).mono fun A' t=>?_⟩⟩
    obtain⟨t1,g,t2,t3⟩:=t
    have hl:=uh HLEN
    have hm:=uh HMK
    rw[<-hm,<-hl] at t2
    rw[<-hl] at t3
    refine⟨t1,t3.n,Int.le_trans t3.st (by omega),fun h hp=>?_⟩
    rcases (uh HCL).markTorn (uh HT) t2 t3 h hp with e | e
    ·exact .inl e
    ·exact .inr (.inl e)
   obtain⟨L2,A2,o2,c2⟩:=D.on
   have hl:=uh HLEN
   have hm:=uh HMK
   have hf:=(uh HCL).half (uh HT)
   rw[<-hm,<-hl] at c2
   have lgw:lg<wr.heap.size:=World.block_lt_of_cell? _ _ (uh HLR).c0
   have B2:=bring_dev o2.d (o2.log (uh HLR) (uh HG)) (o2.other lgw (uh HG)) c2 xs (uh HT).ne hf.whole.ent hf.whole.out hf.whole.fit hN (by omega)
   rw[hl] at B2
   have HB2:=Hd B2;have HO2:=Hd o2;have HHF:=Hd hf
   clear B2 o2 c2 D hf hl hm lgw
   go_wp2_with fail
   refine(uh HB2).mono ?_
   clear HB2
   rintro e w3 (⟨rfl,D⟩ | ⟨rfl,D⟩)
   rotate_left
   ·refine⟨rfl,.inr ⟨rfl,(((uh HO2).dmd D).after (uh HFK)).mono fun A' t=>?_⟩⟩
    have hl:=uh HLEN
    obtain⟨t1,f',g,t2,t3⟩:=t
    refine⟨t1,t3.n,Int.le_trans t3.st (by omega),fun h hp=>?_⟩
    have hf:=uh HHF
    rcases hf.torn (by omega) ⟨f',g,by rw[<-hl] at t2;exact t2,t3⟩ h hp with e | e
    ·exact .inr (.inl e)
    ·exact .inr (.inr e)
   have DD:=Hd D
   clear D
   go_wp2
   go_ret
   refine .inl ⟨rfl,(((uh HO2).dmd (uh DD)).after (uh HFK)).mono fun A' t=>⟨_,t.more (by omega),?_⟩⟩
   have hf:=(uh HHF).done (by omega)
   rw[uh HLEN] at hf
   exact hf
end
section
variable {w:World} {b:Nat} {L:Lay} {N:Nat} {A:Ab} {lg at_ ws:Nat}
theorem commit_none (hl:LogAt w lg b at_ ws) (h16:16<=ws) (hw:ws<=65536) (la:Option Addr) (cap:Nat) :
  Calls Tryz.prog 84 #[ptr lg,.slice la 0 cap] w fun e w'=>e = .returned (.int .i64 0)/\w'=w:=by
 have M:=most_ok hl h16 hw
 have HM:=Hd M
 clear M hl
 go_enter Tryz.func84,Tryz.ntmps84
 go_wp2
 go_loopw [9] (fun i wr=>i = .int .i64 0/\wr=w) (fun i wr=>0)
 case atStart=>exact⟨rfl,rfl⟩
 case round=>
  obtain⟨rfl,rfl⟩:=hrel
  go_wp2_with (go_at_call 129;refine(uh HM).mono ?_;rintro e w' ⟨rfl,hh⟩;replace hh:=hh.symm;subst hh)
  go_ret
  exact⟨rfl,rfl⟩
end
section
variable {w:World} {b:Nat} {L:Lay} {N:Nat} {A:Ab} {s:Int} {f:Nat->Int} {free:Prop}
theorem clean0 (at_ ws:Nat):Clean at_ ws (fun _=>0) (fun _=>0):=⟨rfl,fun _ _=>rfl⟩
end
end

section
section
variable {w w' w0:World} {sb b:Nat} {T T0:Tay} {n:Nat} {A A':Ab} {P:List (Int×Int)} {dd:Bool} {L':Lay} {N:Nat} {free:Prop} {s:Int} {f base:Nat->Int}
theorem StL.ondev (h:StL w sb b T n A P dd) (o:On w b T.L w' L' A') (hn:A'.n=A.n):Onx w sb b T w' { T with L:=L' } n A' P dd:=by
 have ltsb:sb<w.heap.size:=h.lt _ (.inr (.inl rfl))
 have ltlg:T.lg<w.heap.size:=h.lt _ (.inr (.inr (.inl rfl)))
 have ltmb:T.mb<w.heap.size:=h.lt _ (.inr (.inr (.inr (.inl rfl))))
 have eb:w'.heap[sb]? = w.heap[sb]?:=o.fr.block _ ltsb h.nsb
 have cb:∀q,w'.cell? ⟨sb,q,none⟩=w.cell? ⟨sb,q,none⟩:=fun q=>World.cell?_of_block eb
 have em:w'.heap[T.mb]? = w.heap[T.mb]?:=o.fr.block _ ltmb h.nmb
 refine⟨?_,o.fr.mono (fun k hk=>.inl (.inl hk)),?_⟩
 ·refine { dev:=o.d,log:=h.log.kept o.fr h.nlg,words:=by rw[hn];exact h.words,c0:=?_,c1:=?_,c2:=?_,c3:=?_,c4:=?_,c5:=?_,zs:=?_,own:=?_,map:=?_,few:=h.few,keys:=h.keys,nsb:=o.other ltsb h.nsb,nlg:=o.other ltlg h.nlg,nmb:=o.other ltmb h.nmb,nsv:=?_,lgsb:=h.lgsb,mbsb:=h.mbsb,mblg:=h.mblg }
  ·rw[cb];exact h.c0
  ·rw[cb];exact h.c1
  ·rw[cb];exact h.c2
  ·rw[cb];exact h.c3
  ·rw[cb];exact h.c4
  ·rw[cb];exact h.c5
  ·intro q;rw[World.frozen?_of_block (a:=⟨sb,q,none⟩) eb];exact h.zs q
  ·exact owns_same h.own fun k hk=>o.fr.block k (h.own.lt k hk).2 (h.nsv k hk).1
  ·obtain⟨D,h1,h2⟩:=h.map
   exact⟨D,ownsMap_block h1 em o.fr.size,h2⟩
  ·intro k hk
   obtain⟨a1,a2,a3,a4⟩:=h.nsv k hk
   exact⟨o.other (h.own.lt k hk).2 a1,a2,a3,a4⟩
 ·rintro k (hk | hk | hk | hk | hk)
  ·exact(o.sub k hk).imp .inl id
  ·exact .inl (.inr (.inl hk))
  ·exact .inl (.inr (.inr (.inl hk)))
  ·exact .inl (.inr (.inr (.inr (.inl hk))))
  ·exact .inl (.inr (.inr (.inr (.inr hk))))
theorem StL.once (h:StL w sb b T n A P dd):Once P:=by obtain⟨D,_,h2⟩:=h.map;exact h2.once
theorem log_commit (h:StL w sb b T n A P dd) (c:Calm N free A s f) (hc:Clean 0 12304 base f) (hs:s+5 * P.length+9<4294967296) :
  Calls Tryz.prog 84 #[ptr T.lg,T.sv] w fun e w'=>
   (e = .returned (.int .i64 0)/\DM w b T.L w' fun A'=>A'.n=A.n/\∃f',Calm N free A' (s+5 * P.length+9) f'/\Clean 0 12304 (homed P base) f')\/
   (e = .panicked lost/\DM w b T.L w' fun A'=>A'.n=A.n/\¬free/\LogTorn N 0 12304 base P (s+5 * P.length+9) A'):=by
 have hn:=c.n
 rcases h.form with ⟨e1,e2⟩ | ⟨g,cap,e1⟩
 ·rw[e1]
  subst e2
  refine(commit_none h.log (by omega) (by omega) none 0).mono ?_
  rintro e w' ⟨rfl,rfl⟩
  exact .inl ⟨rfl,DM.refl h.dev ⟨rfl,f,c.more (by simp;omega),by rw[homed_nil];exact hc⟩⟩
 ·by_cases hp:P = []
  ·subst hp
   rw[e1]
   refine(commit_none h.log (by omega) (by omega) (some ⟨g,0,none⟩) cap).mono ?_
   rintro e w' ⟨rfl,rfl⟩
   exact .inl ⟨rfl,DM.refl h.dev ⟨rfl,f,c.more (by simp;omega),by rw[homed_nil];exact hc⟩⟩
  ·have own:=h.own
   rw[e1] at own ⊢
   have few:=h.few
   have n8:=h.dev.n8
   have words:=h.words
   have tk:Takes N 0 12304 P:=⟨hp,fun x hx=>by
    have:=h.keys x hx
    exact⟨by omega,by omega,by omega⟩,by omega,by omega⟩
   refine(commit_ok h.dev h.log h.nlg c hc g 0 cap P (owns_wr own) (h.nsv g (by rw[e1];rfl)).1 tk (by omega) (by omega) hs).mono ?_
   rintro e w' (⟨rfl,D⟩ | ⟨rfl,D⟩)
   ·exact .inl ⟨rfl,D.mono fun A' ⟨f',c',l'⟩=>⟨c'.n.trans hn.symm,f',c',by rw[once_reverse h.once] at l';exact l'⟩⟩
   ·exact .inr ⟨rfl,D.mono fun A' ⟨n,t⟩=>⟨t.1.trans hn.symm,n,t⟩⟩
theorem commit_clo {bx:Nat} (h:StL w sb b T n A P dd) (c:Calm N free A s f) (hc:Clean 0 12304 base f) (hs:s+5 * P.length+9<4294967296) (hb:w.cell? ⟨bx,0,none⟩=some (ptr sb)) :
  Calls Tryz.prog 83 #[ptr bx] w fun e w'=>
   (e = .returned (.tuple #[])/\DM w b T.L w' fun A'=>A'.n=A.n/\∃f',Calm N free A' (s+5 * P.length+9) f'/\Clean 0 12304 (homed P base) f')\/
   (e = .panicked lost/\DM w b T.L w' fun A'=>A'.n=A.n/\¬free/\LogTorn N 0 12304 base P (s+5 * P.length+9) A'):=by
 have c1:=h.c1;have c3:=h.c3
 obtain⟨a,cap,e1⟩:=h.form'
 rw[e1] at c3
 have K:∀q,_:=fun q=>log_commit (h.still ((Fr.refl _ w).drewN q)) c hc hs
 rw[e1] at K
 have HK:=@Hd _ K
 generalize P.length=len at *
 clear h K e1 hs
 go_enter Tryz.func83,Tryz.ntmps83
 go_wp2_with fail
 refine region_tailP 8 (by kernel_rfl) (by kernel_rfl) ?_
 simp only[List.take_succ_cons,List.take_zero,List.drop_succ_cons,List.drop_zero]
 repeat (go_big_quiet_step (first | fail))
 refine wpQuiet_nil ?_
 rintro _ ⟨nq,rfl⟩
 have K:=uh HK nq
 have HK2:=Hd K
 clear K HK c1 c3
 go_wp2_with fail
 refine(uh HK2).mono ?_
 clear HK2
 rintro e w1 (⟨rfl,D⟩ | ⟨rfl,D⟩)
 ·have HD:=Hd (D.after ((Fr.refl _ w).drewN nq))
  clear D
  go_wp2
  go_end0
  exact .inl ⟨rfl,uh HD⟩
 ·exact⟨rfl,.inr ⟨rfl,D.after ((Fr.refl _ w).drewN nq)⟩⟩
end
section
variable {w w' w0:World} {sb b:Nat} {T T0:Tay} {n:Nat} {A A':Ab} {P:List (Int×Int)} {dd:Bool} {L':Lay} {N:Nat} {free:Prop} {s:Int} {f base:Nat->Int}
theorem t_abort (h:StL w sb b T n A P dd):Calls Tryz.prog 86 #[ptr sb] w fun e w'=>e = .returned (.tuple #[])/\∃T',T'.L=T.L/\Onx w sb b T w' T' n A [] dd:=by
 have K:=Hd (t_forget h)
 clear h
 go_enter Tryz.func86,Tryz.ntmps86
 go_wp2_with fail
 refine(uh K).mono ?_
 rintro e w1 ⟨rfl,h⟩
 have H:=Hd h
 clear K h
 go_wp2
 go_end0
 exact⟨rfl,uh H⟩
theorem StL.die (h:StL w sb b T n A P dd):Onx w sb b T (w.setCell ⟨sb,5,none⟩ (.bool true)) { T with mb:=T.mb,sv:=T.sv } n A P true:=by
 have ce:∀o,o≠5->(w.setCell ⟨sb,5,none⟩ (.bool true)).cell? ⟨sb,o,none⟩=w.cell? ⟨sb,o,none⟩:=fun o ho=>World.cell?_setCell_other _ _ _ _ (by simp <;> omega)
 obtain⟨D,h1,h2⟩:=h.map
 refine h.relay (F:=fun k=>k=sb) ((Fr.refl (fun k=>k=sb) w).setCell (.inl rfl) _) (fun k hk=>.inl hk) T.mb T.sv P true (fun o ho=>ce o (by omega)) ?_ ?_ (World.cell?_setCell_same _ _ _ h.c5) (fun o=>by rw[World.frozen?_setCell];exact h.zs o) ?_ ⟨D,?_,h2⟩ h.few h.keys (.inl rfl) (fun k hk=>⟨.inl hk,(h.nsv k hk).2.2.2⟩)
 ·rw[ce 3 (by omega)];exact h.c3
 ·rw[ce 4 (by omega)];exact h.c4
 ·exact owns_same h.own (fun k hk=>Below.heap_setCell _ _ _ _ (h.nsv k hk).2.1)
 ·exact ownsMap_block h1 (Below.heap_setCell _ _ _ _ h.mbsb) (by simp)
def Done (N:Nat) (free:Prop) (s:Int) (base:Nat->Int) (P:List (Int×Int)) (A':Ab):Prop:=∃f',Calm N free A' s f'/\Clean 0 12304 (homed P base) f'
def Gone (N:Nat) (free:Prop) (s:Int) (base:Nat->Int) (P:List (Int×Int)) (A':Ab):Prop:=¬free/\LogTorn N 0 12304 base P s A'
theorem t_commit (h:StL w sb b T n A P false) (c:Calm N free A s f) (hc:Clean 0 12304 base f) (hs:s+5 * P.length+9<4294967296) :
  Calls Tryz.prog 41 #[ptr sb] w fun e w'=>
   (e = .returned (.tuple #[])/\∃T' A',Onx w sb b T w' T' n A' [] false/\Done N free (s+5 * P.length+9) base P A')\/
   (e = .panicked lost/\∃T' A',Onx w sb b T w' T' n A' P true/\Gone N free (s+5 * P.length+9) base P A'):=by
 obtain⟨W,hW⟩:∃W,w.alloc (.cells #[ptr sb] 23)=W:=⟨_,rfl⟩
 have fW:St w W:=hW▸(Fr.refl _ w).alloc _
 have zW:W.heap.size=w.heap.size+1:=by rw[<-hW];simp
 have bx:Box W w.heap.size (ptr sb):=hW▸Box.new w (ptr sb) 23
 have hWs:=h.still fW
 have LV:=t_live hWs c.dead
 have nf:∀k,w.heap.size<=k->¬foot b T.L k:=fun k hk hf=>by have:=h.dev.lt k hf;omega
 have TR:∀W0,St W W0->Calls Tryz.prog 80 #[.func (.func 83) #[] #[ptr w.heap.size]] W0 fun e w'=>∃h:How,e = .returned (.tuple #[h.v,.bool h.is])/\
   ((h = .well/\∃L' A',On W b T.L w' L' A'/\A'.n=A.n/\Done N free (s+5 * P.length+9) base P A')\/(h = .lost/\∃L' A',On W b T.L w' L' A'/\A'.n=A.n/\Gone N free (s+5 * P.length+9) base P A')):=by
  intro W0 f0
  refine try_fr (F:=foot b T.L) (fun k hk=>Nat.lt_of_lt_of_le (hWs.dev.lt k hk) f0.size) (acts_of (fun _ _=>by kernel_rfl) ?_)
  have f1:St W (W0.alloc box):=f0.alloc box
  refine(commit_clo (bx:=w.heap.size) (hWs.still f1) c hc hs (bx.kept f1 id).c).mono ?_
  rintro e w3 (⟨rfl,D⟩ | ⟨rfl,D⟩)
  ·obtain⟨L3,A3,o3,hn,hd⟩:=D.on
   refine⟨.well,rfl,o3.fr,fun w4 f4=>.inl ⟨rfl,L3,A3,?_,hn,hd⟩⟩
   have o3':On W b T.L w3 L3 A3:=((On.start hWs.dev).quiet f1).trans o3
   exact o3'.turn f4 (fun k hk hf=>by
    rcases o3.sub k hf with e | e
    ·have:=f0.size;exact nf k (by omega) e
    ·have:(W0.alloc box).heap.size=W0.heap.size+1:=by simp
     omega) (fun k hk=>by have:=f0.size;omega)
  ·obtain⟨L3,A3,o3,hn,hd⟩:=D.on
   refine⟨.lost,How.ended_one _ _,o3.fr,fun w4 f4=>.inr ⟨rfl,L3,A3,?_,hn,hd⟩⟩
   have o3':On W b T.L w3 L3 A3:=((On.start hWs.dev).quiet f1).trans o3
   exact o3'.turn f4 (fun k hk hf=>by
    rcases o3.sub k hf with e | e
    ·have:=f0.size;exact nf k (by omega) e
    ·have:(W0.alloc box).heap.size=W0.heap.size+1:=by simp
     omega) (fun k hk=>by have:=f0.size;omega)
 have ON:=onlyL_two (w:=W) TR
 have HON:=Hd ON;have HW:=Hd hW;have HB:=Hd bx;have HH:=Hd h;have HWS:=Hd hWs;have HFW:=Hd fW;have HZ:=Hd zW
 have h1:=mf
 have bc:=bx.c
 clear ON TR hW bx h hWs fW zW nf c hc
 go_enter Tryz.func41,Tryz.ntmps41
 go_wp2_with fail
 rw[uh HW]
 refine LV.mono ?_
 rintro e w1 ⟨rfl,hh⟩
 replace hh:=hh.symm
 subst hh
 clear LV
 go_wp2_with fail
 refine(uh HON).mono ?_
 clear HON
 rintro e w2 ⟨w1,f12,⟨rfl,L',A',o,hn,hd⟩ | ⟨rfl,L',A',o,hn,hd⟩⟩
 ·obtain⟨W3,hW3⟩:∃W3,w2.alloc (.cells #[] 133)=W3:=⟨_,rfl⟩
  have f13:St w1 W3:=hW3▸f12.alloc _
  have x3:Onx w sb b T W3 { T with L:=L' } n A' P false:=(((uh HWS).ondev o hn).quiet f13).after (uh HFW)
  have b3:W3.cell? ⟨w.heap.size,0,none⟩=some (ptr sb):=(((uh HB).kept o.fr (fun hf=>by have:=(uh HH).dev.lt _ hf;omega)).kept f13 id).c
  have K:=t_forget x3.st
  have HK:=Hd K;have HX:=Hd x3;have HD:=Hd hd;have HW3:=Hd hW3
  clear K x3 hd o hW3 f13 f12 bc
  have b3':(w2.alloc (.cells #[] 133)).cell? ⟨w.heap.size,0,none⟩=some (ptr sb):=by rw[uh HW3];exact b3
  clear b3
  go_wp2_with fail
  rw[uh HW3]
  refine(uh HK).mono ?_
  clear HK
  rintro e w4 ⟨rfl,T4,-,x4⟩
  have HX4:=Hd x4
  clear x4 b3'
  go_wp2
  go_end0
  exact .inl ⟨rfl,T4,A',(uh HX).trans (uh HX4),uh HD⟩
 ·obtain⟨W3,hW3⟩:∃W3,w2.alloc (.cells #[] 133)=W3:=⟨_,rfl⟩
  have f13:St w1 W3:=hW3▸f12.alloc _
  have x3:Onx w sb b T W3 { T with L:=L' } n A' P false:=(((uh HWS).ondev o hn).quiet f13).after (uh HFW)
  have b3:W3.cell? ⟨w.heap.size,0,none⟩=some (ptr sb):=(((uh HB).kept o.fr (fun hf=>by have:=(uh HH).dev.lt _ hf;omega)).kept f13 id).c
  have c5:=x3.st.c5
  have z5:=x3.st.zs 5
  have x4:=x3.trans x3.st.die
  have HX:=Hd x4;have HD:=Hd hd
  rw[<-hW3] at b3 c5 z5
  have HW3:=Hd hW3
  clear x3 x4 hd o hW3 f13 f12 bc hn
  go_wp2
  have HX:=uh HX
  rw[<-uh HW3] at HX
  exact⟨rfl,.inr ⟨rfl,_,A',HX,uh HD⟩⟩
section
variable (x:Value)
theorem taE_errno (w:World):(Instr.typeAssert (.iface 28 x) 20 28 true).run Tryz.prog w = .ok (.tuple #[x,.bool true]) w:=by kernel_rfl
theorem taE_lost (w:World):(Instr.typeAssert (.iface 133 x) 20 28 true).run Tryz.prog w = .ok (.tuple #[.int .i64 0,.bool false]) w:=by kernel_rfl
theorem taE_str (w:World):(Instr.typeAssert (.iface 9 x) 20 28 true).run Tryz.prog w = .ok (.tuple #[.int .i64 0,.bool false]) w:=by kernel_rfl
theorem taL_str (w:World):(Instr.typeAssert (.iface 9 x) 20 133 true).run Tryz.prog w = .ok (.tuple #[.agg #[],.bool false]) w:=by kernel_rfl
theorem eq_nil (w:World):(binOp .eql 20 .nilIface .nilIface).run Tryz.prog w = .ok (.bool true) w:=by kernel_rfl
theorem eq_errno (w:World):(binOp .eql 20 (.iface 28 x) .nilIface).run Tryz.prog w = .ok (.bool false) w:=by kernel_rfl
theorem eq_lost (w:World):(binOp .eql 20 (.iface 133 x) .nilIface).run Tryz.prog w = .ok (.bool false) w:=by kernel_rfl
theorem eq_str (w:World):(binOp .eql 20 (.iface 9 x) .nilIface).run Tryz.prog w = .ok (.bool false) w:=by kernel_rfl
end
theorem settle_nil (w:World):Calls Tryz.prog 42 #[ptr sb,.nilIface] w fun e w'=>e = .returned (.int .i64 0)/\w'=w:=by
 have h1:=eq_nil
 go_enter Tryz.func42,Tryz.ntmps42
 go_wp2
 go_ret
 exact⟨rfl,rfl⟩
theorem settle_errno (h:StL w sb b T n A P dd) (i:Int):Calls Tryz.prog 42 #[ptr sb,.iface 28 (.int .i64 i)] w fun e w'=>e = .returned (.int .i64 i)/\∃T',T'.L=T.L/\Onx w sb b T w' T' n A [] dd:=by
 have h1:=eq_errno;have h2:=taE_errno
 have K:=Hd (t_abort h)
 clear h
 go_enter Tryz.func42,Tryz.ntmps42
 go_wp2_with fail
 refine(uh K).mono ?_
 rintro e w1 ⟨rfl,x⟩
 have HX:=Hd x
 clear x K
 go_wp2
 go_ret
 exact⟨rfl,uh HX⟩
theorem settle_str (h:StL w sb b T n A P dd) (y:Value):Calls Tryz.prog 42 #[ptr sb,.iface 9 y] w fun e w'=>e = .panicked [{ v:=.iface 9 y,recovered:=false }]/\∃T',T'.L=T.L/\Onx w sb b T w' T' n A [] dd:=by
 have h1:=eq_str;have h2:=taE_str;have h3:=taL_str
 have K:=Hd (t_abort h)
 clear h
 go_enter Tryz.func42,Tryz.ntmps42
 go_wp2_with fail
 refine(uh K).mono ?_
 rintro e w1 ⟨rfl,x⟩
 have HX:=Hd x
 clear x K
 go_wp2
 exact⟨rfl,rfl,uh HX⟩
theorem settle_lost (h:StL w sb b T n A P dd):Calls Tryz.prog 42 #[ptr sb,.iface 133 (.agg #[])] w fun e w'=>e = .returned (.int .i64 50)/\∃T',T'.L=T.L/\Onx w sb b T w' T' n A P true:=by
 have h1:=eq_lost;have h2:=taE_lost;have h3:=taL_lost
 obtain⟨W,hW⟩:∃W,w.alloc (.cells #[] 133)=W:=⟨_,rfl⟩
 have fW:St w W:=hW▸(Fr.refl _ w).alloc _
 have hWs:=h.still fW
 have c5:=hWs.c5;have z5:=hWs.zs 5
 rw[<-hW] at c5 z5
 have fin:=(hWs.die).after fW
 rw[<-hW] at fin
 have HF:=Hd fin
 clear h fin hWs fW hW
 go_enter Tryz.func42,Tryz.ntmps42
 go_wp2
 go_ret
 refine⟨rfl,_,?_,uh HF⟩
 rfl
end
section
variable {w w' w0:World} {sb b:Nat} {T T0:Tay} {n:Nat} {A A':Ab} {P:List (Int×Int)} {dd:Bool} {L':Lay} {N:Nat} {free:Prop} {s:Int} {f base:Nat->Int}
theorem Done.more {t:Int} (h:Done N free s base P A) (hs:s<=t):Done N free t base P A:=let ⟨f',c,k⟩:=h;⟨f',c.more hs,k⟩
theorem Gone.more {t:Int} (h:Gone N free s base P A) (hs:s<=t):Gone N free t base P A:=⟨h.1,h.2.1,Int.le_trans h.2.2.1 hs,h.2.2.2⟩
abbrev textP (y:Value):List PanicEntry:=[{ v:=.iface 9 y,recovered:=false }]
def Change (w:World) (sb b:Nat) (T:Tay) (n:Nat) (A:Ab) (fv:Value) (R:How->List (Int×Int)->Prop):Prop:=
 ∀w1,St w w1->Acts fv w1 fun h w2=>(h = .well\/(∃i,h = .errno i)\/∃y,h = .bad 9 y)/\∃T' P',Onx w1 sb b T w2 T' n A P' false/\R h P'
def Did (w:World) (sb b:Nat) (T:Tay) (n N:Nat) (free:Prop) (A:Ab) (s:Int) (base:Nat->Int) (R:How->List (Int×Int)->Prop) (e:Ending) (w':World):Prop:=
 (∃P',R .well P'/\e = .returned (.int .i64 0)/\∃T' A',Onx w sb b T w' T' n A' [] false/\Done N free (s+30729) base P' A')\/
 (∃P',R .well P'/\e = .returned (.int .i64 50)/\∃T' A',Onx w sb b T w' T' n A' P' true/\Gone N free (s+30729) base P' A')\/
 (∃i P',R (.errno i) P'/\e = .returned (.int .i64 i)/\∃T',Onx w sb b T w' T' n A [] false)\/
 (∃y P',R (.bad 9 y) P'/\e = .panicked (textP y)/\∃T',Onx w sb b T w' T' n A [] false)
theorem try_store {fv:Value} {Q:How->World->Prop} (h:StL w sb b T n A P dd) (hf:Acts fv (w.alloc box) fun h w2=>Fr (tfoot sb b T) (w.alloc box) w2/\∀w3,Fr (fun k=>k=w.heap.size) w2 w3->Q h w3) :
  Calls Tryz.prog 80 #[fv] w fun e w'=>∃h:How,e = .returned (.tuple #[h.v,.bool h.is])/\Q h w':=
 try_fr (F:=tfoot sb b T) h.lt hf
theorem Onx.boxed {T':Tay} {P':List (Int×Int)} {dd':Bool} {w2 w3:World} (h:StL w sb b T n A P dd) (f0:St w0 w) (o:Onx (w.alloc box) sb b T w2 T' n A' P' dd') (hf:Fr (fun k=>k=w.heap.size) w2 w3):Onx w0 sb b T w3 T' n A' P' dd':=by
 have o1:=o.after (f0.alloc box)
 refine o1.turn hf (fun k hk ht=>?_) (fun k hk=>by have:=f0.size;omega)
 rcases o.sub k ht with e | e
 ·have:=h.lt k e;omega
 ·have:(w.alloc box).heap.size=w.heap.size+1:=by simp
  omega
theorem t_do {g:Nat} {fi ca:Array Value} {R:How->List (Int×Int)->Prop} (h:StL w sb b T n A P false) (c:Calm N free A s f) (hc:Clean 0 12304 base f) (hf:Change w sb b T n A (.func (.func g) fi ca) R) (hs:s+30729<4294967296) :
  Calls Tryz.prog 9 #[ptr sb,.func (.func g) fi ca] w (Did w sb b T n N free A s base R):=by
 obtain⟨W,hW⟩:∃W,w.alloc (.cells #[.func (.func g) fi ca,.func (.func 41) #[ptr sb] #[]] 1)=W:=⟨_,rfl⟩
 have fW:St w W:=hW▸(Fr.refl _ w).alloc _
 have zW:W.heap.size=w.heap.size+1:=by rw[<-hW];simp
 have hb:W.heap[w.heap.size]? = some (.cells #[.func (.func g) fi ca,.func (.func 41) #[ptr sb] #[]] 1):=hW▸heap_alloc_new w _
 have hWs:=h.still fW
 have nT:¬tfoot sb b T w.heap.size:=fun e=>by have:=h.lt _ e;omega
 have E:=each_two (lb:=w.heap.size) (f:=.func (.func g) fi ca) (g:=.func (.func 41) #[ptr sb] #[]) (w:=W)
  (I1:=fun w'=>∃T' P',Onx W sb b T w' T' n A P' false/\R .well P')
  (I2:=fun w'=>∃P',R .well P'/\∃T' A',Onx W sb b T w' T' n A' [] false/\Done N free (s+30729) base P' A')
  (S:=fun h w'=>(∃i P',h = .errno i/\R (.errno i) P'/\∃T',Onx W sb b T w' T' n A P' false)\/(∃y P',h = .bad 9 y/\R (.bad 9 y) P'/\∃T',Onx W sb b T w' T' n A P' false)\/(∃P',h = .lost/\R .well P'/\∃T' A',Onx W sb b T w' T' n A' P' true/\Gone N free (s+30729) base P' A'))
  (cOo hb 0)
  (try_store hWs ((hf (W.alloc box) (fW.alloc box)).mono (by
   rintro k w2 ⟨hk,T',P',o,r⟩
   refine⟨o.fr,fun w3 f3=>?_⟩
   have o3:=Onx.boxed hWs (Fr.refl _ W) o f3
   rcases hk with rfl | ⟨i,rfl⟩ | ⟨y,rfl⟩
   ·exact .inl ⟨rfl,(o3.fr.cell' (cOo hb 1) nT),T',P',o3,r⟩
   ·exact .inr ⟨rfl,.inl ⟨i,P',rfl,r,T',o3⟩⟩
   ·exact .inr ⟨rfl,.inr (.inl ⟨y,P',rfl,r,T',o3⟩)⟩)))
  (by
   rintro w1 ⟨T1,P1,o1,r1⟩
   have few:=o1.st.few
   refine try_store o1.st (acts_of (fun _ _=>by kernel_rfl) ((t_commit (o1.st.still ((Fr.refl _ w1).alloc box)) c hc (by omega)).mono ?_))
   rintro e w2 (⟨rfl,T',A',o,d⟩ | ⟨rfl,T',A',o,d⟩)
   ·refine⟨.well,rfl,o.fr,fun w3 f3=>.inl ⟨rfl,P1,r1,T',A',o1.trans (Onx.boxed o1.st (Fr.refl _ w1) o f3),d.more (by omega)⟩⟩
   ·refine⟨.lost,How.ended_one _ _,o.fr,fun w3 f3=>.inr ⟨rfl,.inr (.inr ⟨P1,rfl,r1,T',A',o1.trans (Onx.boxed o1.st (Fr.refl _ w1) o f3),d.more (by omega)⟩)⟩⟩)
 have c5:=h.c5
 have h1:=mf
 have HE:=Hd E;have HW:=Hd hW;have HFW:=Hd fW
 clear E hW fW zW hb hWs nT h c hc hf
 unfold Did
 go_enter Tryz.func9,Tryz.ntmps9
 go_wp2_with fail
 rw[uh HW]
 refine(uh HE).mono ?_
 clear HE
 rintro e w2 ⟨k,⟨rfl,P',r,x⟩ | ⟨h,rfl,x⟩⟩
 ·have K:=settle_nil (sb:=sb) w2
  have HX:=Hd x;have HR:=Hd r
  clear x r
  go_wp2_with fail
  refine K.mono ?_
  rintro e w3 ⟨rfl,hh⟩
  replace hh:=hh.symm
  subst hh
  clear K
  go_wp2
  go_ret
  obtain⟨T',A',o,d⟩:=uh HX
  exact .inl ⟨P',uh HR,rfl,T',A',o.after (uh HFW),d⟩
 ·rcases x with ⟨i,P',rfl,r,T',o⟩ | ⟨y,P',rfl,r,T',o⟩ | ⟨P',rfl,r,T',A',o,d⟩
  ·have K:=Hd (settle_errno o.st i)
   have HX:=Hd (ai r o)
   clear r o
   simp only[How.v]
   go_wp2_with fail
   refine(uh K).mono ?_
   rintro e w3 ⟨rfl,T3,-,o3⟩
   have HO3:=Hd o3
   clear K o3
   go_wp2
   go_ret
   obtain⟨r,o⟩:=uh HX
   exact .inr (.inr (.inl ⟨i,P',r,rfl,T3,(o.trans (uh HO3)).after (uh HFW)⟩))
  ·have K:=Hd (settle_str o.st y)
   have HX:=Hd (ai r o)
   clear r o
   simp only[How.v]
   go_wp2_with fail
   refine(uh K).mono ?_
   rintro e w3 ⟨rfl,T3,-,o3⟩
   obtain⟨r,o⟩:=uh HX
   exact⟨rfl,.inr (.inr (.inr ⟨y,P',r,rfl,T3,(o.trans o3).after (uh HFW)⟩))⟩
  ·have K:=Hd (settle_lost o.st)
   have HX:=Hd (ai r (ai o d))
   clear r o d
   simp only[How.v]
   go_wp2_with fail
   refine(uh K).mono ?_
   rintro e w3 ⟨rfl,T3,-,o3⟩
   have HO3:=Hd o3
   clear K o3
   go_wp2
   go_ret
   obtain⟨r,o,d⟩:=uh HX
   exact .inr (.inl ⟨P',r,rfl,T3,A',(o.trans (uh HO3)).after (uh HFW),d⟩)
end
end
end Go.Proofs.YtbiopjmpdhcjgaaGreatDoor
