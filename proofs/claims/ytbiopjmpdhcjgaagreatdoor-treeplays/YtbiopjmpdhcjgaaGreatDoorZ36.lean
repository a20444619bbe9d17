/- Joined: Kj Kk InK Kt Jc. -/
import Derived.Deep.Slices
import Derived.ChangeSame
import Derived.ChangeArms
import Derived.ChangeSlices
import Derived.Test.YtbiopjmpdhcjgaaGreatDoorZ04
import Derived.Test.YtbiopjmpdhcjgaaGreatDoorZ05
import Derived.Test.YtbiopjmpdhcjgaaGreatDoorZ28
import Derived.Test.YtbiopjmpdhcjgaaGreatDoorZ29
import Derived.Test.YtbiopjmpdhcjgaaGreatDoorZ34
import Derived.Test.YtbiopjmpdhcjgaaGreatDoorZ35
namespace Go.Proofs.YtbiopjmpdhcjgaaGreatDoor
open Go.RowKit
set_option maxHeartbeats 4000000
set_option maxRecDepth 100000 in
theorem ins_nil (w:World):Calls Tryz.prog 154 #[.slice none 0 0,.int .i64 0,.int .i64 0] w fun e w'=>e = .returned (.tuple #[])/\w'=w:=by
 go_enter Tryz.func154,Tryz.ntmps154
 go_wp2_with fail
 go_loopw [6] (fun c wr=>c = .int .i64 1/\wr=w) (fun c wr=>0)
 case atStart=>exact⟨rfl,rfl⟩
 case round=>
  obtain⟨rfl,rfl⟩:=hrel
  go_wp2
  go_end0
  exact⟨rfl,rfl⟩
set_option maxRecDepth 100000 in
theorem pdq_nil (x:Int) (w:World):Calls Tryz.prog 114 #[.slice none 0 0,.int .i64 0,.int .i64 0,.int .i64 x] w fun e w'=>e = .returned (.tuple #[])/\w'=w:=by
 have K:=ins_nil w
 go_enter Tryz.func114,Tryz.ntmps114
 go_wp2_with fail
 go_loopw [1,2] (fun b c wr=>b = .int .i64 0/\c = .int .i64 0/\wr=w) (fun b c wr=>0)
 case atStart=>exact⟨rfl,rfl,rfl⟩
 case round=>
  obtain⟨rfl,rfl,rfl⟩:=hrel
  go_wp2_with fail
  refine K.mono ?_
  rintro e w' ⟨rfl,rfl⟩
  go_wp2
  refine bodyPost_ret (results_none rfl _ _ _) rfl ?_
  exact⟨rfl,rfl⟩
theorem sort_nil (w:World):Calls Tryz.prog 72 #[.slice none 0 0] w fun e w'=>e = .returned (.tuple #[])/\w'=w:=by
 have K1:=Tryz.bits_Len 0 w (by omega) (by omega)
 have K2:=fun x=>pdq_nil x w
 go_enter Tryz.func72,Tryz.ntmps72
 go_wp2_with fail
 refine K1.mono ?_
 rintro e w' ⟨rfl,rfl⟩
 go_wp2_with fail
 refine(K2 _).mono ?_
 rintro e w' ⟨rfl,rfl⟩
 go_wp2
 go_end0
 exact⟨rfl,rfl⟩
set_option maxRecDepth 100000 in
theorem y_Pieces0 (sb hb:Nat) (w:World):Calls Tryz.prog 37 #[ptr sb,ptr hb,.int .u64 0] w fun e w'=>e = .returned (.slice none 0 0)/\St w w':=by
 obtain⟨g,hg⟩:∃g,w.heap.size=g:=⟨_,rfl⟩
 obtain⟨W1,hW1⟩:∃W,w.alloc (.cells #[ptr sb] 23)=W:=⟨_,rfl⟩
 obtain⟨W2,hW2⟩:∃W,W1.alloc (.cells #[ptr hb] 24)=W:=⟨_,rfl⟩
 obtain⟨W3,hW3⟩:∃W,W2.alloc (.map #[] 0)=W:=⟨_,rfl⟩
 obtain⟨W4,hW4⟩:∃W,W3.alloc (.cells #[.map (some (g+2))] 116)=W:=⟨_,rfl⟩
 obtain⟨W5,hW5⟩:∃W,W4.alloc (.cells #[.slice none 0 0] 45)=W:=⟨_,rfl⟩
 obtain⟨W6,hW6⟩:∃W,W5.alloc (.cells #[.func (.func 68) #[] #[ptr g,ptr (g+3),ptr (g+1),ptr (g+4),ptr (g+5)]] 117)=W:=⟨_,rfl⟩
 have z1:W1.heap.size=g+1:=by rw[<-hW1];simp[hg]
 have z2:W2.heap.size=g+2:=by rw[<-hW2];simp;omega
 have z3:W3.heap.size=g+3:=by rw[<-hW3];simp;omega
 have z4:W4.heap.size=g+4:=by rw[<-hW4];simp;omega
 have f4:St w W4:=hW4▸hW3▸hW2▸hW1▸((((Fr.refl _ w).alloc _).alloc _).alloc _).alloc _
 have f5:St W4 W5:=hW5▸(Fr.refl _ _).alloc _
 have f6:St W5 W6:=hW6▸(Fr.refl _ _).alloc _
 have oL:W6.heap[g+4]? = some (.cells #[.slice none 0 0] 45 (0,0)):=by
  have:=heap_alloc_new W4 (.cells #[.slice none 0 0] 45)
  rw[hW5,z4] at this;exact f6.obj this id
 have c6:W6.cell? ⟨g+4,0,none⟩=some (.slice none 0 0):=cOo oL 0
 have K:=sort_nil W6
 have hmm:=make_setU
 have HW:=Hd (ai hW1 (ai hW2 (ai hW3 (ai hW4 (ai hW5 hW6)))))
 have HF:=Hd ((f4.trans' f5 nE).trans' f6 nE)
 have c6':=c6
 rw[<-hW6,<-hW5,<-hW4,<-hW3,<-hW2,<-hW1] at c6'
 clear hW1 hW2 hW3 hW4 hW5 hW6 z1 z2 z3 z4 f4 f5 f6 oL
 go_enter Tryz.func37,Tryz.ntmps37
 go_wp2_with fail
 simp only[show g+1+1=g+2 from rfl,show g+2+1=g+3 from rfl,show g+3+1=g+4 from rfl,show g+4+1=g+5 from rfl]
 obtain⟨hW1,hW2,hW3,hW4,hW5,hW6⟩:=uh HW
 rw[hW1,hW2,hW3,hW4,hW5,hW6]
 clear hW1 hW2 hW3 hW4 hW5 hW6 HW hmm
 refine K.mono ?_
 rintro e w' ⟨rfl,hh⟩
 replace hh:=hh.symm
 subst hh
 clear K c6'
 go_wp2
 go_ret
 exact⟨rfl,uh HF⟩

section
section
variable {nu sz:Nat} {w w' w0:World} {hb sb b:Nat} {T:Tay} {A:Ab} {P:List (Int×Int)}
theorem y_PiecesR (hp:Hp nu sz w hb sb b T A P) (s:HpS nu (says P A)) {r:Nat} {l:List Pr} {Q:List Nat} (rt:Rt nu sz (says P A) r l Q) (ri:Rise l) (hl:l.length<=400) :
  Calls Tryz.prog 37 #[ptr sb,ptr hb,.int .u64 (r:Nat)] w fun e w'=>∃(a:Option Addr) (cap:Nat) (ts:List Int),e = .returned (.slice a ts.length cap)/\(∀x,x∈ts ↔ ∃v∈Q,x=((fi nu+8 * v:Nat):Int))/\ts.length=Q.length/\w'.ownsRow w.heap.size 3 1 (.slice a ts.length cap) ts.length (ts.map (Value.int .i64))/\St w w':=by
 rcases rt with ⟨rfl,rfl,rfl⟩ | ⟨h,u,rfl,t⟩
 ·refine(y_Pieces0 sb hb w).mono ?_
  rintro e w' ⟨rfl,f⟩
  exact⟨none,0,[],rfl,fun x=>by simp,rfl,World.ownsRow_nil _ _ _ _,f⟩
 ·refine(y_Pieces hp s t ri hl).mono ?_
  rintro e w' ⟨g,cap,ts,rfl,h1,h2,h3,h4⟩
  exact⟨_,cap,ts,rfl,h1,h2,h3,h4⟩
structure RqR (nu sz:Nat) (f:Nat->Int) (r:Nat) (Q:List Nat):Prop where
 t:∃l,Rt nu sz f r l Q/\Rise l/\l.length<=400
set_option maxRecDepth 100000 in
theorem t_sweepR (hp:Hp nu sz w hb sb b T A P) (s:HpS nu (says P A)) (a:Option Addr) (c:Nat) (rs:List (Nat×Value)) (Qs:List (List Nat)) (hS:Sl w 2 a rs.length c (rtcl rs)) (hq:Qs.length=rs.length) (hr:∀(i:Nat) (p:Nat×Value) (Q:List Nat),rs[i]? = some p->Qs[i]? = some Q->RqR nu sz (says P A) p.1 Q) (hn:rs.length<=5) (hm:P.length+10 * cnt nu (ask nu (says P A))+10<=6144) :
  Calls Tryz.prog 13 #[ptr sb,ptr hb,.slice a rs.length c] w fun e w'=>e = .returned (.tuple #[])/\∃g,To sz w sb b T A w' g (P.length+10 * cnt nu (ask nu (says P A)))/\HpS nu g/\(∀u,ask nu g u=if u∈Qs.flatten then ask nu (says P A) u else 0)/\(∀i,fi nu<=i->g i=says P A i)/\∀i,2<=i->i<18->g i=says P A i:=by
 obtain⟨bl,hbl⟩:∃bl,w.heap.size=bl:=⟨_,rfl⟩
 obtain⟨W,hW⟩:∃W,w.alloc (.cells #[.slice none 0 0] 45)=W:=⟨_,rfl⟩
 have fW:St w W:=hW▸(Fr.refl _ w).alloc _
 have oW:W.heap[bl]? = some (.cells #[.slice none 0 0] 45 (0,0)):=by rw[<-hbl,<-hW];exact heap_alloc_new w _
 have HW:=Hd hW
 have HH:=Hd (ai hp (ai s (ai hS (ai hq (ai hr hm)))))
 have HF:=Hd fW
 clear hW hp s hS hq hr hm fW
 go_enter Tryz.func13,Tryz.ntmps13
 go_wp2_with fail
 rw[uh HW]
 go_loopw [7] (fun iv wr=>∃(j:Nat) (ts:List Int) (v:Value),j<=rs.length/\iv = .int .i64 j/\ts.length<=800 * j/\Liv nu ts (Qs.take j).flatten/\wr.heap[bl]? = some (.cells #[v] 45 (0,0))/\wr.ownsRow (bl+1) 3 1 v ts.length (ts.map (Value.int .i64))/\St w wr) (fun iv _=>rs.length - (intOf iv).toNat)
 case atStart=>exact⟨0,[],_,by omega,rfl,by simp,fun x=>by simp,oW,World.ownsRow_nil _ _ _ _,uh HF⟩
 case round=>
  obtain⟨j,ts,v,hj,rfl,htl,liv,ov,row,fr⟩:=hrel
  generalize wr=wq at *
  clear wr
  by_cases hlt:j<rs.length
  ·have hlt':(j:Int)<rs.length:=by omega
   obtain⟨p,hp1⟩:∃p,rs[j]? = some p:=⟨_,List.getElem?_eq_getElem hlt⟩
   obtain⟨hp,s,hS,hq,hr,hm⟩:=uh HH
   obtain⟨Q,hQ⟩:∃Q,Qs[j]? = some Q:=⟨_,List.getElem?_eq_getElem (by omega)⟩
   obtain⟨l,rt,ri,hl⟩:=(hr j p Q hp1 hQ).t
   obtain⟨b0,o0,rfl,cR0⟩:=hS.cells (j * 2) _ (rtcl_at hp1)
   have hb0:b0<bl:=by rw[<-hbl];exact World.block_lt_of_cell? _ _ cR0
   have cR:=fr.cell' cR0 id
   have cv:wq.cell? ⟨bl,0,none⟩=some v:=cOo ov 0
   have zv:wq.frozen? ⟨bl,0,none⟩=false:=by simp[World.frozen?,ov]
   have few:=rt.few
   have PC:∀w',St wq w'->Calls Tryz.prog 37 #[ptr sb,ptr hb,.int .u64 (p.1:Nat)] w' _:=fun w' f'=>by
    exact y_PiecesR ((hp.still fr).still f') s rt ri hl
   have HPC:=@Hd _ PC
   have ltb:bl<wq.heap.size:=World.block_lt_of_cell? _ _ cv
   have HQ:=@Hd _ (fun(w2:World) (gg:Option Addr) (cap:Nat) (ts2:List Int) (f2:St wq w2) (h2:∀x,x∈ts2 ↔ ∃v∈Q,x=((fi nu+8 * v:Nat):Int)) (h2l:ts2.length=Q.length) (h2r:w2.ownsRow wq.drew.heap.size 3 1 (.slice gg ts2.length cap) ts2.length (ts2.map (Value.int .i64)))=>show ∃v3 w3,(Builtin.append_ #[45,45] 45 #[v,.slice gg ts2.length cap]).run Tryz.prog w2 = .ok v3 w3/\∃va3 vc3,v3 = .slice va3 (ts.length+ts2.length) vc3/\w3.cell? ⟨bl,0,none⟩=some v/\w3.frozen? ⟨bl,0,none⟩=false/\w3.cell? ⟨b0,o0+j * 2,none⟩=some (.int .u64 (p.1:Nat))/\(w3.setCell ⟨bl,0,none⟩ v3).cell? ⟨b0,o0+j * 2,none⟩=some (.int .u64 (p.1:Nat))/\((ts ++ ts2).length<=800 * (j+1)/\Liv nu (ts ++ ts2) (Qs.take (j+1)).flatten/\(w3.setCell ⟨bl,0,none⟩ v3).heap[bl]? = some (.cells #[v3] 45 (0,0))/\(w3.setCell ⟨bl,0,none⟩ v3).ownsRow (bl+1) 3 1 v3 (ts ++ ts2).length ((ts ++ ts2).map (Value.int .i64))/\St w (w3.setCell ⟨bl,0,none⟩ v3)) from by
    have row2:=own_still row f2
    obtain⟨v3,w3,hap,hw3,hgr,hloc⟩:=run_more elt_I 45 row2 (sl_of_row h2r (int_one ts2)) (by omega) (by have:=f2.size;omega)
    obtain⟨va3,vc3,e3⟩:=rows_form hw3
    have f3:Fr (fun k=>v.ownBlock=some k) w2 w3:=(Fr.refl _ w2).grown hgr (fun k hk=>.inl hk)
    have nbl:v.ownBlock≠some bl:=fun e=>by have:=(row.lt _ e).1;omega
    have nb0:v.ownBlock≠some b0:=fun e=>by have:=(row.lt _ e).1;omega
    have ov3:=f3.obj (f2.obj ov id) nbl
    have cR3:=f3.cell' (f2.cell' cR id) nb0
    have fs:Fr (fun k=>k=bl) w3 (w3.setCell ⟨bl,0,none⟩ v3):=(Fr.refl (fun k=>k=bl) w3).setCell (.inl rfl) _
    refine⟨v3,w3,hap,va3,vc3,e3,cOo ov3 0,by simp[World.frozen?,ov3],cR3,fs.cell' cR3 (show b0≠bl by omega),by rw[List.length_append];omega,fun x=>?_,heap_setCell_same w3 bl 0 _ _ v3 ov3,?_,?_⟩
    ·rw[List.mem_append,liv,h2,List.take_add_one,hQ]
     simp only[Option.toList_some,List.flatten_append,List.flatten_cons,List.flatten_nil,List.append_nil,List.mem_append]
     constructor
     ·rintro(⟨y,h1,h2⟩ | ⟨y,h1,h2⟩)
      ·exact⟨y,.inl h1,h2⟩
      ·exact⟨y,.inr h1,h2⟩
     ·rintro⟨y,h1 | h1,h2⟩
      ·exact .inl ⟨y,h1,h2⟩
      ·exact .inr ⟨y,h1,h2⟩
    ·rw[List.length_append,List.map_append]
     exact ownsRow_setCell_other hw3 (fun e=>by have:=(hw3.lt _ e).1;have e2:bl+1<=bl:=this;omega) _
    ·refine(((fr.trans' f2 nE).trans' f3 (fun k hk=>.inr (by have:=(row.lt k hk).1;omega)))).trans' fs (fun k hk=>.inr (by rw[hk,<-hbl];exact Nat.le_refl _)))
   have q0:j * 2=j * 2:=rfl
   have fD:St wq wq.drew:=(Fr.refl _ wq).drewN 1
   have cvd:wq.drew.cell? ⟨bl,0,none⟩=some v:=cv
   have hj5:j<=5:=by omega
   clear PC hp s hS hq hr hm rt ri hl row liv htl few zv hp1 hQ fr ov cR0 q0
   generalize hnn:rs.length=n at *
   go_wp2_with fail
   refine wp_region_held_drew (S:=fun w'=>w'.cell? ⟨b0,o0+j * 2,none⟩=some (.int .u64 (p.1:Nat))) (by kernel_rfl) cR (fun hHeld=>?_)
   refine tkO 1 ?_ hHeld rfl ?_ ?_
   rotate_left
   ·intro w q;go_simp;try with_reducible rfl
   simp only[apt,List.set]
   refine tkO 2 ?_ hHeld rfl ?_ ?_
   rotate_left
   ·intro w q;go_simp;try with_reducible rfl
   simp only[apt,List.set]
   refine tkO 3 ?_ hHeld rfl ?_ ?_
   rotate_left
   ·intro w q;go_simp;try with_reducible rfl
   simp only[apt,List.set]
   refine tkO 4 ?_ hHeld rfl ?_ ?_
   rotate_left
   ·intro w q;go_simp;try with_reducible rfl
   simp only[apt,List.set]
   refine tkO 5 (.pointer (some ⟨b0,o0+j * 2,none⟩)) hHeld rfl ?_ ?_
   ·(intro w q;go_simp;(try with_reducible rfl))
   simp only[apt,List.set]
   refine tkO 6 ?_ hHeld rfl ?_ ?_
   rotate_left
   ·intro w q;go_simp;try with_reducible rfl
   simp only[apt,List.set]
   refine tkO 7 (.int .u64 (p.1:Nat)) hHeld rfl ?_ ?_
   ·intro w q;go_simp;try with_reducible rfl
   simp only[apt,List.set]
   clear hHeld
   refine wpAnyH_ready (rs:=[0,8]) (by kernel_rfl) (by simp) ?_
   refine AllReadyH.cons rfl (fun K hK=>?_) (AllReadyH.cons rfl (fun K hK=>?_) AllReadyH.nil)
   ·go_simp
    refine hK.out _ _ cR (fun _=>?_)
    clear hK K
    refine rdO 8 rfl (fun K hK=>?_)
    go_simp
    go_wp2_with fail
    refine(uh HPC _ fD).mono ?_
    rintro e w2 ⟨gg,cap,ts2,rfl,h2,h2l,h2r,f2d⟩
    have H2L:=Hd h2l
    clear h2l
    have f2:St wq w2:=fD.trans' f2d nE
    have cv2:=f2.cell' cv id
    refine hK.out _ _ (f2.cell' cR id) (fun _=>?_)
    clear hK K
    obtain⟨v3,w3,hap,FX⟩:=uh HQ w2 gg cap ts2 f2 h2 (uh H2L) h2r
    refine rdO 9 rfl (fun K hK=>?_)
    refine stp_append rfl (.tmp 14) (.tmp 22) 45 rfl _ _ rfl rfl v3 w3 hap ?_
    obtain⟨va3,vc3,rfl,y1,y2,y3,y4,y5⟩:=FX
    refine hK.out _ _ y3 (fun _=>?_)
    clear hK K
    simp only[Act.put,List.setIfInBounds_toArray]
    refine rdO 10 rfl (fun K hK=>?_)
    go_simp
    refine hK.out _ _ y4 (fun _=>?_)
    clear hK K
    refine wpAnyH_done (by kernel_rfl) ?_ _
    have HY:=Hd y5
    clear y5 y1 y2 y3 y4 hap
    go_wp2_with fail
    obtain⟨q1,q2,q3,q4,q5⟩:=uh HY
    exact⟨⟨j+1,ts ++ ts2,_,by omega,by simp,q1,q2,q3,q4,q5⟩,by simp[intOf];omega⟩
   ·go_simp
    go_wp2_with fail
    refine(uh HPC _ fD).mono ?_
    rintro e w2 ⟨gg,cap,ts2,rfl,h2,h2l,h2r,f2d⟩
    have H2L:=Hd h2l
    clear h2l
    have f2:St wq w2:=fD.trans' f2d nE
    have cv2:=f2.cell' cv id
    refine hK.out _ _ (f2.cell' cR id) (fun _=>?_)
    clear hK K
    refine rdO 0 rfl (fun K hK=>?_)
    go_simp
    refine hK.out _ _ (f2.cell' cR id) (fun _=>?_)
    clear hK K
    obtain⟨v3,w3,hap,FX⟩:=uh HQ w2 gg cap ts2 f2 h2 (uh H2L) h2r
    refine rdO 9 rfl (fun K hK=>?_)
    refine stp_append rfl (.tmp 14) (.tmp 22) 45 rfl _ _ rfl rfl v3 w3 hap ?_
    obtain⟨va3,vc3,rfl,y1,y2,y3,y4,y5⟩:=FX
    refine hK.out _ _ y3 (fun _=>?_)
    clear hK K
    simp only[Act.put,List.setIfInBounds_toArray]
    refine rdO 10 rfl (fun K hK=>?_)
    go_simp
    refine hK.out _ _ y4 (fun _=>?_)
    clear hK K
    refine wpAnyH_done (by kernel_rfl) ?_ _
    have HY:=Hd y5
    clear y5 y1 y2 y3 y4 hap
    go_wp2_with fail
    obtain⟨q1,q2,q3,q4,q5⟩:=uh HY
    exact⟨⟨j+1,ts ++ ts2,_,by omega,by simp,q1,q2,q3,q4,q5⟩,by simp[intOf];omega⟩
  ·have e:j=rs.length:=by omega
   subst e
   have hlt':¬(rs.length:Int)<rs.length:=by omega
   obtain⟨hp,s,hS,hq,hr,hm⟩:=uh HH
   have htk:Qs.take rs.length=Qs:=by rw[<-hq,List.take_length]
   rw[htk] at liv
   obtain⟨va,vc,rfl⟩:=rows_form row
   have SL:=sl_of_row row (int_one ts)
   have cv:wq.cell? ⟨bl,0,none⟩=some (.slice va ts.length vc):=cOo ov 0
   have SW:=h_sweep (bl:=bl) (hp.still fr) s (fun u=>decide (u∈Qs.flatten)) hm (fun w' f' u hu=>by
    refine(t_keep bl va vc ts w' (f'.cell' cv id) (SL.still f') (by omega) ((fi nu:Int)+(u:Int) * 8)).mono ?_
    rintro e w'' ⟨rfl,rfl⟩
    refine⟨?_,⟨0,rfl⟩⟩
    have hiff:((fi nu:Int)+(u:Int) * 8)∈ts ↔ u∈Qs.flatten:=by
     rw[liv]
     exact⟨fun⟨y,h1,h2⟩=>by
      have:y=u:=by omega
      exact this▸h1,fun h=>⟨u,h,by omega⟩⟩
    rw[decide_eq_decide.2 hiff])
   have HSW:=Hd SW
   have HL:=Hd (ai fr hp)
   have HS0:=Hd s
   clear SW SL cv row ov liv hp s hS hq hr hm fr
   generalize rs.length=n at *
   go_wp2_with fail
   refine(uh HSW).mono ?_
   rintro e w5 ⟨k,rfl,hk,g,tg,sg,ak,ke,ro⟩
   go_wp2_with fail
   go_end0
   obtain⟨fr,hp⟩:=uh HL
   refine⟨rfl,g,(tg.after fr).le ?_,sg,fun u=>?_,ke,ro⟩
   ·have h1:=gone_len (fun u=>decide (u∈Qs.flatten)) (plU (ask nu (says P A)) nu)
    have h2:(plU (ask nu (says P A)) nu).length=cnt nu (ask nu (says P A)):=by rw[plU_len];rfl
    omega
   ·rw[ak]
    by_cases hu:u∈Qs.flatten
    ·rw[if_pos hu,if_neg (fun hm=>by
      have:=(List.mem_filter.1 hm).2
      simp[hu] at this)]
    ·rw[if_neg hu]
     by_cases h0:ask nu (says P A) u=0
     ·split
      ·rfl
      ·exact h0
     ·have hin:u∈goneU (fun u=>decide (u∈Qs.flatten)) (plU (ask nu (says P A)) nu):=List.mem_filter.2 ⟨plU_mem.2 ⟨((uh HS0).inv.asks u h0).1,h0⟩,by simp only[decide_eq_false hu];rfl⟩
      rw[if_pos hin]
end
end

section
structure OpK where
 kd:Int
 key:ByteArray
 v:Nat
def OpsK (w:World) (a:Option Addr) (len:Nat) (z:Nat->OpK):Prop:=
 ∀k,k<len->(∃xb xo,a=some ⟨xb,xo,none⟩/\w.cell? ⟨xb,xo+k * 3,none⟩=some (.int .i64 (z k).kd)/\w.cell? ⟨xb,xo+k * 3+1,none⟩=some (.string (z k).key)/\w.cell? ⟨xb,xo+k * 3+2,none⟩=some (.int .u64 ((z k).v:Nat)))/\(z k).v<18446744073709551616
theorem OpsK.still {w w':World} {a:Option Addr} {len:Nat} {z:Nat->OpK} (h:OpsK w a len z) (f:St w w'):OpsK w' a len z:=fun k hk=>by
 obtain⟨⟨xb,xo,e,c0,c1,c2⟩,hv⟩:=h k hk
 exact⟨⟨xb,xo,e,f.cell' c0 id,f.cell' c1 id,f.cell' c2 id⟩,hv⟩
theorem add_noneK (xb xo k:Nat):(⟨xb,xo,none⟩:Addr).add k=⟨xb,xo+k,none⟩:=by unfold Addr.add;split <;> simp_all
section
variable {H:Type} {enc:TypeId×Value->H} {P:Program} {w:World} {base:Nat} {held:Bool}
theorem three_cellsK {e:TypeId} {f0 f1 f2:Field} {n:Nat} {y:Addr} {k:Nat} {d:DataW H×List MemPlace} {cs:List Value} (he:P.underlying e=some (.struct #[f0,f1,f2]))
  (o0:f0.offset=0) (o1:f1.offset=1) (o2:f2.offset=2) (c0:P.cellsOf f0.type=1) (c1:P.cellsOf f1.type=1) (c2:P.cellsOf f2.type=1)
  (h1:w.cells? base (y.add (k * 3)) 3=some cs) (h2:DataW.trod enc P w base (fun _=>true) held n e cs=some d) :
  ∃(v0 v1 v2:Value) (q:Nat) (y0 y1 y2:DataW H×List MemPlace),w.cell? (y.add (k * 3))=some v0/\w.cell? (y.add (k * 3+1))=some v1/\w.cell? (y.add (k * 3+2))=some v2/\
   DataW.trod enc P w base (fun _=>true) held q f0.type [v0]=some y0/\DataW.trod enc P w base (fun _=>true) held q f1.type [v1]=some y1/\DataW.trod enc P w base (fun _=>true) held q f2.type [v2]=some y2:=by
 obtain⟨_,hlen,hcell⟩:=World.cells?_some h1
 obtain⟨xs,q,hq,hxy,_,hxl,hf⟩:=DataW.trod_struct he h2
 match xs,hxl,cs,hlen with
 | [y0,y1,y2],_,[v0,v1,v2],_=>
  have g0:=hf 0 f0 rfl
  have g1:=hf 1 f1 rfl
  have g2:=hf 2 f2 rfl
  simp[o0,o1,o2,c0,c1,c2] at g0 g1 g2
  have e0:=hcell 0 (by omega)
  have e1:=hcell 1 (by omega)
  have e2:=hcell 2 (by omega)
  rw[Go.Deep.add_add] at e0 e1 e2
  exact⟨v0,v1,v2,q,y0,y1,y2,by simpa using e0,by simpa using e1,by simpa using e2,g0,g1,g2⟩
theorem wf64K (a:Int) (h:(Lit.int .u64 a).wf=true):∃n:Nat,a=n/\n<18446744073709551616:=by
 simp[Lit.wf,IntKind.min,IntKind.max,IntKind.signed,IntKind.bits] at h
 exact⟨a.toNat,by omega,by omega⟩
end
section
variable {H:Type} {enc:TypeId×Value->H} {w:World} {base:Nat} {held:Bool}
theorem in_opsK {fuel:Nat} {a:Option Addr} {len cap:Nat} {x:DataW H×List MemPlace} (h:DataW.trod enc Tryz.prog w base (fun _=>true) held fuel 52 [.slice a len cap]=some x) :
  ∃z,OpsK w a len z/\len<=maxLen:=by
 rcases Go.Deep.open_slice Tryz.underlying52 h with ⟨hcs,rfl⟩ | ⟨y,l,c,m,n,D,Pl,hcs,_,hl,hm,hmm,rfl,hx⟩
 ·simp at hcs
  obtain⟨rfl,rfl,rfl⟩:=hcs
  exact⟨fun _=>⟨0,⟨#[]⟩,0⟩,fun k hk=>by omega,Nat.zero_le _⟩
 ·simp at hcs
  obtain⟨rfl,rfl,rfl⟩:=hcs
  have hlm:len<=m:=by rw[hmm];split <;> omega
  have ce:Tryz.prog.cellsOf 54=3:=by kernel_rfl
  rw[ce] at hx
  have each:∀k,k<len->∃z:OpK,(w.cell? (y.add (k * 3))=some (.int .i64 z.kd)/\w.cell? (y.add (k * 3+1))=some (.string z.key)/\w.cell? (y.add (k * 3+2))=some (.int .u64 (z.v:Nat)))/\z.v<18446744073709551616:=by
   intro k hk
   obtain⟨cs',h1,h2⟩:=hx k (by omega)
   obtain⟨v0,v1,v2,q,y0,y1,y2,e0,e1,e2,g0,g1,g2⟩:=three_cellsK Tryz.underlying54 rfl rfl rfl (by kernel_rfl) (by kernel_rfl) (by kernel_rfl) h1 h2
   obtain⟨n0,hn0,_⟩:=DataW.trod_int Tryz.underlying3 g0
   obtain⟨s1,hs1,_⟩:=DataW.trod_string Tryz.underlying9 g1
   obtain⟨n2,hn2,_,hw2⟩:=DataW.trod_int Tryz.underlying27 g2
   obtain⟨m2,rfl,hm2⟩:=wf64K n2 hw2
   simp at hn0 hs1 hn2
   exact⟨⟨n0,s1,m2⟩,⟨by rw[e0,hn0],by rw[e1,hs1],by rw[e2,hn2]⟩,hm2⟩
  have hz:∃z:Nat->OpK,∀k,k<len->(w.cell? (y.add (k * 3))=some (.int .i64 (z k).kd)/\w.cell? (y.add (k * 3+1))=some (.string (z k).key)/\w.cell? (y.add (k * 3+2))=some (.int .u64 ((z k).v:Nat)))/\(z k).v<18446744073709551616:=by
   classical
   refine⟨fun k=>if hk:k<len then Classical.choose (each k hk) else ⟨0,⟨#[]⟩,0⟩,fun k hk=>?_⟩
   simp only[dif_pos hk]
   exact Classical.choose_spec (each k hk)
  obtain⟨z,hz⟩:=hz
  refine⟨z,fun k hk=>⟨?_,(hz k hk).2⟩,Nat.le_trans hl hm⟩
  obtain⟨xb,xo,sp⟩:=y
  cases sp with
  | none=>
   have e:=(hz k hk).1
   rw[add_noneK,add_noneK,add_noneK] at e
   exact⟨xb,xo,rfl,e.1,by rw[Nat.add_assoc];exact e.2.1,by rw[Nat.add_assoc];exact e.2.2⟩
  | some q=>
   exfalso
   have c0:=(hz 0 (by omega)).1.1
   have hadd:(⟨xb,xo,some q⟩:Addr).add (0 * 3)=⟨xb,xo,some q⟩:=by unfold Addr.add;split <;> simp_all
   rw[hadd] at c0
   simp only[World.cell?] at c0
   split at c0
   ·simp at c0
   ·simp at c0
end
end

section
structure RtL (w:World) (br r:Nat) (v:Value):Prop where
 o:w.heap[br]? = some (.cells #[.int .u64 (r:Nat),v] 35 (0,0))
theorem RtL.lt {w:World} {br r:Nat} {v:Value} (h:RtL w br r v):br<w.heap.size:=(Array.getElem?_eq_some_iff.1 h.o).1
theorem RtL.kept {w w':World} {F:Nat->Prop} {br r:Nat} {v:Value} (h:RtL w br r v) (f:Fr F w w') (n:¬F br):RtL w' br r v:=⟨f.obj h.o n⟩
theorem sl_rootV (w W:World) (r:Nat) (v:Value) (h1:v.oneCell'=true) (hW:w.alloc (.cells #[.int .u64 (r:Nat),v] 35)=W):Sl W 2 (some ⟨w.heap.size,0,none⟩) ([(r,v)]:List (Nat×Value)).length 1 (rtcl [(r,v)]):=by
 have o:W.heap[w.heap.size]? = some (.cells #[.int .u64 (r:Nat),v] 35 (0,0)):=hW▸heap_alloc_new w _
 exact⟨rfl,Nat.le_refl _,(fun e=>by cases e),(fun u hu=>by
  simp only[rtcl,List.mem_cons,List.not_mem_nil,or_false] at hu
  rcases hu with rfl | rfl
  ·rfl
  ·exact h1),(fun j u hu=>⟨w.heap.size,0,rfl,by
  rw[Nat.zero_add,cOo o j,<-hu]
  simp[rtcl]⟩),(fun x e=>by cases e;rfl)⟩
theorem with_put (a:Option Addr) (c:Nat) (l:List Pr) (x:ByteArray) (v:Nat) (w:World) (h:Lf w a c l) (hl:l.length<=500) (ri:Rise l) :
  Calls Tryz.prog 31 #[.slice a l.length c,.agg #[.string x,.int .u64 (v:Nat)],.bool false] w fun e w'=>∃u,e = .returned u/\w'.ownsRow w.heap.size 43 2 u (putP l x v).length (pcl (putP l x v))/\St w w':=by
 obtain⟨k,fk⟩:=fst_of x (l.map (·.1)) ri.keys
 have hk:k<=l.length:=by have:=fk.le;simpa using this
 have e:=putL_putP (v:=v) fk rfl
 have:=l11_with a c l x v k _ false w h hl hk (fun t ht=>by rw[<-keys_getD l t (by omega)];exact fk.lo t ht) (fun hlt=>by rw[<-keys_getD l k hlt];exact fk.hi k (Nat.le_refl _) (by simpa using hlt)) rfl
 rw[show wthL l k _ x v false=putP l x v from e] at this
 exact this
section
variable {nu sz:Nat} {w w' w0:World} {hb sb b bs bh br bl bi:Nat} {T:Tay} {A:Ab} {P:List (Int×Int)} {r i:Nat} {L:List Pr} {Q:List Nat}
end
end

section
theorem fst_none {x:ByteArray} {l:List Pr} {k:Nat} (ri:Rise l) (f:Fst (l.map (·.1)) x k) (hk:¬(k<l.length/\(l.getD k default).1=x)):∀p∈l,p.1≠x:=by
 intro p hp e
 obtain⟨t,ht,rfl⟩:=List.mem_iff_getElem.1 hp
 have kd:∀t (h:t<l.length),(l.map (·.1)).getD t default=(l[t]).1:=fun t h=>by simp[List.getD,h]
 by_cases h1:t<k
 ·have:=f.lo t h1
  rw[kd t ht,e] at this
  exact ltK_irr x this
 ·by_cases h2:t=k
  ·subst h2
   exact hk ⟨ht,by simp[List.getD,ht,e]⟩
  ·have h3:=List.pairwise_iff_getElem.1 ri k t (by omega) ht (by omega)
   have h4:=f.hi k (Nat.le_refl _) (by simp;omega)
   rw[kd k (by omega)] at h4
   rw[e] at h3
   exact h4 h3
theorem with_del (a:Option Addr) (c:Nat) (l:List Pr) (x:ByteArray) (w:World) (h:Lf w a c l) (hl:l.length<=500) (ri:Rise l) :
  Calls Tryz.prog 31 #[.slice a l.length c,.agg #[.string x,.int .u64 ((0:Nat):Int)],.bool true] w fun e w'=>∃u,e = .returned u/\w'.ownsRow w.heap.size 43 2 u (delP l x).length (pcl (delP l x))/\St w w':=by
 obtain⟨k,fk⟩:=fst_of x (l.map (·.1)) ri.keys
 have hk:k<=l.length:=by have:=fk.le;simpa using this
 have:=l11_with a c l x 0 k _ true w h hl hk (fun t ht=>by rw[<-keys_getD l t (by omega)];exact fk.lo t ht) (fun hlt=>by rw[<-keys_getD l k hlt];exact fk.hi k (Nat.le_refl _) (by simpa using hlt)) rfl
 have e:wthL l k (if k<l.length/\(l.getD k default).1=x then k+1 else k) x 0 true=delP l x:=by
  unfold wthL
  by_cases hc:k<l.length/\(l.getD k default).1=x
  ·rw[if_pos hc,if_pos rfl,List.nil_append]
   exact delP_fst ri fk hc.1 hc.2
  ·rw[if_neg hc,if_pos rfl,List.nil_append,List.take_append_drop]
   exact(delP_none (fst_none ri fk hc)).symm
 rw[e] at this
 exact this
section
variable {nu sz:Nat} {w w' w0:World} {hb sb b:Nat} {T:Tay} {A:Ab} {P:List (Int×Int)}
set_option maxRecDepth 100000 in
theorem y_PutBad (hv:Value) (r v:Nat) (x:ByteArray) (hx:x.size<1\/80<x.size) (w:World) :
  Calls Tryz.prog 11 #[ptr sb,hv,.int .u64 (r:Nat),.string x,.int .u64 (v:Nat)] w fun e w'=>e = .panicked (errnoQ 1)/\St w w':=by
 by_cases h:x.size<1
 ·clear hx
  have h0:((x.size:Int)<1)=True:=by simp;omega
  go_enter Tryz.func11,Tryz.ntmps11
  go_wp2_with fail
  exact⟨rfl,rfl,((((Fr.refl _ w).alloc _).alloc _).alloc _).alloc _⟩
 ·have h2:80<x.size:=by omega
  have h0:((x.size:Int)<1)=False:=by simp;omega
  have h1:((80:Int)<x.size)=True:=by simp;omega
  clear hx h h2
  go_enter Tryz.func11,Tryz.ntmps11
  go_wp2_with fail
  exact⟨rfl,rfl,((((Fr.refl _ w).alloc _).alloc _).alloc _).alloc _⟩
def DoE (nu sz:Nat) (w:World) (sb b:Nat) (T:Tay) (A:Ab) (P:List (Int×Int)) (L':List Pr) (w':World) (e:Ending):Prop:=
 ∃T' P' Q' k va vc,∃r':Nat,e = .returned (.tuple #[.agg #[.int .u64 (r':Nat),.slice va L'.length vc],.bool true])/\(L'.length<=62->k<=13)/\Onx w sb b T w' T' sz A P' false/\P'.length<=P.length+1600/\Chg nu (says P A) k (says P' A)/\Rt nu sz (says P' A) r' L' Q'/\w'.ownsRow w.heap.size 43 2 (.slice va L'.length vc) L'.length (pcl L')/\∀j,w.heap.size<=j->j<w'.heap.size->(Value.slice va L'.length vc).ownBlock=some j->¬tfoot sb b T' j
set_option maxRecDepth 100000 in
theorem do_put (h:Hp nu sz w hb sb b T A P) (s:HpS nu (says P A)) {r:Nat} {L:List Pr} {Q:List Nat} (rt:Rt nu sz (says P A) r L Q) (pk:Pok L) (ri:Rise L) (hl:L.length<=200) (la:Option Addr) (lc:Nat) (hL:Lf w la lc L) (hla:∀y,la=some y->¬tfoot sb b T y.block) (x:ByteArray) (v:Nat) (hx:1<=x.size/\x.size<=80) (hv:v<18446744073709551616) (kv:Value) (hP:P.length+3000<=6144) (room:cnt nu (ask nu (says P A))+30<nu / 4) (low:∀u,ask nu (says P A) u<=32) :
  Calls Tryz.prog 26 #[ptr sb,ptr hb,.agg #[.int .u64 (r:Nat),.slice la L.length lc],.agg #[.int .i64 0,.string x,.int .u64 (v:Nat)],kv] w fun e w'=>DoE nu sz w sb b T A P (putP L x v) w' e:=by
 obtain⟨g,hg⟩:∃g,w.heap.size=g:=⟨_,rfl⟩
 obtain⟨W1,hW1⟩:∃W,w.alloc (.cells #[.int .u64 (r:Nat),.slice la L.length lc] 35)=W:=⟨_,rfl⟩
 obtain⟨W2,hW2⟩:∃W,W1.alloc (.cells #[.int .i64 0,.string x,.int .u64 (v:Nat)] 54)=W:=⟨_,rfl⟩
 obtain⟨W,hW⟩:∃W,W2.alloc (.cells #[.int .u64 0,.slice none 0 0] 35)=W:=⟨_,rfl⟩
 have z1:W1.heap.size=g+1:=by rw[<-hW1];simp[hg]
 have z2:W2.heap.size=g+2:=by rw[<-hW2];simp;omega
 have f1:St w W1:=hW1▸(Fr.refl _ w).alloc _
 have f2:St W1 W2:=hW2▸(Fr.refl _ W1).alloc _
 have f3:St W2 W:=hW▸(Fr.refl _ W2).alloc _
 have f23:St W1 W:=f2.trans' f3 nE
 have fW:St w W:=f1.trans' f23 nE
 have o0:W.heap[g]? = some (.cells #[.int .u64 (r:Nat),.slice la L.length lc] 35 (0,0)):=by
  have:=heap_alloc_new w (.cells #[.int .u64 (r:Nat),.slice la L.length lc] 35)
  rw[hW1,hg] at this;exact f23.obj this id
 have o1:W.heap[g+1]? = some (.cells #[.int .i64 0,.string x,.int .u64 (v:Nat)] 54 (0,0)):=by
  have:=heap_alloc_new W1 (.cells #[.int .i64 0,.string x,.int .u64 (v:Nat)] 54)
  rw[hW2,z1] at this;exact f3.obj this id
 have o2:W.heap[g+2]? = some (.cells #[.int .u64 0,.slice none 0 0] 35 (0,0)):=by
  have:=heap_alloc_new W2 (.cells #[.int .u64 0,.slice none 0 0] 35)
  rw[hW,z2] at this;exact this
 have c10:W.cell? ⟨g+1,0,none⟩=some (.int .i64 0):=cOo o1 0
 have HW:=Hd (ai hW1 (ai hW2 hW))
 have HCE:=@Hd _ (fun(w':World) (F:Nat->Prop) (f:Fr F W w') (n:∀k,F k->k<g)=>show w'.cell? ⟨g,0,none⟩=some (.int .u64 (r:Nat))/\w'.cell? ⟨g,1,none⟩=some (.slice la L.length lc)/\w'.cell? ⟨g+1,1,none⟩=some (.string x)/\w'.cell? ⟨g+1,2,none⟩=some (.int .u64 (v:Nat))/\w'.heap[g+1+1]? = some (.cells #[.int .u64 0,.slice none 0 0] 35 (0,0)) from⟨cOo (f.obj o0 (fun x=>by have:=n _ x;omega)) 0,cOo (f.obj o0 (fun x=>by have:=n _ x;omega)) 1,cOo (f.obj o1 (fun x=>by have:=n _ x;omega)) 1,cOo (f.obj o1 (fun x=>by have:=n _ x;omega)) 2,f.obj o2 (fun x=>by have:=n _ x;omega)⟩)
 rw[<-hW,<-hW2,<-hW1] at c10
 have HX:=Hd (ai h (ai s (ai rt (ai pk (ai ri (ai hl (ai hL (ai hla (ai hx (ai hv (ai hP (ai room (ai low fW)))))))))))))
 clear h s rt pk ri hl hL hla hx hv hP room low fW f1 f2 f3 f23 o0 o1 o2 hW hW1 hW2 z1 z2
 go_enter Tryz.func26,Tryz.ntmps26
 go_wp2_with fail
 obtain⟨hW1,hW2,hW⟩:=uh HW
 rw[hW1,hW2,hW]
 clear hW1 hW2 hW HW c10
 have fD:St W W.drew:=(Fr.refl _ W).drewN 1
 obtain⟨e0,e1,e2,e3,-⟩:=uh HCE W.drew _ fD nE
 have PT:=(by obtain⟨h,s,rt,pk,ri,hl,hL,hla,hx,hv,hP,room,low,fW⟩:=uh HX;exact y_Put ((h.still fW).still fD) s rt pk ri hl x v hx hv hP room low:Calls Tryz.prog 11 #[ptr sb,ptr hb,.int .u64 (r:Nat),.string x,.int .u64 (v:Nat)] W.drew _)
 have HP:=Hd PT;have HD:=Hd fD
 clear PT fD
 refine wp_region_held_drew (S:=fun w'=>w'.cell? ⟨g,0,none⟩=some (.int .u64 (r:Nat))/\w'.cell? ⟨g,1,none⟩=some (.slice la L.length lc)/\w'.cell? ⟨g+1,1,none⟩=some (.string x)/\w'.cell? ⟨g+1,2,none⟩=some (.int .u64 (v:Nat))) (by kernel_rfl) ⟨e0,e1,e2,e3⟩ (fun hHeld=>?_)
 clear e0 e1 e2 e3
 refine tkO 0 ?_ hHeld rfl ?_ ?_
 rotate_left
 ·intro w q;go_simp;try with_reducible rfl
 simp only[apt,List.set]
 refine tkO 1 ?_ hHeld rfl ?_ ?_
 rotate_left
 ·intro w q;go_simp;try with_reducible rfl
 simp only[apt,List.set]
 refine tkO 2 ?_ hHeld rfl ?_ ?_
 rotate_left
 ·intro w q;go_simp;try with_reducible rfl
 simp only[apt,List.set]
 refine tkO 3 ?_ hHeld rfl ?_ ?_
 rotate_left
 ·intro w q;go_simp;try with_reducible rfl
 simp only[apt,List.set]
 refine tkO 4 ?_ hHeld rfl ?_ ?_
 rotate_left
 ·intro w q;go_simp;try with_reducible rfl
 simp only[apt,List.set]
 refine tkO 5 ?_ hHeld rfl ?_ ?_
 rotate_left
 ·intro w q;go_simp;try with_reducible rfl
 simp only[apt,List.set]
 refine tkO 6 ?_ hHeld rfl ?_ ?_
 rotate_left
 ·intro w q;go_simp;try with_reducible rfl
 simp only[apt,List.set]
 refine tkO 7 ?_ hHeld rfl ?_ ?_
 rotate_left
 ·intro w q;go_simp;try with_reducible rfl
 simp only[apt,List.set]
 refine tkO 9 ?_ hHeld rfl ?_ ?_
 rotate_left
 ·intro w q;go_simp;try with_reducible rfl
 simp only[apt,List.set]
 refine tkO 10 ?_ hHeld rfl ?_ ?_
 rotate_left
 ·intro w q;go_simp;try with_reducible rfl
 simp only[apt,List.set]
 refine tkO 11 ?_ hHeld rfl ?_ ?_
 rotate_left
 ·intro w q;go_simp;try with_reducible rfl
 simp only[apt,List.set]
 refine tkO 12 ?_ hHeld rfl ?_ ?_
 rotate_left
 ·intro w q;go_simp;try with_reducible rfl
 simp only[apt,List.set]
 refine tkO 13 ?_ hHeld rfl ?_ ?_
 rotate_left
 ·intro w q;go_simp;try with_reducible rfl
 simp only[apt,List.set]
 refine tkO 14 ?_ hHeld rfl ?_ ?_
 rotate_left
 ·intro w q;go_simp;try with_reducible rfl
 simp only[apt,List.set]
 refine tkO 15 ?_ hHeld rfl ?_ ?_
 rotate_left
 ·intro w q;go_simp;try with_reducible rfl
 simp only[apt,List.set]
 refine rdO 8 rfl (fun K hK=>?_)
 go_simp
 go_wp2_with fail
 refine(uh HP).mono ?_
 clear HP
 rintro e w2 ⟨r',rfl,T2,P2,Q2,k2,hk2,o2,l2,ch2,hr2,rt2⟩
 obtain⟨h,s,rt,pk,ri,hl,hL,hla,hx,hv,hP,room,low,fW⟩:=uh HX
 have oD:=o2.after (uh HD)
 have h2:=(h.still fW).call oD
 have o02:Onx w sb b T w2 T2 sz A P2 false:=oD.after fW
 have lt:∀k,tfoot sb b T k->k<g:=fun k hk=>by rw[<-hg];exact h.st.lt k hk
 obtain⟨e0,e1,e2,e3,oR⟩:=uh HCE w2 _ oD.fr lt
 have lR:g+1+1<W.heap.size:=(Array.getElem?_eq_some_iff.1 (uh HCE W _ (Fr.refl (fun _=>False) W) nE).2.2.2.2).1
 have nR:¬tfoot sb b T2 (g+1+1):=oD.other lR (fun x=>by have:=lt _ x;omega)
 have lR2:g+1+1<w2.heap.size:=Nat.lt_of_lt_of_le lR oD.fr.size
 have hL2:Lf w2 la lc L:=hL.kept o02.fr hla
 have WT:=with_put la lc L x v w2 hL2 (by omega) ri
 have HWT:=Hd WT
 have HY:=Hd (ai h2 (ai o02 (ai hk2 (ai l2 (ai ch2 (ai rt2 (ai oR (ai nR lR2))))))))
 refine hK.out _ _ ⟨e0,e1,e2,e3⟩ (fun _=>?_)
 clear hK K WT hHeld h s rt pk ri hl hL hla hx hv hP room low fW oD h2 o02 lt hL2 hk2 l2 ch2 rt2 oR o2 hr2 HX nR lR lR2
 refine rdO 16 rfl (fun K hK=>?_)
 go_simp
 go_wp2_with fail
 refine(uh HWT).mono ?_
 clear HWT
 rintro e w3 ⟨v',rfl,rv,f3⟩
 obtain⟨h2,o02,hk2,l2,ch2,rt2,oR,nR,lR2⟩:=uh HY
 obtain⟨va,vc,ev⟩:∃va vc,v' = .slice va (putP L x v).length vc:=by
  rcases rowp_form rv with ⟨e,h0⟩ | ⟨gg,cap,e⟩
  ·exact⟨none,0,by rw[e,h0]⟩
  ·exact⟨_,cap,e⟩
 subst ev
 have oR3:=f3.obj oR id
 obtain⟨W4,hW4⟩:∃W,(w3.setCell ⟨g+1+1,0,none⟩ (.int .u64 (r':Nat))).setCell ⟨g+1+1,1,none⟩ (.slice va (putP L x v).length vc)=W:=⟨_,rfl⟩
 have f34:Fr (fun k=>k=g+1+1) w3 W4:=hW4▸((Fr.refl (fun k=>k=g+1+1) w3).setCell (.inl rfl) _).setCell (.inl rfl) _
 have o4:W4.heap[g+1+1]? = some (.cells #[.int .u64 (r':Nat),.slice va (putP L x v).length vc] 35 (0,0)):=hW4▸heap_setCell_same _ (g+1+1) 1 _ _ (.slice va (putP L x v).length vc) (heap_setCell_same w3 (g+1+1) 0 _ _ (.int .u64 (r':Nat)) oR3)
 have c0:w3.cell? ⟨g+1+1,0,none⟩=some (.int .u64 0):=cOo oR3 0
 have c1:w3.cell? ⟨g+1+1,1,none⟩=some (.slice none 0 0):=cOo oR3 1
 have z3:∀o,w3.frozen? ⟨g+1+1,o,none⟩=false:=fun o=>by simp[World.frozen?,oR3]
 have s0:=f3.cell' e0 id;have s1:=f3.cell' e1 id;have s2:=f3.cell' e2 id;have s3:=f3.cell' e3 id
 have S4:W4.cell? ⟨g,0,none⟩=some (.int .u64 (r:Nat))/\W4.cell? ⟨g,1,none⟩=some (.slice la L.length lc)/\W4.cell? ⟨g+1,1,none⟩=some (.string x)/\W4.cell? ⟨g+1,2,none⟩=some (.int .u64 (v:Nat)):=⟨f34.cell' s0 (fun e=>by have e:g=g+1+1:=e;omega),f34.cell' s1 (fun e=>by have e:g=g+1+1:=e;omega),f34.cell' s2 (fun e=>by have e:g+1=g+1+1:=e;omega),f34.cell' s3 (fun e=>by have e:g+1=g+1+1:=e;omega)⟩
 have HZ:=Hd (show DoE nu sz w sb b T A P (putP L x v) W4 (.returned (.tuple #[.agg #[.int .u64 (r':Nat),.slice va (putP L x v).length vc],.bool true])) from
  ⟨T2,P2,Q2,k2,va,vc,r',rfl,hk2.2,(o02.quiet f3).turn f34 (fun k hk=>by rw[hk];exact nR) (fun k hk=>by rw[hk];omega),l2,ch2,rt2,row_lo (row_kept rv f34 (fun k hk e=>by have:=(rv.lt k hk).1;have e:k=g+1+1:=e;omega)) o02.fr.size,fun j _ _ hj ht=>by have:=(rv.lt j hj).1;have:=h2.st.lt j ht;omega⟩)
 have HW4:=Hd hW4;have HO4:=Hd o4
 refine hK.out _ _ ⟨s0,s1,s2,s3⟩ (fun hHeld=>?_)
 clear hK K h2 o02 hk2 l2 ch2 rt2 oR nR lR2 oR3 f34 o4 hW4 rv f3 s0 s1 s2 s3 e0 e1 e2 e3 HY
 refine tkO 17 ?_ hHeld rfl ?_ ?_
 rotate_left
 ·intro w q;go_simp;try with_reducible rfl
 simp only[apt,List.set]
 refine rdO 18 rfl (fun K hK=>?_)
 go_simp
 rw[uh HW4]
 refine hK.out _ _ S4 (fun hHeld=>?_)
 clear hK K c0 c1 z3
 refine tkO 19 ?_ hHeld rfl ?_ ?_
 rotate_left
 ·intro w q;go_simp;try with_reducible rfl
 simp only[apt,List.set]
 refine wpAnyH_done (by kernel_rfl) ?_ _
 go_wp2_with fail
 refine bodyPost_ret (results_ct Tryz.results26 _ _ (g+1+1) #[.int .u64 (r':Nat),.slice va (putP L x v).length vc] (by rfl) (run_loadVar_row _ (g+1+1) 35 35 _ (0,0) _ (uh HO4) Tryz.underlying35 rfl (by kernel_rfl))) rfl ?_
 exact uh HZ
end
end
end Go.Proofs.YtbiopjmpdhcjgaaGreatDoor
