/- Joined: NvD Pq Um Ka Kb Ke Kq Kh KwW. -/
import Derived.Defers
import Derived.Recover
import Derived.Laws.Bits64b
import Derived.Test.YtbiopjmpdhcjgaaGreatDoorRows
import Derived.Deep.QuietTactic
import Derived.BigQuiet
import Derived.WalkKit
import Derived.WalkSpells
import Derived.WalkLawsBesides
import Derived.Handy
import Derived.BigRegion
import Derived.Deep.RegionLawGrows
import Derived.Laws.BitsAllLaws
import Derived.Laws.Bits64
import Derived.Laws.MakeOwn
import Derived.LoopTactic
import Derived.StillTail
import Derived.Below
import Derived.OwnWalk
import Derived.Deep.OwnRows
import Derived.Maps.AppendAt
import Derived.Laws.AppendOwnNone
import Derived.Laws.EntriesVeiled
import Derived.OwnWalkIn
import Derived.TacticsInMore
import Derived.LoopNIn
import Derived.LoopIn
import Derived.RangeFuncCalls
import Derived.Lib.SlicesCompact
import Derived.RangeFuncNested
import Derived.Sort.BigQuietIn
import Derived.Laws.ResultCell
import Derived.Lib.ConvBytes
import Derived.Lib.AppendZerosOnto
import Derived.Shelf.Small.Strs
import Derived.Sort.Walk0
import Derived.Laws.CopyOwn
import Derived.Deep.RegionHeld
import Derived.Test.YtbiopjmpdhcjgaaGreatDoorShelf
import Derived.Lib.TrailingZeros
import Derived.Great.Ranges
import Derived.Great.Walk
import Derived.Laws.Rows
import Derived.Laws.Tables
import Derived.Deep.CutRange
import Derived.Maps.OwnSet
import Derived.Laws.OwnMore
import Derived.Maps.OwnIn
import Derived.Maps.Views
import Derived.Sort.OwnSortedInts
import Derived.Test.YtbiopjmpdhcjgaaGreatDoorS38
namespace Go.Proofs.YtbiopjmpdhcjgaaGreatDoor
open Go.RowKit
set_option maxHeartbeats 4000000

section
section
variable {word:Int} {g:Nat} {first cap:Array Value} {w:World} {F:Nat->Prop} {R:World->Prop}
end
section
variable {w0 w:World} {b:Nat} {F:Nat->Prop} {G:Nat->Option Obj} {A:Ab}
end
section
variable {V:World} {b:Nat} {L:Lay} {A A':Ab} {G G':Nat->Option Obj} {g:Nat} {first cap:Array Value} {word:Int}
end
def msk (z:Int) (m:Nat):Nat:=(BitVec.ofInt 64 z).toNat &&& m
theorem mask_i64 (z:Int) (m:Nat) (hm:m<4294967296):bits .and .i64 z (m:Int)=(msk z m:Int):=by
 have hle:(BitVec.ofInt 64 z).toNat &&& m<=m:=Nat.and_le_right
 have h2:(BitVec.ofInt 64 (m:Int)).toNat=m:=by
  rw[BitVec.ofInt_natCast,BitVec.toNat_ofNat];exact Nat.mod_eq_of_lt (by omega)
 show IntKind.i64.wrap ((BitVec.ofInt 64 z &&& BitVec.ofInt 64 (m:Int)).toNat:Int)=_
 rw[BitVec.toNat_and,h2,IntKind.wrap_i64]
 simp only[msk]
 omega
theorem mask31 (z:Int):bits .and .i64 z 31=(msk z 31:Int):=mask_i64 z 31 (by omega)
end
theorem strB_size (f:Nat->Nat) (n:Nat):(strB f n).size=n:=by rw[strB,strOfNums_size];simp[rowL]

section
section
variable {nu sz:Nat} {w w' w0:World} {hb sb b:Nat} {T:Tay} {A:Ab} {P:List (Int×Int)}
structure Rq (nu sz:Nat) (f:Nat->Int) (r:Nat) (Q:List Nat):Prop where
 t:∃h u l,r=fi nu+8 * u/\Tr nu sz f h u l Q/\Rise l/\l.length<=400
set_option maxRecDepth 100000 in
theorem t_sweep (hp:Hp nu sz w hb sb b T A P) (s:HpS nu (says P A)) (a:Option Addr) (c:Nat) (rs:List (Nat×Value)) (Qs:List (List Nat)) (hS:Sl w 2 a rs.length c (rtcl rs)) (hq:Qs.length=rs.length) (hr:∀(i:Nat) (p:Nat×Value) (Q:List Nat),rs[i]? = some p->Qs[i]? = some Q->Rq nu sz (says P A) p.1 Q) (hn:rs.length<=5) (hm:P.length+10 * cnt nu (ask nu (says P A))+10<=6144) :
  Calls Tryz.prog 13 #[ptr sb,ptr hb,.slice a rs.length c] w fun e w'=>e = .returned (.tuple #[])/\∃g,To sz w sb b T A w' g (P.length+10 * cnt nu (ask nu (says P A)))/\HpS nu g/\(∀u,ask nu g u=if u∈Qs.flatten then ask nu (says P A) u else 0)/\(∀i,fi nu<=i->g i=says P A i)/\∀i,2<=i->i<18->g i=says P A i:=by
 obtain⟨bl,hbl⟩:∃bl,w.heap.size=bl:=⟨_,rfl⟩
 obtain⟨W,hW⟩:∃W,w.alloc (.cells #[.slice none 0 0] 45)=W:=⟨_,rfl⟩
 have fW:St w W:=hW▸(Fr.refl _ w).alloc _
 have oW:W.heap[bl]? = some (.cells #[.slice none 0 0] 45 (0,0)):=by rw[<-hbl,<-hW];exact heap_alloc_new w _
 have HW:=Hd hW
 have HH:=Hd (ai hp (ai s (ai hS (ai hq (ai hr hm)))))
 have HF:=Hd fW
 clear hW hp s hS hq hr hm fW
 go_enter Tryz.func13,Tryz.ntmps13
 go_wp2_with fail
 rw[uh HW]
 go_loopw [7] (fun iv wr=>∃(j:Nat) (ts:List Int) (v:Value),j<=rs.length/\iv = .int .i64 j/\ts.length<=800 * j/\Liv nu ts (Qs.take j).flatten/\wr.heap[bl]? = some (.cells #[v] 45 (0,0))/\wr.ownsRow (bl+1) 3 1 v ts.length (ts.map (Value.int .i64))/\St w wr) (fun iv _=>rs.length - (intOf iv).toNat)
 case atStart=>exact⟨0,[],_,by omega,rfl,by simp,fun x=>by simp,oW,World.ownsRow_nil _ _ _ _,uh HF⟩
 case round=>
  obtain⟨j,ts,v,hj,rfl,htl,liv,ov,row,fr⟩:=hrel
  generalize wr=wq at *
  clear wr
  by_cases hlt:j<rs.length
  ·have hlt':(j:Int)<rs.length:=by omega
   obtain⟨p,hp1⟩:∃p,rs[j]? = some p:=⟨_,List.getElem?_eq_getElem hlt⟩
   obtain⟨hp,s,hS,hq,hr,hm⟩:=uh HH
   obtain⟨Q,hQ⟩:∃Q,Qs[j]? = some Q:=⟨_,List.getElem?_eq_getElem (by omega)⟩
   obtain⟨h,u,l,er,tr,ri,hl⟩:=(hr j p Q hp1 hQ).t
   obtain⟨b0,o0,rfl,cR0⟩:=hS.cells (j * 2) _ (rtcl_at hp1)
   have hb0:b0<bl:=by rw[<-hbl];exact World.block_lt_of_cell? _ _ cR0
   have cR:=fr.cell' cR0 id
   have cv:wq.cell? ⟨bl,0,none⟩=some v:=cOo ov 0
   have zv:wq.frozen? ⟨bl,0,none⟩=false:=by simp[World.frozen?,ov]
   have few:=tr.few
   have PC:∀w',St wq w'->Calls Tryz.prog 37 #[ptr sb,ptr hb,.int .u64 (p.1:Nat)] w' _:=fun w' f'=>by
    rw[er]
    exact y_Pieces ((hp.still fr).still f') s tr ri hl
   have HPC:=@Hd _ PC
   have ltb:bl<wq.heap.size:=World.block_lt_of_cell? _ _ cv
   have HQ:=@Hd _ (fun(w2:World) (gg cap:Nat) (ts2:List Int) (f2:St wq w2) (h2:∀x,x∈ts2 ↔ ∃v∈Q,x=((fi nu+8 * v:Nat):Int)) (h2l:ts2.length=Q.length) (h2r:w2.ownsRow wq.drew.heap.size 3 1 (.slice (some ⟨gg,0,none⟩) ts2.length cap) ts2.length (ts2.map (Value.int .i64)))=>show ∃v3 w3,(Builtin.append_ #[45,45] 45 #[v,.slice (some ⟨gg,0,none⟩) ts2.length cap]).run Tryz.prog w2 = .ok v3 w3/\∃va3 vc3,v3 = .slice va3 (ts.length+ts2.length) vc3/\w3.cell? ⟨bl,0,none⟩=some v/\w3.frozen? ⟨bl,0,none⟩=false/\w3.cell? ⟨b0,o0+j * 2,none⟩=some (.int .u64 (p.1:Nat))/\(w3.setCell ⟨bl,0,none⟩ v3).cell? ⟨b0,o0+j * 2,none⟩=some (.int .u64 (p.1:Nat))/\((ts ++ ts2).length<=800 * (j+1)/\Liv nu (ts ++ ts2) (Qs.take (j+1)).flatten/\(w3.setCell ⟨bl,0,none⟩ v3).heap[bl]? = some (.cells #[v3] 45 (0,0))/\(w3.setCell ⟨bl,0,none⟩ v3).ownsRow (bl+1) 3 1 v3 (ts ++ ts2).length ((ts ++ ts2).map (Value.int .i64))/\St w (w3.setCell ⟨bl,0,none⟩ v3)) from by
    have row2:=own_still row f2
    obtain⟨v3,w3,hap,hw3,hgr,hloc⟩:=run_more elt_I 45 row2 (sl_of_row h2r (int_one ts2)) (by omega) (by have:=f2.size;omega)
    obtain⟨va3,vc3,e3⟩:=rows_form hw3
    have f3:Fr (fun k=>v.ownBlock=some k) w2 w3:=(Fr.refl _ w2).grown hgr (fun k hk=>.inl hk)
    have nbl:v.ownBlock≠some bl:=fun e=>by have:=(row.lt _ e).1;omega
    have nb0:v.ownBlock≠some b0:=fun e=>by have:=(row.lt _ e).1;omega
    have ov3:=f3.obj (f2.obj ov id) nbl
    have cR3:=f3.cell' (f2.cell' cR id) nb0
    have fs:Fr (fun k=>k=bl) w3 (w3.setCell ⟨bl,0,none⟩ v3):=(Fr.refl (fun k=>k=bl) w3).setCell (.inl rfl) _
    refine⟨v3,w3,hap,va3,vc3,e3,cOo ov3 0,by simp[World.frozen?,ov3],cR3,fs.cell' cR3 (show b0≠bl by omega),by rw[List.length_append];omega,fun x=>?_,heap_setCell_same w3 bl 0 _ _ v3 ov3,?_,?_⟩
    ·rw[List.mem_append,liv,h2,List.take_add_one,hQ]
     simp only[Option.toList_some,List.flatten_append,List.flatten_cons,List.flatten_nil,List.append_nil,List.mem_append]
     constructor
     ·rintro(⟨y,h1,h2⟩ | ⟨y,h1,h2⟩)
      ·exact⟨y,.inl h1,h2⟩
      ·exact⟨y,.inr h1,h2⟩
     ·rintro⟨y,h1 | h1,h2⟩
      ·exact .inl ⟨y,h1,h2⟩
      ·exact .inr ⟨y,h1,h2⟩
    ·rw[List.length_append,List.map_append]
     exact ownsRow_setCell_other hw3 (fun e=>by have:=(hw3.lt _ e).1;have e2:bl+1<=bl:=this;omega) _
    ·refine(((fr.trans' f2 nE).trans' f3 (fun k hk=>.inr (by have:=(row.lt k hk).1;omega)))).trans' fs (fun k hk=>.inr (by rw[hk,<-hbl];exact Nat.le_refl _)))
   have q0:j * 2=j * 2:=rfl
   have fD:St wq wq.drew:=(Fr.refl _ wq).drewN 1
   have cvd:wq.drew.cell? ⟨bl,0,none⟩=some v:=cv
   have hj5:j<=5:=by omega
   clear PC hp s hS hq hr hm er tr ri hl row liv htl few zv hp1 hQ fr ov cR0 q0
   generalize hnn:rs.length=n at *
   go_wp2_with fail
   refine wp_region_held_drew (S:=fun w'=>w'.cell? ⟨b0,o0+j * 2,none⟩=some (.int .u64 (p.1:Nat))) (by kernel_rfl) cR (fun hHeld=>?_)
   refine tkO 1 ?_ hHeld rfl ?_ ?_
   rotate_left
   ·intro w q;go_simp;try with_reducible rfl
   simp only[apt,List.set]
   refine tkO 2 ?_ hHeld rfl ?_ ?_
   rotate_left
   ·intro w q;go_simp;try with_reducible rfl
   simp only[apt,List.set]
   refine tkO 3 ?_ hHeld rfl ?_ ?_
   rotate_left
   ·intro w q;go_simp;try with_reducible rfl
   simp only[apt,List.set]
   refine tkO 4 ?_ hHeld rfl ?_ ?_
   rotate_left
   ·intro w q;go_simp;try with_reducible rfl
   simp only[apt,List.set]
   refine tkO 5 (.pointer (some ⟨b0,o0+j * 2,none⟩)) hHeld rfl ?_ ?_
   ·(intro w q;go_simp;(try with_reducible rfl))
   simp only[apt,List.set]
   refine tkO 6 ?_ hHeld rfl ?_ ?_
   rotate_left
   ·intro w q;go_simp;try with_reducible rfl
   simp only[apt,List.set]
   refine tkO 7 (.int .u64 (p.1:Nat)) hHeld rfl ?_ ?_
   ·intro w q;go_simp;try with_reducible rfl
   simp only[apt,List.set]
   clear hHeld
   refine wpAnyH_ready (rs:=[0,8]) (by kernel_rfl) (by simp) ?_
   refine AllReadyH.cons rfl (fun K hK=>?_) (AllReadyH.cons rfl (fun K hK=>?_) AllReadyH.nil)
   ·go_simp
    refine hK.out _ _ cR (fun _=>?_)
    clear hK K
    refine rdO 8 rfl (fun K hK=>?_)
    go_simp
    go_wp2_with fail
    refine(uh HPC _ fD).mono ?_
    rintro e w2 ⟨gg,cap,ts2,rfl,h2,h2l,h2r,f2d⟩
    have H2L:=Hd h2l
    clear h2l
    have f2:St wq w2:=fD.trans' f2d nE
    have cv2:=f2.cell' cv id
    refine hK.out _ _ (f2.cell' cR id) (fun _=>?_)
    clear hK K
    obtain⟨v3,w3,hap,FX⟩:=uh HQ w2 gg cap ts2 f2 h2 (uh H2L) h2r
    refine rdO 9 rfl (fun K hK=>?_)
    refine stp_append rfl (.tmp 14) (.tmp 22) 45 rfl _ _ rfl rfl v3 w3 hap ?_
    obtain⟨va3,vc3,rfl,y1,y2,y3,y4,y5⟩:=FX
    refine hK.out _ _ y3 (fun _=>?_)
    clear hK K
    simp only[Act.put,List.setIfInBounds_toArray]
    refine rdO 10 rfl (fun K hK=>?_)
    go_simp
    refine hK.out _ _ y4 (fun _=>?_)
    clear hK K
    refine wpAnyH_done (by kernel_rfl) ?_ _
    have HY:=Hd y5
    clear y5 y1 y2 y3 y4 hap
    go_wp2_with fail
    obtain⟨q1,q2,q3,q4,q5⟩:=uh HY
    exact⟨⟨j+1,ts ++ ts2,_,by omega,by simp,q1,q2,q3,q4,q5⟩,by simp[intOf];omega⟩
   ·go_simp
    go_wp2_with fail
    refine(uh HPC _ fD).mono ?_
    rintro e w2 ⟨gg,cap,ts2,rfl,h2,h2l,h2r,f2d⟩
    have H2L:=Hd h2l
    clear h2l
    have f2:St wq w2:=fD.trans' f2d nE
    have cv2:=f2.cell' cv id
    refine hK.out _ _ (f2.cell' cR id) (fun _=>?_)
    clear hK K
    refine rdO 0 rfl (fun K hK=>?_)
    go_simp
    refine hK.out _ _ (f2.cell' cR id) (fun _=>?_)
    clear hK K
    obtain⟨v3,w3,hap,FX⟩:=uh HQ w2 gg cap ts2 f2 h2 (uh H2L) h2r
    refine rdO 9 rfl (fun K hK=>?_)
    refine stp_append rfl (.tmp 14) (.tmp 22) 45 rfl _ _ rfl rfl v3 w3 hap ?_
    obtain⟨va3,vc3,rfl,y1,y2,y3,y4,y5⟩:=FX
    refine hK.out _ _ y3 (fun _=>?_)
    clear hK K
    simp only[Act.put,List.setIfInBounds_toArray]
    refine rdO 10 rfl (fun K hK=>?_)
    go_simp
    refine hK.out _ _ y4 (fun _=>?_)
    clear hK K
    refine wpAnyH_done (by kernel_rfl) ?_ _
    have HY:=Hd y5
    clear y5 y1 y2 y3 y4 hap
    go_wp2_with fail
    obtain⟨q1,q2,q3,q4,q5⟩:=uh HY
    exact⟨⟨j+1,ts ++ ts2,_,by omega,by simp,q1,q2,q3,q4,q5⟩,by simp[intOf];omega⟩
  ·have e:j=rs.length:=by omega
   subst e
   have hlt':¬(rs.length:Int)<rs.length:=by omega
   obtain⟨hp,s,hS,hq,hr,hm⟩:=uh HH
   have htk:Qs.take rs.length=Qs:=by rw[<-hq,List.take_length]
   rw[htk] at liv
   obtain⟨va,vc,rfl⟩:=rows_form row
   have SL:=sl_of_row row (int_one ts)
   have cv:wq.cell? ⟨bl,0,none⟩=some (.slice va ts.length vc):=cOo ov 0
   have SW:=h_sweep (bl:=bl) (hp.still fr) s (fun u=>decide (u∈Qs.flatten)) hm (fun w' f' u hu=>by
    refine(t_keep bl va vc ts w' (f'.cell' cv id) (SL.still f') (by omega) ((fi nu:Int)+(u:Int) * 8)).mono ?_
    rintro e w'' ⟨rfl,rfl⟩
    refine⟨?_,⟨0,rfl⟩⟩
    have hiff:((fi nu:Int)+(u:Int) * 8)∈ts ↔ u∈Qs.flatten:=by
     rw[liv]
     exact⟨fun⟨y,h1,h2⟩=>by
      have:y=u:=by omega
      exact this▸h1,fun h=>⟨u,h,by omega⟩⟩
    rw[decide_eq_decide.2 hiff])
   have HSW:=Hd SW
   have HL:=Hd (ai fr hp)
   have HS0:=Hd s
   clear SW SL cv row ov liv hp s hS hq hr hm fr
   generalize rs.length=n at *
   go_wp2_with fail
   refine(uh HSW).mono ?_
   rintro e w5 ⟨k,rfl,hk,g,tg,sg,ak,ke,ro⟩
   go_wp2_with fail
   go_end0
   obtain⟨fr,hp⟩:=uh HL
   refine⟨rfl,g,(tg.after fr).le ?_,sg,fun u=>?_,ke,ro⟩
   ·have h1:=gone_len (fun u=>decide (u∈Qs.flatten)) (plU (ask nu (says P A)) nu)
    have h2:(plU (ask nu (says P A)) nu).length=cnt nu (ask nu (says P A)):=by rw[plU_len];rfl
    omega
   ·rw[ak]
    by_cases hu:u∈Qs.flatten
    ·rw[if_pos hu,if_neg (fun hm=>by
      have:=(List.mem_filter.1 hm).2
      simp[hu] at this)]
    ·rw[if_neg hu]
     by_cases h0:ask nu (says P A) u=0
     ·split
      ·rfl
      ·exact h0
     ·have hin:u∈goneU (fun u=>decide (u∈Qs.flatten)) (plU (ask nu (says P A)) nu):=List.mem_filter.2 ⟨plU_mem.2 ⟨((uh HS0).inv.asks u h0).1,h0⟩,by simp only[decide_eq_false hu];rfl⟩
      rw[if_pos hin]
end
end
theorem Rt.rq {nu sz:Nat} {f:Nat->Int} {r:Nat} {L:List Pr} {Q:List Nat} (t:Rt nu sz f r L Q) (h0:r≠0) (ri:Rise L) (hl:L.length<=400):Rq nu sz f r Q:=by
 rcases t with ⟨e,_⟩ | ⟨hh,u,e,t⟩
 ·exact absurd e h0
 ·exact⟨hh,u,L,e,t,ri,hl⟩
theorem putP_new {x:ByteArray} {v:Nat}:∀{l:List Pr},(∀p∈l,p.1≠x)->(putP l x v).length=l.length+1
 | [],_=>rfl
 | p :: l,h=>by
  have h1:=h p (List.mem_cons_self ..)
  rw[putP,if_neg h1]
  split
  ·rw[List.length_cons,putP_new fun q hq=>h q (List.mem_cons_of_mem _ hq),List.length_cons]
  ·rfl
theorem geP_at:∀{L:List Pr} {k:Nat} {p:Pr},Rise L->L[k]? = some p->geP p.1 L=L.drop k
 | [],k,p,_,h=>by simp at h
 | q :: L,0,p,ri,h=>by
  cases (Option.some.inj h:q=p)
  obtain⟨h1,_⟩:=List.pairwise_cons.1 ri
  refine List.filter_eq_self.2 fun a ha=>?_
  rcases List.mem_cons.1 ha with rfl | ha
  ·simp
  ·simp[ltK_asym (h1 a ha)]
 | q :: L,k+1,p,ri,h=>by
  obtain⟨h1,h2⟩:=List.pairwise_cons.1 ri
  have hm:p∈L:=List.mem_of_getElem? (by simpa using h)
  have:=geP_at (k:=k) h2 (by simpa using h)
  rw[List.drop_succ_cons,<-this]
  unfold geP
  rw[List.filter_cons_of_neg]
  simp[h1 p hm]
def kyF (i:Nat):Nat->Nat:=fun k=>if k=0 then 97+i * 7 % 16 else if k=1 then 97+i * 5 % 26 else if k=2 then 97+i % 26 else 97+i / 26
def kyB (i:Nat):ByteArray:=⟨#[107]⟩ ++ strB (kyF i) 4
theorem kyB_size (i:Nat):(kyB i).size=5:=by
 unfold kyB
 rw[ByteArray.size_append,strB_size];rfl
theorem kyF_lt (i:Nat) (hi:i<200) (k:Nat):kyF i k<256:=by unfold kyF;split;omega;split;omega;split;omega;omega
theorem kyB_inj {i j:Nat} (hi:i<200) (hj:j<200) (e:kyB i=kyB j):i=j:=by
 have e1:(kyB i).data.toList=(kyB j).data.toList:=by rw[e]
 unfold kyB strB at e1
 simp only[ByteArray.data_append,Array.toList_append,strOfNums_data,rowL] at e1
 have e2:=List.append_cancel_left e1
 have e3:∀k,k<4->kyF i k=kyF j k:=fun k hk=>by
  have:=congrArg (fun l=>l[k]?) e2
  simp[hk] at this
  have h1:=kyF_lt i hi k
  have h2:=kyF_lt j hj k
  have h3:=congrArg UInt8.toNat this
  simp at h3
  omega
 have h2:=e3 2 (by omega)
 have h3:=e3 3 (by omega)
 simp[kyF] at h2 h3
 omega
set_option maxRecDepth 20000 in
theorem l11_key (i:Nat) (hi:i<200) (w:World):Calls Tryz.prog 12 #[.int .i64 (i:Nat)] w fun e w'=>e = .returned (.string (kyB i))/\St w w':=by
 obtain⟨W,hW⟩:∃W,w.alloc (.cells #[.int .u8 (97+(i:Int) * 7 % 16),.int .u8 (97+(i:Int) * 5 % 26),.int .u8 (97+(i:Int) % 26),.int .u8 (97+(i:Int) / 26)] 5)=W:=⟨_,rfl⟩
 have o1:W.heap[w.heap.size]? = some (.cells #[.int .u8 (97+(i:Int) * 7 % 16),.int .u8 (97+(i:Int) * 5 % 26),.int .u8 (97+(i:Int) % 26),.int .u8 (97+(i:Int) / 26)] 5 (0,0)):=hW▸heap_alloc_new w _
 have hN:Nats .u8 W (some ⟨w.heap.size,0,none⟩) 4 (kyF i):=fun k hk=>by
  refine⟨_,_,rfl,?_⟩
  rcases (show k=0\/k=1\/k=2\/k=3 by omega) with rfl | rfl | rfl | rfl
  ·exact cOo o1 0
  ·exact cOo o1 1
  ·exact cOo o1 2
  ·exact cOo o1 3
 have cv:=conv_str W (some ⟨w.heap.size,0,none⟩) 4 4 (kyF i) hN
 have HF:=Hd (show St w W from hW▸(Fr.refl _ w).alloc _)
 rw[<-hW] at cv
 have HW:=Hd hW
 clear hW o1 hN
 go_enter Tryz.func12,Tryz.ntmps12
 go_wp2_with fail
 go_ret
 rw[uh HW]
 exact⟨rfl,uh HF⟩

section
theorem sl_root (w W:World) (r:Nat) (hW:w.alloc (.cells #[.int .u64 (r:Nat),.slice none 0 0] 35)=W):Sl W 2 (some ⟨w.heap.size,0,none⟩) ([(r,Value.slice none 0 0)]:List (Nat×Value)).length 1 (rtcl [(r,.slice none 0 0)]):=by
 have o:W.heap[w.heap.size]? = some (.cells #[.int .u64 (r:Nat),.slice none 0 0] 35 (0,0)):=hW▸heap_alloc_new w _
 exact⟨rfl,Nat.le_refl _,(fun e=>by cases e),(fun u hu=>by
  simp only[rtcl,List.mem_cons,List.not_mem_nil,or_false] at hu
  rcases hu with rfl | rfl <;> rfl),(fun j u hu=>⟨w.heap.size,0,rfl,by
  rw[Nat.zero_add,cOo o j,<-hu]
  simp[rtcl]⟩),(fun x e=>by cases e;rfl)⟩
section
variable {nu sz:Nat} {w w' w0:World} {hb sb b bs bh br bi:Nat} {T:Tay} {A:Ab} {P:List (Int×Int)} {r i:Nat} {L:List Pr} {Q:List Nat}
set_option maxRecDepth 20000 in
theorem twC1 (h:Hp nu sz w hb sb b T A P) (t:Tre nu sz (says P A) r L Q) (hl:L.length<=130) (hP:P.length<=100) (hnu:2 * L.length+30<nu / 4) (hi:i<200)
  (cs:w.cell? ⟨bs,0,none⟩=some (ptr sb)) (ch:w.cell? ⟨bh,0,none⟩=some (ptr hb)) (Br:Box w br (.int .u64 (r:Nat))) (ci:w.cell? ⟨bi,0,none⟩=some (.int .i64 (i:Nat))) (nt:∀k,k=bs\/k=bh\/k=br\/k=bi->¬tfoot sb b T k)
  (ne:bs≠br/\bh≠br/\bi≠br/\hb≠br/\0≠br) :
  Calls Tryz.prog 23 #[ptr bs,ptr bh,ptr br,ptr bi] w fun e w'=>e = .returned (.tuple #[])/\PutS nu sz (fun k=>k=br) w sb b T A br (putP L (kyB i) i) w':=by
 have fD:St w w.drew:=(Fr.refl _ w).drewN 1
 have KY:=l11_key i hi w.drew
 have PUT:∀w1,St w w1->Calls Tryz.prog 11 #[ptr sb,ptr hb,.int .u64 (r:Nat),.string (kyB i),.int .u64 (i:Nat)] w1 _:=fun w1 f1=>y_Put (h.still f1) t.st t.rt t.pk t.ri (by omega) (kyB i) i (by rw[kyB_size];omega) (by omega) (by omega) (by have:=t.cnt;omega) t.low
 have lbs:bs<w.heap.size:=World.block_lt_of_cell? _ _ cs
 have lbh:bh<w.heap.size:=World.block_lt_of_cell? _ _ ch
 have lbi:bi<w.heap.size:=World.block_lt_of_cell? _ _ ci
 have lbr:=Br.lt
 have cr:=Br.c
 have HK:=Hd KY;have HP:=@Hd _ PUT
 have HX:=Hd (ai h (ai t (ai hl (ai hP (ai hnu (ai Br fD))))));have HNT:=@Hd _ nt
 have wu:IntKind.u64.wrap (i:Nat)=(i:Nat):=(wrap_small _ (by omega) (by omega)).2
 clear KY PUT h t hl hP hnu Br nt fD
 go_enter Tryz.func23,Tryz.ntmps23
 go_wp2_with fail
 refine wp_region_held_drew (S:=fun w'=>w'.cell? ⟨bs,0,none⟩=some (ptr sb)/\w'.cell? ⟨bh,0,none⟩=some (ptr hb)/\w'.cell? ⟨bi,0,none⟩=some (.int .i64 (i:Nat))) (by kernel_rfl) ⟨cs,ch,ci⟩ (fun hHeld=>?_)
 refine tkO 0 ?_ hHeld rfl ?_ ?_
 rotate_left
 ·intro w q;go_simp;try with_reducible rfl
 simp only[apt,List.set]
 refine tkO 1 ?_ hHeld rfl ?_ ?_
 rotate_left
 ·intro w q;go_simp;try with_reducible rfl
 simp only[apt,List.set]
 refine tkO 3 ?_ hHeld rfl ?_ ?_
 rotate_left
 ·intro w q;go_simp;try with_reducible rfl
 simp only[apt,List.set]
 refine tkO 5 ?_ hHeld rfl ?_ ?_
 rotate_left
 ·intro w q;go_simp;try with_reducible rfl
 simp only[apt,List.set]
 refine tkO 6 ?_ hHeld rfl ?_ ?_
 rotate_left
 ·intro w q;go_simp;try with_reducible rfl
 simp only[apt,List.set]
 clear wu
 refine wpAnyH_ready (rs:=[2,4]) (by kernel_rfl) (by simp) ?_
 refine AllReadyH.cons rfl (fun K hK=>?_) (AllReadyH.cons rfl (fun K hK=>?_) AllReadyH.nil)
 ·go_simp
  refine hK.out _ _ hHeld (fun _=>?_)
  clear hK K
  refine rdO 4 rfl (fun K hK=>?_)
  go_simp
  go_wp2_with fail
  refine(uh HK).mono ?_
  clear HK
  rintro e w1 ⟨rfl,f1⟩
  have f01:St w w1:=(uh HX).2.2.2.2.2.2.trans' f1 nE
  have hHeld1:w1.cell? ⟨bs,0,none⟩=some (ptr sb)/\w1.cell? ⟨bh,0,none⟩=some (ptr hb)/\w1.cell? ⟨bi,0,none⟩=some (.int .i64 (i:Nat)):=⟨f01.cell' cs id,f01.cell' ch id,f01.cell' ci id⟩
  refine hK.out _ _ hHeld1 (fun _=>?_)
  clear hK K f1
  have hS1:=hHeld1
  refine rdO 7 rfl (fun K hK=>?_)
  go_simp
  go_wp2_with fail
  refine(uh HP w1 f01).mono ?_
  rintro e w2 ⟨r',rfl,T2,P2,Q2,k2,hk2,o2,l2,ch2,hr2,rt2⟩
  obtain⟨h,t,hl,hP,hnu,Br,fD⟩:=uh HX
  have h2:=(h.still f01).call o2
  have o02:Onx w sb b T w2 T2 sz A P2 false:=o2.after f01
  have nt2:∀k,k=bs\/k=bh\/k=br\/k=bi->¬tfoot sb b T2 k:=fun k hk=>o02.other (by rcases hk with rfl | rfl | rfl | rfl <;> assumption) (uh HNT k hk)
  have cs2:w2.cell? ⟨bs,0,none⟩=some (ptr sb):=o02.fr.cell' cs (uh HNT bs (by simp))
  have ch2':w2.cell? ⟨bh,0,none⟩=some (ptr hb):=o02.fr.cell' ch (uh HNT bh (by simp))
  have ci2:w2.cell? ⟨bi,0,none⟩=some (.int .i64 (i:Nat)):=o02.fr.cell' ci (uh HNT bi (by simp))
  have Br2:=Br.kept o02.fr (uh HNT br (by simp))
  obtain⟨W3,hW3⟩:∃W3,w2.setCell ⟨br,0,none⟩ (.int .u64 (r':Nat))=W3:=⟨_,rfl⟩
  have f3:Fr (fun k=>k=br) w2 W3:=hW3▸Fr.box w2 br _
  have Br3:Box W3 br (.int .u64 (r':Nat)):=hW3▸Br2.set _
  have cs3:W3.cell? ⟨bs,0,none⟩=some (ptr sb):=f3.cell' cs2 ne.1
  have ch3:W3.cell? ⟨bh,0,none⟩=some (ptr hb):=f3.cell' ch2' ne.2.1
  have ci3:W3.cell? ⟨bi,0,none⟩=some (.int .i64 (i:Nat)):=f3.cell' ci2 ne.2.2.1
  have h3:=h2.turn f3 (fun k hk=>by rw[hk];exact nt2 br (by simp)) ne.2.2.2.1 ne.2.2.2.2
  have ri2:Rise (putP L (kyB i) i):=putP_rise t.ri
  have pk2:Pok (putP L (kyB i) i):=t.pk.put (by rw[kyB_size];omega) (by omega)
  have ln2:=putP_len (kyB i) i L
  obtain⟨W4,hW4⟩:∃W4,W3.alloc (.cells #[.int .u64 (r':Nat),.slice none 0 0] 35)=W4:=⟨_,rfl⟩
  have f4:St W3 W4:=hW4▸(Fr.refl _ W3).alloc _
  have SL:=sl_root W3 W4 r' hW4
  have few2:=ch2.few
  have cn:=t.cnt
  have SW:=t_sweep (h3.still f4) ch2.st (some ⟨W3.heap.size,0,none⟩) 1 [(r',.slice none 0 0)] [Q2] SL rfl (fun j p Q' h1 h2=>by
   match j,h1,h2 with
   | 0,h1,h2=>
    cases (Option.some.inj h1);cases (Option.some.inj h2)
    exact rt2.rq hr2 ri2 (by omega)
   | j+1,h1,_=>simp at h1) (by simp) (by omega)
  have HSW:=Hd SW
  have HE:=Hd (show ∀w5 g,To sz W4 sb b T2 A w5 g (P2.length+10 * cnt nu (ask nu (says P2 A)))->HpS nu g->(∀u,ask nu g u=if u ∈ [Q2].flatten then ask nu (says P2 A) u else 0)->(∀i,fi nu<=i->g i=says P2 A i)->PutS nu sz (fun k=>k=br) w sb b T A br (putP L (kyB i) i) w5 from fun w5 g tg sg ak ke=>by
   obtain⟨T5,P5,o5,e5,l5⟩:=tg
   subst e5
   have sw:Swp nu (says P2 A) (says P5 A) Q2:=⟨sg,fun u=>by rw[ak];simp,ke⟩
   refine⟨T5,P5,r',Q2,(((OnxX.of o02).var f3 (fun k hk=>hk) (fun k hk=>by rw[hk];exact nt2 br (by simp))).quiet f4).trans o5,?_,hr2,t.put rt2 sw ri2 pk2⟩
   exact(Br3.kept f4 id).kept o5.fr (nt2 br (by simp)))
  have c3:=Br3.c;have c2:=Br2.c;have z2:=Br2.z
  have HW3:=Hd hW3;have HW4:=Hd hW4
  refine hK.out _ _ ⟨cs2,ch2',ci2⟩ (fun _=>?_)
  clear hK K SW h2 o02 o2 nt2 f3 h3 ri2 pk2 ln2 few2 cn f4 SL hW4 h t hl hP hnu Br Br2 Br3 fD l2 ch2 hr2 rt2 hk2 HX HP HNT cs2 ch2' ci2 hS1 hW3
  refine rdO 8 rfl (fun K hK=>?_)
  go_simp
  rw[uh HW3]
  refine hK.out _ _ ⟨cs3,ch3,ci3⟩ (fun _=>?_)
  clear hK K c2 z2
  refine wpAnyH_done (by kernel_rfl) ?_ _
  go_wp2_with fail
  rw[uh HW4]
  refine(uh HSW).mono ?_
  rintro e w5 ⟨rfl,g,tg,sg,ak,ke,-⟩
  have HQ:=Hd (uh HE w5 g tg sg ak ke)
  clear HSW HE tg sg ak ke
  go_wp2_with fail
  go_end0
  exact⟨rfl,uh HQ⟩
 ·go_simp
  go_wp2_with fail
  refine(uh HK).mono ?_
  clear HK
  rintro e w1 ⟨rfl,f1⟩
  have f01:St w w1:=(uh HX).2.2.2.2.2.2.trans' f1 nE
  have hHeld1:w1.cell? ⟨bs,0,none⟩=some (ptr sb)/\w1.cell? ⟨bh,0,none⟩=some (ptr hb)/\w1.cell? ⟨bi,0,none⟩=some (.int .i64 (i:Nat)):=⟨f01.cell' cs id,f01.cell' ch id,f01.cell' ci id⟩
  have cr1:w1.cell? ⟨br,0,none⟩=some (.int .u64 (r:Nat)):=f01.cell' cr id
  refine hK.out _ _ hHeld1 (fun _=>?_)
  clear hK K f1
  refine rdO 2 rfl (fun K hK=>?_)
  go_simp
  refine hK.out _ _ hHeld1 (fun _=>?_)
  clear hK K cr1
  have hS1:=hHeld1
  refine rdO 7 rfl (fun K hK=>?_)
  go_simp
  go_wp2_with fail
  refine(uh HP w1 f01).mono ?_
  rintro e w2 ⟨r',rfl,T2,P2,Q2,k2,hk2,o2,l2,ch2,hr2,rt2⟩
  obtain⟨h,t,hl,hP,hnu,Br,fD⟩:=uh HX
  have h2:=(h.still f01).call o2
  have o02:Onx w sb b T w2 T2 sz A P2 false:=o2.after f01
  have nt2:∀k,k=bs\/k=bh\/k=br\/k=bi->¬tfoot sb b T2 k:=fun k hk=>o02.other (by rcases hk with rfl | rfl | rfl | rfl <;> assumption) (uh HNT k hk)
  have cs2:w2.cell? ⟨bs,0,none⟩=some (ptr sb):=o02.fr.cell' cs (uh HNT bs (by simp))
  have ch2':w2.cell? ⟨bh,0,none⟩=some (ptr hb):=o02.fr.cell' ch (uh HNT bh (by simp))
  have ci2:w2.cell? ⟨bi,0,none⟩=some (.int .i64 (i:Nat)):=o02.fr.cell' ci (uh HNT bi (by simp))
  have Br2:=Br.kept o02.fr (uh HNT br (by simp))
  obtain⟨W3,hW3⟩:∃W3,w2.setCell ⟨br,0,none⟩ (.int .u64 (r':Nat))=W3:=⟨_,rfl⟩
  have f3:Fr (fun k=>k=br) w2 W3:=hW3▸Fr.box w2 br _
  have Br3:Box W3 br (.int .u64 (r':Nat)):=hW3▸Br2.set _
  have cs3:W3.cell? ⟨bs,0,none⟩=some (ptr sb):=f3.cell' cs2 ne.1
  have ch3:W3.cell? ⟨bh,0,none⟩=some (ptr hb):=f3.cell' ch2' ne.2.1
  have ci3:W3.cell? ⟨bi,0,none⟩=some (.int .i64 (i:Nat)):=f3.cell' ci2 ne.2.2.1
  have h3:=h2.turn f3 (fun k hk=>by rw[hk];exact nt2 br (by simp)) ne.2.2.2.1 ne.2.2.2.2
  have ri2:Rise (putP L (kyB i) i):=putP_rise t.ri
  have pk2:Pok (putP L (kyB i) i):=t.pk.put (by rw[kyB_size];omega) (by omega)
  have ln2:=putP_len (kyB i) i L
  obtain⟨W4,hW4⟩:∃W4,W3.alloc (.cells #[.int .u64 (r':Nat),.slice none 0 0] 35)=W4:=⟨_,rfl⟩
  have f4:St W3 W4:=hW4▸(Fr.refl _ W3).alloc _
  have SL:=sl_root W3 W4 r' hW4
  have few2:=ch2.few
  have cn:=t.cnt
  have SW:=t_sweep (h3.still f4) ch2.st (some ⟨W3.heap.size,0,none⟩) 1 [(r',.slice none 0 0)] [Q2] SL rfl (fun j p Q' h1 h2=>by
   match j,h1,h2 with
   | 0,h1,h2=>
    cases (Option.some.inj h1);cases (Option.some.inj h2)
    exact rt2.rq hr2 ri2 (by omega)
   | j+1,h1,_=>simp at h1) (by simp) (by omega)
  have HSW:=Hd SW
  have HE:=Hd (show ∀w5 g,To sz W4 sb b T2 A w5 g (P2.length+10 * cnt nu (ask nu (says P2 A)))->HpS nu g->(∀u,ask nu g u=if u ∈ [Q2].flatten then ask nu (says P2 A) u else 0)->(∀i,fi nu<=i->g i=says P2 A i)->PutS nu sz (fun k=>k=br) w sb b T A br (putP L (kyB i) i) w5 from fun w5 g tg sg ak ke=>by
   obtain⟨T5,P5,o5,e5,l5⟩:=tg
   subst e5
   have sw:Swp nu (says P2 A) (says P5 A) Q2:=⟨sg,fun u=>by rw[ak];simp,ke⟩
   refine⟨T5,P5,r',Q2,(((OnxX.of o02).var f3 (fun k hk=>hk) (fun k hk=>by rw[hk];exact nt2 br (by simp))).quiet f4).trans o5,?_,hr2,t.put rt2 sw ri2 pk2⟩
   exact(Br3.kept f4 id).kept o5.fr (nt2 br (by simp)))
  have c3:=Br3.c;have c2:=Br2.c;have z2:=Br2.z
  have HW3:=Hd hW3;have HW4:=Hd hW4
  refine hK.out _ _ ⟨cs2,ch2',ci2⟩ (fun _=>?_)
  clear hK K SW h2 o02 o2 nt2 f3 h3 ri2 pk2 ln2 few2 cn f4 SL hW4 h t hl hP hnu Br Br2 Br3 fD l2 ch2 hr2 rt2 hk2 HX HP HNT cs2 ch2' ci2 hS1 hW3
  refine rdO 8 rfl (fun K hK=>?_)
  go_simp
  rw[uh HW3]
  refine hK.out _ _ ⟨cs3,ch3,ci3⟩ (fun _=>?_)
  clear hK K c2 z2
  refine wpAnyH_done (by kernel_rfl) ?_ _
  go_wp2_with fail
  rw[uh HW4]
  refine(uh HSW).mono ?_
  rintro e w5 ⟨rfl,g,tg,sg,ak,ke,-⟩
  have HQ:=Hd (uh HE w5 g tg sg ak ke)
  clear HSW HE tg sg ak ke
  go_wp2_with fail
  go_end0
  exact⟨rfl,uh HQ⟩
end
end
def pxN (v:Value) (w:World):Nat:=match v with
 | .pointer (some a)=>bxN w a.block
 | _=>0
theorem pxN_box {w:World} {q m:Nat} (h:Box w q (.int .i64 (m:Nat))):pxN (ptr q) w=m:=h.bxN
theorem ky_new {L:List Pr} {m:Nat} (h:∀p∈L,∃j,j<m/\p.1=kyB j) (hm:m<200):∀p∈L,p.1≠kyB m:=fun p hp e=>by
 obtain⟨j,hj,e2⟩:=h p hp
 have:=kyB_inj (by omega) hm (e2.symm.trans e)
 omega
theorem ky_put {L:List Pr} {m:Nat} (h:∀p∈L,∃j,j<m/\p.1=kyB j):∀p∈putP L (kyB m) m,∃j,j<m+1/\p.1=kyB j:=fun p hp=>by
 rcases putP_mem hp with rfl | hp
 ·exact⟨m,by omega,rfl⟩
 ·obtain⟨j,hj,e⟩:=h p hp
  exact⟨j,by omega,e⟩
theorem eq_pr (x y:ByteArray) (u v:Int) (w:World):(binOp .eql 43 (.agg #[.string x,.int .u64 u]) (.agg #[.string y,.int .u64 v])).run Tryz.prog w = .ok (.bool ((x == y) && (u == v))) w:=by
 have:=eqs_pr 9998 x y u v w
 simp only[binOp,Op.equal,Sem.run_bind]
 rw[show Op.maxDepth=9998+2 from rfl,this]
 rfl
theorem eq_self (x:ByteArray) (u:Int) (w:World):(binOp .eql 43 (.agg #[.string x,.int .u64 u]) (.agg #[.string x,.int .u64 u])).run Tryz.prog w = .ok (.bool true) w:=by
 rw[eq_pr,beq_bytes];simp
attribute [local go_sem] Oper.semAt_some
def TwX (hb g n1 q:Nat):Nat->Prop:=fun k=>k=hb\/k=g\/k=g+1\/k=n1\/k=n1+1\/k=n1+2\/k=q
structure TwH (w wr:World) (a2:Int) (M m q g n1 b hb sb:Nat) (T:Tay) (A:Ab) (s:Int) (base:Nat->Int) (r:Nat) (L:List Pr) (Q:List Nat):Prop where
 hc:HpC 1467 12176 w (TwX hb g n1 q) wr hb sb b T A 3072 True s base
 t:Tre 1467 12176 (rb base) r L Q
 len:L.length=m
 ky:∀p∈L,∃j,j<m/\p.1=kyB j
 bn:Box wr g (.int .i64 (M:Nat))
 bt:Box wr (g+1) (.int .i64 a2)
 bs:Box wr n1 (ptr sb)
 bh:Box wr (n1+1) (ptr hb)
 br:Box wr (n1+2) (.int .u64 (r:Nat))
 bi:Box wr q (.int .i64 (m:Nat))
 d:0<w.heap.size/\w.heap.size=g/\g+1<n1/\hb<n1/\g+1<hb/\n1+2<q
theorem wpOf_named {P:Program} {f:FuncId} {c:Code} {Q:Exit->Act->World->Prop} {a:Act} {w:World} (h:∀a',a'=a->wpOf P f c Q a' w):wpOf P f c Q a w:=h a rfl
def TwG (g n7:Nat) (v:Value) (b:Nat):Prop:=b=g\/b=g+1\/b=n7\/b=n7+1\/b=n7+2\/b=n7+3\/v.ownBlock=some b
structure TwJ (lo g n7 m F Kt:Nat) (v:Value) (L:List Pr) (k:Nat) (G:Nat->Prop) (W:World):Prop where
 inc:∀b,G b ↔ TwG g n7 v b
 bn:Box W g (.int .i64 (m:Nat))
 bt:Box W (g+1) (.int .i64 (Kt:Nat))
 ba:Box W n7 v
 bf:Box W (n7+1) (.int .i64 (F:Nat))
 bk:Box W (n7+2) (.int .i64 (k:Nat))
 bo:Box W (n7+3) (.bool true)
 row:W.ownsRow lo 43 2 v m (pcl L)
 le:k<=Kt
 sz:n7+9<=W.heap.size
 gn:g+1<n7/\∀b,v.ownBlock=some b->lo<=b/\b<n7
theorem TwJ.kept {lo g n7 m F Kt:Nat} {v:Value} {L:List Pr} {k:Nat} {G O:Nat->Prop} {W W':World} (h:TwJ lo g n7 m F Kt v L k G W) (f:Fr O W W') (ho:∀b,O b->¬TwG g n7 v b):TwJ lo g n7 m F Kt v L k G W':=
 have no:∀b,TwG g n7 v b->¬O b:=fun b hb x=>ho b x hb
 ⟨h.inc,h.bn.kept f (no _ (.inl rfl)),h.bt.kept f (no _ (.inr (.inl rfl))),h.ba.kept f (no _ (.inr (.inr (.inl rfl)))),h.bf.kept f (no _ (.inr (.inr (.inr (.inl rfl))))),h.bk.kept f (no _ (.inr (.inr (.inr (.inr (.inl rfl)))))),h.bo.kept f (no _ (.inr (.inr (.inr (.inr (.inr (.inl rfl))))))),row_kept h.row f (fun b hb=>no b (.inr (.inr (.inr (.inr (.inr (.inr hb))))))),h.le,Nat.le_trans h.sz f.size,h.gn⟩
theorem TwJ.lt {lo g n7 m F Kt:Nat} {v:Value} {L:List Pr} {k:Nat} {G:Nat->Prop} {W:World} (h:TwJ lo g n7 m F Kt v L k G W) {b:Nat} (hb:G b):b<n7+4:=by
 have:=h.gn
 rcases (h.inc b).1 hb with e | e | e | e | e | e | e
 ·omega
 ·omega
 ·omega
 ·omega
 ·omega
 ·omega
 ·have:=h.gn.2 b e;omega
theorem TwJ.no {lo g n7 m F Kt:Nat} {v:Value} {L:List Pr} {k:Nat} {G:Nat->Prop} {W:World} (h:TwJ lo g n7 m F Kt v L k G W):∀b,pair (n7+7) b->¬TwG g n7 v b:=fun b hb hG=>by
 have:=h.lt ((h.inc b).2 hG)
 unfold pair at hb
 omega
set_option maxRecDepth 100000 in
theorem walks_ok (a0 a1 a2:Int) (w:World) (tab:TabL w) :
  Calls Tryz.prog 4 #[.int .i64 a0,.int .i64 a1,.int .i64 a2] w fun e w'=>e = .returned (.bool true)/\Below w.heap.size w w':=by
 have h1:=eq_nil_heap
 have h2:=mf
 obtain⟨g,hg⟩:∃g,w.heap.size=g:=⟨_,rfl⟩
 have l0:0<g:=by rw[<-hg];exact World.block_lt_of_cell? _ _ (tab 0 (by omega))
 obtain⟨WA,hWA⟩:∃WA,w.alloc (.cells #[.int .i64 a0] 3)=WA:=⟨_,rfl⟩
 obtain⟨WB,hWB⟩:∃WB,WA.alloc (.cells #[.int .i64 a2] 3)=WB:=⟨_,rfl⟩
 have fA:St w WA:=hWA▸(Fr.refl _ w).alloc _
 have fAB:St WA WB:=hWB▸(Fr.refl _ WA).alloc _
 have fB:St w WB:=fA.trans' fAB nE
 have zA:WA.heap.size=g+1:=by rw[<-hWA];simp[hg]
 have zB:WB.heap.size=g+2:=by rw[<-hWB];simp;omega
 have bnB:Box WB g (.int .i64 a0):=by
  have:=Box.new w (.int .i64 a0) 3
  rw[hWA,hg] at this;exact this.kept fAB id
 have btB:Box WB (g+1) (.int .i64 a2):=by
  have:=Box.new WA (.int .i64 a2) 3
  rw[hWB,zA] at this;exact this
 have K:Calls Tryz.prog 8 #[.int .i64 24576] WB _:=l8_open geo24 (N:=3072) (by omega) WB (fun j hj=>fB.cell' (tab j hj) id)
 have HK:=Hd K;have HT:=Hd tab;have HB:=Hd (ai bnB (ai btB (ai fB zB)));have HWB:=Hd (ai hWA hWB)
 clear K tab bnB btB fA fAB fB zA hWA hWB
 refine calls_of_wpOf Tryz.func4 rfl ?_
 simp only[Tryz.ntmps4,List.size_toArray,List.length_cons,List.length_nil,Nat.reduceAdd,Nat.reduceSub,Array.replicate_succ,Array.replicate_zero,List.push_toArray,List.append_toArray,List.nil_append,List.cons_append]
 refine wpOf_seq (wpOf_of_wp ?_)
 go_wp2
 rw[(uh HWB).1,(uh HWB).2,hg]
 show wpOf _ _ _ _ _ _
 refine wpOf_seq (wpOf_of_wp ?_)
 go_wp2_with fail
 refine(uh HK).mono ?_
 clear HK
 rintro e w1 ⟨b,sb,hb,T,A,base,rfl,hc,nw⟩
 obtain⟨W1,hW1⟩:∃W1,w1.alloc (.cells #[ptr sb] 23)=W1:=⟨_,rfl⟩
 obtain⟨W2,hW2⟩:∃W2,W1.alloc (.cells #[ptr hb] 24)=W2:=⟨_,rfl⟩
 obtain⟨n1,hn1⟩:∃n1,w1.heap.size=n1:=⟨_,rfl⟩
 have z1:W1.heap.size=n1+1:=by rw[<-hW1];simp[hn1]
 have z2:W2.heap.size=n1+2:=by rw[<-hW2];simp;omega
 have f12:St W1 W2:=hW2▸(Fr.refl _ W1).alloc _
 have f02:St w1 W2:=(hW1▸(Fr.refl _ w1).alloc _:St w1 W1).trans' f12 nE
 have bs2:Box W2 n1 (ptr sb):=by
  have:=Box.new w1 (ptr sb) 23
  rw[hW1,hn1] at this;exact this.kept f12 id
 have bh2:Box W2 (n1+1) (ptr hb):=by
  have:=Box.new W1 (ptr hb) 24
  rw[hW2,z1] at this;exact this
 obtain⟨bnB,btB,fB,zB⟩:=uh HB
 have hc1:=hc.more (.cells #[ptr sb] 23)
 rw[hW1,hn1] at hc1
 have hc2:=hc1.more (.cells #[ptr hb] 24)
 rw[hW2,z1] at hc2
 have lhb:hb<n1:=by rw[<-hn1];exact(hc.hd.xl hb hc.xh).2
 have ghb:g+1<hb:=by have:=(hc.hd.xl hb hc.xh).1;omega
 have lz:g+2<=n1:=by have:=hc.hd.fr.size;omega
 have bn2:=(bnB.kept hc.hd.fr id).kept f02 id
 have bt2:=(btB.kept hc.hd.fr id).kept f02 id
 obtain⟨M,hM⟩:∃M,msk a0 31=M:=⟨_,rfl⟩
 have hM31:M<=31:=by rw[<-hM];exact Nat.and_le_right
 obtain⟨W3,hW3⟩:∃W3,W2.setCell ⟨g,0,none⟩ (.int .i64 (M:Nat))=W3:=⟨_,rfl⟩
 obtain⟨W4,hW4⟩:∃W4,W3.alloc (.cells #[.int .u64 0] 27)=W4:=⟨_,rfl⟩
 obtain⟨W5,hW5⟩:∃W5,W4.alloc (.cells #[.int .i64 0] 3)=W5:=⟨_,rfl⟩
 have f23:Fr (fun k=>k=g) W2 W3:=hW3▸Fr.box W2 g _
 have f34:St W3 W4:=hW4▸(Fr.refl _ W3).alloc _
 have f45:St W4 W5:=hW5▸(Fr.refl _ W4).alloc _
 have f35:St W3 W5:=f34.trans' f45 nE
 have z3:W3.heap.size=n1+2:=by rw[<-hW3];simp[z2]
 have z4:W4.heap.size=n1+3:=by rw[<-hW4];simp;omega
 have hcB:=hc2.back (w0:=w) (Y:=fun k=>k=hb\/k=g\/k=g+1\/k=n1\/k=n1+1) fB (by omega) (fun k hk=>by
  rcases hk with rfl | rfl | rfl | rfl | rfl
  ·exact .inl (.inl (.inl rfl))
  ·exact .inr ⟨by omega,by omega⟩
  ·exact .inr ⟨by omega,by omega⟩
  ·exact .inl (.inl (.inr rfl))
  ·exact .inl (.inr rfl)) (.inl rfl)
 have hc3:=hcB.var f23 (fun k hk=>.inr (.inl hk)) (by show ¬hb=g;omega)
 have hc4:=hc3.more (.cells #[.int .u64 0] 27)
 rw[hW4,z3] at hc4
 have hc5:=hc4.more (.cells #[.int .i64 0] 3)
 rw[hW5,z4] at hc5
 have st0:TwH w W5 a2 M 0 (n1+3) g n1 b hb sb T A 43021 base 0 [] []:=by
  refine⟨hc5.sub (fun k hk=>?_) (.inl rfl),Tre.new nw,rfl,(fun p hp=>by cases hp),?_,?_,?_,?_,?_,?_,⟨by omega,hg,by omega,lhb,ghb,by omega⟩⟩
  ·rcases hk with e | e | e | e | e | e | e
   ·exact .inl (.inl (.inl e))
   ·exact .inl (.inl (.inr (.inl e)))
   ·exact .inl (.inl (.inr (.inr (.inl e))))
   ·exact .inl (.inl (.inr (.inr (.inr (.inl e)))))
   ·exact .inl (.inl (.inr (.inr (.inr (.inr e)))))
   ·exact .inl (.inr e)
   ·exact .inr e
  ·exact(hW3▸bn2.set _:Box W3 g _).kept f35 id
  ·exact(bt2.kept f23 (by show ¬g+1=g;omega)).kept f35 id
  ·exact(bs2.kept f23 (by show ¬n1=g;omega)).kept f35 id
  ·exact(bh2.kept f23 (by show ¬n1+1=g;omega)).kept f35 id
  ·have:=Box.new W3 (.int .u64 0) 27
   rw[hW4,z3] at this;exact this.kept f45 id
  ·have:=Box.new W4 (.int .i64 0) 3
   rw[hW5,z4] at this;exact this
 have mk:bits .and .i64 a0 31=(M:Int):=by rw[<-hM];exact mask31 a0
 have bhc:=bh2.c;have bnc:=bn2.c;have bnz:=bn2.z
 have HST:=Hd st0;have HW:=Hd (ai hW1 hW2);have HW3:=Hd hW3;have HW45:=Hd (ai hW4 hW5)
 clear hc hc1 hc2 hcB hc3 hc4 hc5 nw st0 f12 f02 f23 f34 f45 f35 bs2 bh2 bn2 bt2 bnB btB fB zB hW1 hW2 hW3 hW4 hW5 hM HB HWB
 go_wp2
 rw[(uh HW).1,(uh HW).2]
 show wpOf _ _ _ _ _ _
 refine wpOf_seq (wpOf_of_wp ?_)
 go_wp2
 show wpOf _ _ _ _ _ _
 refine wpOf_seq (wpOf_of_wp ?_)
 go_wp2
 rw[uh HW3]
 show wpOf _ _ _ _ _ _
 refine wpOf_seq (wpOf_of_wp ?_)
 clear bhc bnc bnz HW3 HW
 go_wp2
 rw[(uh HW45).1]
 show wpOf _ _ _ _ _ _
 refine wpOf_seq (wpOf_of_wp ?_)
 go_wp2_with fail
 rw[(uh HW45).2]
 clear HW45 z1 z2 z3 z4
 go_loopw [11] (fun iv wr=>∃(m q:Nat) (T:Tay) (A:Ab) (s:Int) (base:Nat->Int) (r:Nat) (L:List Pr) (Q:List Nat),iv=ptr q/\m<=M/\s<=43021+30729 * m/\TwH w wr a2 M m q g n1 b hb sb T A s base r L Q) (fun iv wr=>M - pxN iv wr)
 case atStart=>exact⟨0,n1+3,T,A,43021,base,0,[],[],rfl,by omega,by omega,uh HST⟩
 case round=>
  clear HST
  obtain⟨m,q,T,A,s,base,r,L,Q,rfl,hmM,hs,S⟩:=hrel
  generalize wr=wq at *
  clear wr
  have c1:=S.bi.c;have c2:=S.bn.c
  by_cases hlt:m<M
  ·have hlt':((m:Int)<M)=True:=by simp;omega
   have c3:=S.bs.c
   obtain⟨d0,d1,d2,d3,d4,d5⟩:=S.d
   have sy:=S.hc.says []
   rw[homed_nil] at sy
   have DO:=put_do (g:=23) (fi:=#[]) (ca:=#[ptr n1,ptr (n1+1),ptr (n1+2),ptr q]) (br:=n1+2) (L':=putP L (kyB m) m) S.hc (by simp[TwX]) (by omega) (fun _ _=>by kernel_rfl) (fun w1 f1=>twC1 (i:=m) (S.hc.toHp.still f1) (by rw[sy];exact S.t) (by have:=S.len;omega) (by simp) (by have:=S.len;omega) (by omega) (f1.cell' S.bs.c id) (f1.cell' S.bh.c id) (S.br.kept f1 id) (f1.cell' S.bi.c id) (fun k hk=>by
    rcases hk with rfl | rfl | rfl | rfl <;> exact S.hc.hd.ap _ (by simp[TwX])) (by omega)) (by omega)
   have HDO:=Hd DO;have HS:=Hd S
   clear DO S sy
   go_wp2_with fail
   refine(uh HDO).mono ?_
   clear HDO
   rintro e w6 ⟨rfl,fr6,T6,A6,base6,r6,Q6,hc6,br6,h06,t6⟩
   have S:=uh HS
   have nx:∀k,TwX hb g n1 q k->k≠n1+2->¬(tfoot sb b T k\/k=n1+2):=fun k hk h2 e=>e.elim (S.hc.hd.ap k hk) h2
   have bn6:=S.bn.kept fr6 (nx _ (by simp[TwX]) (by omega))
   have bt6:=S.bt.kept fr6 (nx _ (by simp[TwX]) (by omega))
   have bs6:=S.bs.kept fr6 (nx _ (by simp[TwX]) (by omega))
   have bh6:=S.bh.kept fr6 (nx _ (by simp[TwX]) (by omega))
   have bi6:=S.bi.kept fr6 (nx _ (by simp[TwX]) (by omega))
   have c6:=bi6.c
   obtain⟨n6,hn6⟩:∃n6,w6.heap.size=n6:=⟨_,rfl⟩
   obtain⟨W7,hW7⟩:∃W7,w6.alloc (.cells #[.int .i64 ((m:Int)+1)] 3)=W7:=⟨_,rfl⟩
   have f7:St w6 W7:=hW7▸(Fr.refl _ w6).alloc _
   have lq:=bi6.lt
   have S7:TwH w W7 a2 M (m+1) n6 g n1 b hb sb T6 A6 (s+30729) base6 r6 (putP L (kyB m) m) Q6:=by
    have hc7:=hc6.more (.cells #[.int .i64 ((m:Int)+1)] 3)
    rw[hW7,hn6] at hc7
    refine⟨hc7.sub (fun k hk=>?_) (by simp[TwX]),t6,by rw[putP_new (ky_new S.ky (by omega)),S.len],ky_put S.ky,bn6.kept f7 id,bt6.kept f7 id,bs6.kept f7 id,bh6.kept f7 id,br6.kept f7 id,?_,⟨d0,d1,d2,d3,d4,by omega⟩⟩
    ·unfold TwX at hk ⊢
     rcases hk with e | e | e | e | e | e | e
     ·exact .inl (.inl e)
     ·exact .inl (.inr (.inl e))
     ·exact .inl (.inr (.inr (.inl e)))
     ·exact .inl (.inr (.inr (.inr (.inl e))))
     ·exact .inl (.inr (.inr (.inr (.inr (.inl e)))))
     ·exact .inl (.inr (.inr (.inr (.inr (.inr (.inl e))))))
     ·exact .inr e
    ·have:=Box.new w6 (.int .i64 ((m:Int)+1)) 3
     rw[hW7,hn6] at this;exact this
   have HS7:=Hd S7;have HW7:=Hd hW7
   have px:=pxN_box S.bi;have px7:=pxN_box S7.bi
   have HPX:=Hd (ai px px7)
   clear S hc6 t6 bn6 bt6 bs6 bh6 bi6 br6 fr6 nx S7 f7 hW7 HS px px7
   go_wp2
   rw[uh HW7]
   refine⟨⟨m+1,n6,T6,A6,s+30729,base6,r6,_,Q6,rfl,by omega,by omega,uh HS7⟩,?_⟩
   obtain⟨px,px7⟩:=uh HPX
   have px7':pxN (.pointer (some ⟨n6,0,none⟩)) W7=m+1:=px7
   rw[px,px7']
   omega
  ·have em:m=M:=by omega
   subst em
   have hlt':((m:Int)<m)=False:=by simp
   obtain⟨d0,d1,d2,d3,d4,d5⟩:=S.d
   have sy:=S.hc.says []
   rw[homed_nil] at sy
   have HS:=Hd (ai S sy)
   clear S sy
   go_wp2
   show wpOf _ _ _ _ _ _
   refine wpOf_seq (wpOf_of_wp ?_)
   obtain⟨S,sy⟩:=uh HS
   have RG:=y_Range S.hc.toHp (by rw[sy];exact S.t.rt) S.t.ri S.t.pk ⟨#[]⟩ ⟨#[]⟩ 100 (by omega) (by have:=S.len;omega)
   rw[rgP_all (show((L.length:Nat):Int)<=100 by have:=S.len;omega),S.len] at RG
   have c3:=S.bs.c;have c4:=S.br.c
   have HRG:=Hd RG
   clear RG S sy
   go_wp2_with fail
   refine(uh HRG).mono ?_
   clear HRG c1 c2 c3 c4
   rintro e w7 ⟨v,rfl,rv,f7⟩
   obtain⟨va,vc,ev⟩:∃va vc,v = .slice va m vc:=by
    rcases rowp_form rv with ⟨e,h0⟩ | ⟨gg,cap,e⟩
    ·exact⟨none,0,by rw[e,h0]⟩
    ·exact⟨_,cap,e⟩
   subst ev
   obtain⟨S,sy⟩:=uh HS
   obtain⟨n7,hn7⟩:∃n7,w7.heap.size=n7:=⟨_,rfl⟩
   obtain⟨W8,hW8⟩:∃W8,w7.alloc (.cells #[.slice va m vc] 33)=W8:=⟨_,rfl⟩
   obtain⟨W9,hW9⟩:∃W9,W8.alloc (.cells #[.int .i64 0] 3)=W9:=⟨_,rfl⟩
   have z8:W8.heap.size=n7+1:=by rw[<-hW8];simp[hn7]
   have z9:W9.heap.size=n7+2:=by rw[<-hW9];simp;omega
   have f78:St w7 W8:=hW8▸(Fr.refl _ w7).alloc _
   have f89:St W8 W9:=hW9▸(Fr.refl _ W8).alloc _
   have f79:St w7 W9:=f78.trans' f89 nE
   have f9:St wq W9:=f7.trans' f79 nE
   have ba9:Box W9 n7 (.slice va m vc):=by
    have:=Box.new w7 (.slice va m vc) 33
    rw[hW8,hn7] at this;exact this.kept f89 id
   have bf9:Box W9 (n7+1) (.int .i64 0):=by
    have:=Box.new W8 (.int .i64 0) 3
    rw[hW9,z8] at this;exact this
   have SL:=(sl_of_row rv pcl_one).still f79
   have bn9:=S.bn.kept f9 id
   have lq:q<n7:=by have:=S.bi.lt;have:=f7.size;omega
   have lz7:wq.heap.size<=n7:=by have:=f7.size;omega
   have hrb:∀k,(Value.slice va m vc).ownBlock=some k->wq.heap.size<=k/\k<n7:=fun k hk=>by have:=rv.lt k hk;rw[hn7] at this;exact this
   have HRB:=@Hd _ hrb
   have HX:=Hd (ai f9 (ai ba9 (ai bf9 (ai SL (ai (own_still rv f79) bn9)))));have HW8:=Hd hW8;have HW9:=Hd hW9
   clear S sy rv f7 f78 f89 f79 f9 ba9 bf9 SL hW8 hW9 bn9 hrb
   go_wp2
   rw[uh HW8]
   show wpOf _ _ _ _ _ _
   refine wpOf_seq (wpOf_of_wp ?_)
   go_wp2
   show wpOf _ _ _ _ _ _
   refine wpOf_seq (wpOf_of_wp ?_)
   go_wp2
   rw[uh HW9]
   show wpOf _ _ _ _ _ _
   refine wpOf_seq (wpOf_of_wp ?_)
   obtain⟨f9,ba9,bf9,SL,row9,bn9⟩:=uh HX
   obtain⟨S,sy⟩:=uh HS
   have c1:=bn9.c
   by_cases hm0:0<m
   ·have hm0':((0:Int)<m)=True:=by simp;omega
    obtain⟨F,hF,hFm⟩:∃F:Nat,(wrap64 (a1.tmod m+m)).tmod m=(F:Int)/\F<m:=by
     have h1:a1.tmod m<m:=Int.tmod_lt_of_pos a1 (by omega)
     have h2:-m<a1.tmod m:=Int.lt_tmod_of_pos a1 (by omega)
     generalize a1.tmod m=r at *
     rw[small_w64 (by omega),Int.tmod_eq_emod_of_nonneg (by omega)]
     have h3:=Int.emod_lt_of_pos (r+m) (show(0:Int)<m by omega)
     have h4:=Int.emod_nonneg (r+m) (show(m:Int)≠0 by omega)
     exact⟨((r+m) % m).toNat,by omega,by omega⟩
    have mne:((m:Int)=0)=False:=by simp;omega
    have c2:=bf9.c;have z2:=bf9.z
    have HX9:=Hd (ai f9 (ai ba9 (ai bf9 (ai SL (ai row9 bn9)))))
    clear f9 ba9 bf9 SL row9 bn9 S sy
    go_wp2_with fail
    refine region_tailP 7 (by kernel_rfl) (by kernel_rfl) ?_
    simp only[List.take_succ_cons,List.take_zero,List.drop_succ_cons,List.drop_zero]
    repeat (go_big_quiet_step (fail))
    refine wpQuiet_nil ?_
    rintro _ ⟨nq,rfl⟩
    obtain⟨f9,ba9,bf9,SL,row9,bn9⟩:=uh HX9
    obtain⟨S,sy⟩:=uh HS
    obtain⟨gg,eva⟩:∃gg,va=some ⟨gg,0,none⟩:=by
     rcases rowp_form row9 with ⟨_,h0⟩ | ⟨gg,cap,e⟩
     ·omega
     ·injection e with e1 _ _;exact⟨gg,e1⟩
    subst eva
    obtain⟨p0,hp⟩:∃p,L[F]? = some p:=⟨_,List.getElem?_eq_getElem (by have:=S.len;omega)⟩
    have fd:St W9 (W9.drewN nq):=(Fr.refl _ W9).drewN nq
    obtain⟨Wd,hWd⟩:∃Wd,W9.drewN nq=Wd:=⟨_,rfl⟩
    rw[hWd] at fd ⊢
    have bfd:=bf9.kept fd id
    obtain⟨W10,hW10⟩:∃W10,Wd.setCell ⟨n7+1,0,none⟩ (.int .i64 (F:Nat))=W10:=⟨_,rfl⟩
    have z10:W10.heap.size=n7+2:=by rw[<-hW10,<-hWd];simp[z9]
    have fs:Fr (fun k=>k=n7+1) Wd W10:=hW10▸Fr.box Wd (n7+1) _
    have f10:Fr (fun k=>k=n7+1) W9 W10:=(fd.mono nE).trans' fs (fun k hk=>.inl hk)
    have bf10:Box W10 (n7+1) (.int .i64 (F:Nat)):=hW10▸bfd.set _
    have ba10:=ba9.kept f10 (by show ¬n7=n7+1;omega)
    have bn10:=bn9.kept f10 (by show ¬g=n7+1;omega)
    have hrb:=uh HRB
    have row10:=row_kept row9 f10 (fun k hk e=>by
     have e:k=n7+1:=e
     have:=(hrb k hk).2
     omega)
    obtain⟨b0,o0,e0,cp⟩:=(sl_of_row row10 pcl_one).cells (F * 2) _ (pcl_at hp).1
    cases e0
    rw[Nat.zero_add] at cp
    have ge:geP p0.1 L=L.drop F:=geP_at S.t.ri hp
    have HX10:=Hd (ai f10 (ai bf10 (ai ba10 (ai row10 (ai bn10 (ai ge (show F<=m by omega)))))))
    have c3:=bfd.c;have z3:=bfd.z;have c4:=ba10.c;have c5:=bf10.c
    have HW10:=Hd hW10
    have hF':((F:Int)<m)=True:=by simp;omega
    rw[<-hW10] at c4 c5 cp
    clear f9 ba9 bf9 SL row9 bn9 S sy fd bfd fs f10 bf10 ba10 bn10 row10 ge hW10 hWd hp hrb
    go_wp2
    rw[uh HW10]
    show wpOf _ _ _ _ _ _
    clear c1 c2 c3 c4 c5 cp z2 z3
    obtain⟨f10,bf10,ba10,row10,bn10,hge,hFm⟩:=uh HX10
    obtain⟨S,sy⟩:=uh HS
    have bt10:=(S.bt.kept (uh HX).1 id).kept f10 (by show ¬g+1=n7+1;omega)
    obtain⟨Kt,hKt⟩:∃Kt,msk a2 31=Kt:=⟨_,rfl⟩
    have mk2:bits .and .i64 a2 31=(Kt:Int):=by rw[<-hKt];exact mask31 a2
    obtain⟨W11,hW11⟩:∃W11,W10.setCell ⟨g+1,0,none⟩ (.int .i64 (Kt:Nat))=W11:=⟨_,rfl⟩
    obtain⟨W12,hW12⟩:∃W12,W11.alloc (.cells #[.int .i64 0] 3)=W12:=⟨_,rfl⟩
    obtain⟨W13,hW13⟩:∃W13,W12.alloc (.cells #[.bool true] 4)=W13:=⟨_,rfl⟩
    have z11:W11.heap.size=n7+2:=by rw[<-hW11];simp[z10]
    have z12:W12.heap.size=n7+3:=by rw[<-hW12];simp;omega
    have z13:W13.heap.size=n7+4:=by rw[<-hW13];simp;omega
    have f11:Fr (fun k=>k=g+1) W10 W11:=hW11▸Fr.box W10 (g+1) _
    have f112:St W11 W12:=hW12▸(Fr.refl _ W11).alloc _
    have f123:St W12 W13:=hW13▸(Fr.refl _ W12).alloc _
    have f113:St W11 W13:=f112.trans' f123 nE
    have bt13:Box W13 (g+1) (.int .i64 (Kt:Nat)):=(hW11▸bt10.set _:Box W11 (g+1) _).kept f113 id
    have bn13:=(bn10.kept f11 (by show ¬g=g+1;omega)).kept f113 id
    have ba13:=(ba10.kept f11 (by show ¬n7=g+1;omega)).kept f113 id
    have bf13:=(bf10.kept f11 (by show ¬n7+1=g+1;omega)).kept f113 id
    have bk13:Box W13 (n7+2) (.int .i64 0):=by
     have:=Box.new W11 (.int .i64 0) 3
     rw[hW12,z11] at this;exact this.kept f123 id
    have bo13:Box W13 (n7+3) (.bool true):=by
     have:=Box.new W12 (.bool true) 4
     rw[hW13,z12] at this;exact this
    have f9:=(uh HX).1
    have fq:Fr (fun k=>k=n7+1\/k=g+1) wq W13:=(((f9.mono nE).trans' f10 (fun k hk=>.inl (.inl hk))).trans' f11 (fun k hk=>.inl (.inr hk))).trans' f113 nE
    have row13:W13.ownsRow wq.heap.size 43 2 (.slice (some ⟨gg,0,none⟩) m vc) m (pcl L):=own_still (row_kept row10 f11 (fun k hk e=>by have:=(row10.lt k hk).1;have:=S.bi.lt;have e:k=g+1:=e;omega)) f113
    have hp13:=S.hc.toHp.turn fq (fun k hk=>by
     rcases hk with rfl | rfl
     ·exact fun ht=>by have:=S.hc.hd.st.lt _ ht;have:=S.bi.lt;omega
     ·exact S.hc.hd.ap _ (by simp[TwX])) (by omega) (by omega)
    have bs13:=S.bs.kept fq (by omega)
    have br13:=S.br.kept fq (by omega)
    have c1:=bt10.c;have z1:=bt10.z
    have HW11:=Hd hW11;have HW12:=Hd hW12;have HW13:=Hd hW13
    have HX13:=Hd (ai bt13 (ai bn13 (ai ba13 (ai bf13 (ai bk13 (ai bo13 (ai fq (ai row13 hp13))))))))
    have c2:=bs13.c;have c3:=br13.c
    clear S sy f10 bf10 ba10 row10 bn10 bt10 f11 f112 f123 f113 bt13 bn13 ba13 bf13 bk13 bo13 f9 fq row13 hp13 bs13 br13 hW11 hW12 hW13 hKt
    refine wpOf_seq (wpOf_of_wp ?_)
    go_wp2
    rw[uh HW11]
    clear c1 z1 mk2
    show wpOf _ _ _ _ _ _
    refine wpOf_seq (wpOf_of_wp ?_)
    go_wp2
    rw[uh HW12]
    show wpOf _ _ _ _ _ _
    refine wpOf_seq (wpOf_of_wp ?_)
    go_wp2
    rw[uh HW13]
    show wpOf _ _ _ _ _ _
    refine wpOf_seq (wpOf_seq (wpOf_of_wp ?_))
    go_wp2_with fail
    refine(y_Walk (ptr sb) r p0.1 _ rfl).mono ?_
    rintro e w' ⟨rfl,rfl⟩
    go_wp2_with fail
    obtain⟨W14,hW14⟩:∃W,W13.alloc (.cells #[ptr sb] 23)=W:=⟨_,rfl⟩
    obtain⟨W15,hW15⟩:∃W,W14.alloc (.cells #[.int .u64 (r:Nat)] 27)=W:=⟨_,rfl⟩
    obtain⟨wD,hwD⟩:∃W,W15.alloc (.cells #[.string p0.1] 9)=W:=⟨_,rfl⟩
    rw[hW14,hW15,hwD]
    simp only[Nat.add_assoc,Nat.reduceAdd]
    have z14:W14.heap.size=n7+5:=by rw[<-hW14];simp[z13]
    have z15:W15.heap.size=n7+6:=by rw[<-hW15];simp[z14]
    have zD:wD.heap.size=n7+7:=by rw[<-hwD];simp[z15]
    have f15:St W15 wD:=hwD▸(Fr.refl _ W15).alloc _
    have f14:St W14 wD:=(hW15▸(Fr.refl _ W14).alloc _:St W14 W15).trans' f15 nE
    have f13:St W13 wD:=(hW14▸(Fr.refl _ W13).alloc _:St W13 W14).trans' f14 nE
    have o4:wD.heap[n7+4]? = some (.cells #[ptr sb] 23 (0,0)):=f14.obj (by have:=heap_alloc_new W13 (.cells #[ptr sb] 23);rwa [hW14,z13] at this) id
    have o5:wD.heap[n7+5]? = some (.cells #[.int .u64 (r:Nat)] 27 (0,0)):=f15.obj (by have:=heap_alloc_new W14 (.cells #[.int .u64 (r:Nat)] 27);rwa [hW15,z14] at this) id
    have o6:wD.heap[n7+6]? = some (.cells #[.string p0.1] 9 (0,0)):=by have:=heap_alloc_new W15 (.cells #[.string p0.1] 9);rwa [hwD,z15] at this
    have HO:=Hd (ai o4 (ai o5 (ai o6 f13)))
    clear o4 o5 o6 f13 f14 f15 hW14 hW15 hwD z14 z15 c2 c3
    refine wpOf_named fun a9 ha9=>?_
    refine wpOf_block (range_okG (gf:=63) (lb:=#[ptr (n7+6),ptr (n7+4),ptr (n7+5)]) (N:=(geP p0.1 L).length) (enc:=wkE (geP p0.1 L)) (by rw[ha9];rfl) (fun _ _=>by kernel_rfl) ⟨_,Tryz.func4⟩ (fun k=>rfl) (Wkr hb sb b T (n7+6) (n7+4) (n7+5)) (WkR 1467 12176 hb sb b T A [] p0.1 r (n7+6) (n7+4) (n7+5)) (TwG g n7 (.slice (some ⟨gg,0,none⟩) m vc))
     (fun k G W=>TwJ wq.heap.size g n7 m F Kt (.slice (some ⟨gg,0,none⟩) m vc) L k G W)
     (fun k G V a' W=>TwJ wq.heap.size g n7 m F Kt (.slice (some ⟨gg,0,none⟩) m vc) L k G W/\Fr (pair (n7+7)) V W/\∃(p:Pr) (qb:Nat),(geP p0.1 L)[k]? = some p/\V.heap.size<=qb/\n7+9<=qb/\W.heap[qb]? = some (.cells #[.string p.1,.int .u64 (p.2:Nat)] 43 (0,0))/\a' = { tmps:=(a9.tmps.setIfInBounds 60 (.agg #[.string p.1,.int .u64 (p.2:Nat)])).setIfInBounds 17 (ptr qb),defers:=[] })
     (fun c W=>c = .exit 2/\Kt<(geP p0.1 L).length/\∃G,TwJ wq.heap.size g n7 m F Kt (.slice (some ⟨gg,0,none⟩) m vc) L Kt G W) (fun _ _=>False) ?hJ ?hJb ?hJO ?hJA ?hJr ?hseq ?h0 ?hG0 ?hS ?hassign ?hbody ?hdone ?hret (fun _ _ h _=>h.elim))
    case hJ=>intro k G W W' h f;rw[zD] at f;exact h.kept f h.no
    case hJb=>intro k G W h b hb;have:=h.lt hb;have:=h.sz;omega
    case hJO=>intro k G O W W' h f ho;exact h.kept f (fun b hb hG=>ho b hb (.inl ((h.inc b).2 hG)))
    case hJA=>
     rintro k G V a W W' ⟨h,fv,p,qb,e1,e2,e3,e4,rfl⟩ f
     rw[zD] at f
     exact⟨h.kept f h.no,fv.trans' f (fun k hk=>.inl hk),p,qb,e1,e2,e3,f.obj e4 (fun x=>by unfold pair at x;omega),rfl⟩
    case hJr=>
     rintro c W W' ⟨rfl,hk,G,h⟩ f
     rw[zD] at f
     exact⟨rfl,hk,G,h.kept f h.no⟩
    case hseq=>
     obtain⟨S,sy⟩:=uh HS
     exact w_iter (by rw[sy];exact S.t.rt) S.t.ri S.t.pk p0.1 (n7+6) (n7+4) (n7+5) (wD.heap.size+1)
    case h0=>
     intro ob1 ob2
     obtain⟨bt13,bn13,ba13,bf13,bk13,bo13,fq,row13,hp13⟩:=uh HX13
     obtain⟨o4,o5,o6,f13⟩:=uh HO
     have fo:St wD ((wD.alloc ob1).alloc ob2):=((Fr.refl _ wD).alloc ob1).alloc ob2
     have f13o:=f13.trans' fo nE
     exact⟨⟨fun _=>Iff.rfl,bn13.kept f13o id,bt13.kept f13o id,ba13.kept f13o id,bf13.kept f13o id,bk13.kept f13o id,bo13.kept f13o id,own_still row13 f13o,Nat.zero_le _,by simp[zD],by omega,uh HRB⟩,hp13.still f13o,fo.cell' (cOo o6 0) id,fo.cell' (cOo o4 0) id,fo.cell' (cOo o5 0) id⟩
    case hG0=>
     intro k hk
     obtain⟨S,sy⟩:=uh HS
     have hrb:=uh HRB
     have lh:=S.hc.toHp.lth
     have nT:∀j,wq.heap.size<=j->¬tfoot sb b T j:=fun j hj ht=>by have:=S.hc.hd.st.lt _ ht;omega
     have nX:¬tfoot sb b T g/\¬tfoot sb b T (g+1):=⟨S.hc.hd.ap _ (by simp[TwX]),S.hc.hd.ap _ (by simp[TwX])⟩
     have kl:k<n7+4/\(k=g\/k=g+1\/wq.heap.size<=k):=by
      rcases hk with e | e | e | e | e | e | e
      ·omega
      ·omega
      ·omega
      ·omega
      ·omega
      ·omega
      ·have:=hrb k e;omega
     refine⟨by omega,?_⟩
     rintro(e | e | e | e | e | e)
     ·rcases kl.2 with rfl | rfl | h
      ·exact nX.1 e
      ·exact nX.2 e
      ·exact nT k h e
     all_goals omega
    case hS=>
     obtain⟨S,sy⟩:=uh HS
     have lh:=S.hc.toHp.lth
     rintro k (e | e | e | e | e | e)
     ·have:=S.hc.hd.st.lt _ e;omega
     all_goals omega
    case hassign=>
     rintro l' k G W K h hk hK
     obtain⟨p,hp⟩:∃p,(geP p0.1 L)[k]? = some p:=⟨_,List.getElem?_eq_getElem hk⟩
     have ce:wkE (geP p0.1 L) k=#[.agg #[.string p.1,.int .u64 (p.2:Nat)]]:=by unfold wkE;simp only[List.getD,hp,Option.getD_some]
     rw[ce]
     have HJ:=Hd (ai h hp);have HHK:=@Hd _ hK
     clear h hp hK ce
     have HA9:=Hd ha9
     subst ha9
     simp only[List.zip_toArray,List.zip_cons_cons,List.zip_nil_right,List.foldl_toArray',List.size_toArray,List.length_cons,List.length_nil,List.foldl_cons,List.foldl_nil,List.setIfInBounds_toArray,List.set_cons_zero,List.set_cons_succ]
     have hwd:Fence.wide.depth=none:=rfl
     have hwf:∀f,Fence.wide.fn f:=fun _=>trivial
     gi_wp2
     obtain⟨h,hp⟩:=uh HJ
     have hsz:=h.sz
     refine uh HHK _ _ ⟨h.kept (O:=fun _=>False) ((Fr.refl _ W).alloc _) (fun _ h=>h.elim),(Fr.refl _ W).alloc _,p,W.heap.size,hp,Nat.le_refl _,hsz,heap_alloc_new W _,?_⟩ (Below.heap_alloc W _ _ (by omega)) (Below.heap_alloc W _ _ (by omega))
     simp only[List.setIfInBounds_toArray,List.set_cons_zero,List.set_cons_succ]
    case hbody=>
     rintro l' k G V a' W ⟨h,fv,p,qb,hp,hq1,hq2,oq,rfl⟩ hk
     obtain⟨S,sy⟩:=uh HS
     have hlen:=S.len
     have hk2:F+k<m:=by rw[hge,List.length_drop] at hk;omega
     have hp2:L[F+k]? = some p:=by rw[hge,List.getElem?_drop] at hp;exact hp
     first
     | (exfalso;omega)
     |
      have y0:W.cell? ⟨qb,0,none⟩=some (.string p.1):=cOo oq 0
      have y1:W.cell? ⟨qb,1,none⟩=some (.int .u64 (p.2:Nat)):=cOo oq 1
      have x1:=h.bk.c;have x2:=h.bt.c
      have HZD:=Hd (ai zD hlen)
      clear S sy hge hlen zD
      subst ha9
      simp only[List.setIfInBounds_toArray,List.set_cons_zero,List.set_cons_succ]
      have hwd:Fence.wide.depth=none:=rfl
      have hwf:∀f,Fence.wide.fn f:=fun _=>trivial
      by_cases hkt:k=Kt
      ·have hkt':((k:Int) == (Kt:Int))=true:=by simp;omega
       have HQ:=Hd (ai h (ai fv hkt))
       clear h fv hkt oq hp hp2 y0 y1
       gi_wp2_with fail
       obtain⟨h,fv,hkt⟩:=uh HQ
       subst hkt
       exact⟨⟨rfl,rfl⟩,⟨rfl,hk,G,h⟩,by rw[(uh HZD).1];exact fv.mono (fun b hb=>.inl (.inr hb))⟩
      ·have hkt':((k:Int) == (Kt:Int))=false:=by simp;omega
       have hd1:((F:Int)+k<m)=True:=by simp;omega
       have x3:=h.bo.c;have x4:=h.bf.c;have x5:=h.bn.c;have x6:=h.ba.c
       have SL:=sl_of_row h.row pcl_one
       obtain⟨b0,o0,e0,cp0⟩:=SL.cells ((F+k) * 2) _ (pcl_at hp2).1
       obtain⟨b1,o1,e1,cp1⟩:=SL.cells ((F+k) * 2+1) _ (pcl_at hp2).2
       cases e0
       cases e1
       rw[Nat.zero_add] at cp0 cp1
       have e2:=eq_self
       have HQ:=Hd (ai h (ai fv hkt))
       clear h fv hkt oq hp hp2 SL
       gi_wp2_with fail
       refine region_tail 18 (by kernel_rfl) (by kernel_rfl) (by kernel_rfl) ?_
       simp only[List.take_succ_cons,List.take_zero,List.drop_succ_cons,List.drop_zero]
       repeat (gi_big_quiet_step (fail))
       refine wpQuietIn_nil ?_
       rintro _ ⟨nq2,rfl⟩
       clear x1 x2 x3 x4 x5 x6 cp0 cp1 y0 y1
       obtain⟨h,fv,hkt⟩:=uh HQ
       have fd:St W (W.drewN nq2):=(Fr.refl _ W).drewN nq2
       obtain⟨Wd,hWd⟩:∃Wd,W.drewN nq2=Wd:=⟨_,rfl⟩
       rw[hWd] at fd ⊢
       have hd:=h.kept fd nE
       obtain⟨We,hWe⟩:∃We,Wd.setCell ⟨n7+3,0,none⟩ (.bool true)=We:=⟨_,rfl⟩
       obtain⟨Wf,hWf⟩:∃Wf,We.setCell ⟨n7+2,0,none⟩ (.int .i64 ((k:Int)+1))=Wf:=⟨_,rfl⟩
       have fe:Fr (fun b=>b=n7+3) Wd We:=hWe▸Fr.box Wd (n7+3) _
       have ff:Fr (fun b=>b=n7+2) We Wf:=hWf▸Fr.box We (n7+2) _
       have fdf:Fr (fun b=>b=n7+3\/b=n7+2) Wd Wf:=(fe.mono (fun b hb=>.inl (.inl hb))).trans' ff (fun b hb=>.inl (.inr hb))
       have bke:=hd.bk.kept fe (by show ¬n7+2=n7+3;omega)
       have gn:=h.gn
       have nb:∀b,b<n7+2->¬(b=n7+3\/b=n7+2):=fun b hb e=>by omega
       have hJ1:TwJ wq.heap.size g n7 m F Kt (.slice (some ⟨gg,0,none⟩) m vc) L (k+1) G Wf:=⟨h.inc,hd.bn.kept fdf (nb _ (by omega)),hd.bt.kept fdf (nb _ (by omega)),hd.ba.kept fdf (nb _ (by omega)),hd.bf.kept fdf (nb _ (by omega)),hWf▸bke.set _,(hWe▸hd.bo.set _:Box We (n7+3) _).kept ff (by show ¬n7+3=n7+2;omega),row_kept hd.row fdf (fun b hb=>nb b (by have:=gn.2 b hb;omega)),by have:=h.le;omega,Nat.le_trans hd.sz fdf.size,gn⟩
       have fVf:Fr (fun b=>G b\/pair (n7+7) b) V Wf:=(fv.mono (fun b hb=>.inl (.inr hb))).trans' ((fd.mono (G:=fun b=>G b) nE).trans' fdf (fun b hb=>.inl ((h.inc b).2 (by rcases hb with e | e;exact .inr (.inr (.inr (.inr (.inr (.inl e)))));exact .inr (.inr (.inr (.inr (.inl e)))))))) (fun b hb=>.inl (.inl hb))
       have D0:∀b,n7+7<=b->b<W.heap.size->Wf.heap[b]? = W.heap[b]?:=fun b h1 h2=>(fdf.block b (Nat.lt_of_lt_of_le h2 fd.size) (by omega)).trans (fd.block b h2 id)
       have x3:=hd.bo.c;have z3:=hd.bo.z;have x1:=bke.c;have z1:=bke.z
       have HE:=Hd (ai hJ1 (ai fVf (ai D0 h)));have HWe:=Hd hWe;have HWf:=Hd hWf
       rw[<-hWe] at x1 z1
       clear h fv hkt fd hd fe ff fdf bke gn nb hJ1 fVf D0 hWe hWf hWd HQ
       gi_wp2_with fail
       rw[uh HWe,uh HWf]
       obtain⟨hJ1,fVf,D0,h⟩:=uh HE
       have hsz:=h.sz
       have ez:=(uh HZD).1
       refine⟨⟨D0 _ (by omega) (by omega),D0 _ (by omega) (by omega)⟩,G,hJ1,by rw[ez];exact fVf,fun b hb=>hb,fun b hb=>.inl hb⟩
    case hdone=>
     intro G W h fr hDD
     have hkN:(geP p0.1 L).length=m - F:=by rw[hge,List.length_drop,(uh HS).1.len]
     have hle:=h.le
     rw[hkN] at h hle
     obtain⟨kf,hkf,hkm⟩:∃kf,m - F=kf/\(kf:Int)=min (Kt:Int) ((m:Int) - F):=⟨_,rfl,by omega⟩
     rw[hkf] at h
     clear hkN hle hge hkf
     obtain⟨S,sy⟩:=uh HS
     obtain⟨bt13,bn13,ba13,bf13,bk13,bo13,fq,row13,hp13⟩:=uh HX13
     obtain⟨o4,o5,o6,f13⟩:=uh HO
     have fW:St w W:=((S.hc.hd.fr.trans' fq (fun k hk=>.inr (by omega))).trans' f13 nE).trans' fr (fun k hk=>.inr (by
      have hrb:=uh HRB
      have hwz:=S.hc.hd.fr.size
      rcases hk with e | e | e | e | e | e | e
      ·omega
      ·omega
      ·omega
      ·omega
      ·omega
      ·omega
      ·have:=hrb k e;omega))
     have AW:=l11_awake W (fun j hj=>fW.cell' (uh HT j hj) id)
     have x1:=h.bo.c;have x2:=h.ba.c;have x3:=h.bn.c;have x4:=h.bk.c;have x5:=h.bt.c;have x6:=h.bf.c
     have wr1:wrap64 ((m:Int) - F)=(m:Int) - F:=small_w64 (by omega)
     have HAW:=Hd AW;have HF:=Hd (ai fW (ai hDD h.sz))
     have hkm':=eq_true hkm
     have hkb:((kf:Int) == min (Kt:Int) ((m:Int) - F))=true:=by rw[hkm];simp
     clear S sy bt13 bn13 ba13 bf13 bk13 bo13 fq row13 hp13 o4 o5 o6 f13 fW AW h fr hDD hkm
     subst ha9
     show wpOf _ _ _ _ _ _
     refine wpOf_of_wp ?_
     go_wp2_with fail
     refine(uh HAW).mono ?_
     rintro e w9 ⟨rfl,f9⟩
     have HF9:=Hd f9
     clear f9 HAW x1 x2 x3 x4 x5 x6
     go_wp2
     obtain⟨fW,hDD,hsz⟩:=uh HF
     have f9:=uh HF9
     have hD9:w9.heap[n7+7]? = some (.deferred (some [])):=by
      rw[zD] at hDD
      exact(f9.block _ (by omega) id).trans hDD
     have f:=(fW.trans' f9 nE).trans' ((Fr.refl (fun j=>j=n7+7) w9).putObj (.inl rfl) (.deferred none)) (fun k hk=>.inr (by have hk:k=n7+7:=hk;omega))
     refine⟨by simp,.inl ⟨_,_,rfl,run_takeDeferred hD9,⟨.bool true,results_tmp Tryz.results4 _ _ _,rfl,?_⟩⟩⟩
     exact⟨f.os,f.tape,f.output,f.size,fun k hk=>f.block k (by omega) id⟩
    case hret=>
     rintro c W ⟨rfl,hk,G,h⟩ fr hDD
     have hkN:(geP p0.1 L).length=m - F:=by rw[hge,List.length_drop,(uh HS).1.len]
     rw[hkN] at hk
     obtain⟨kf,hkf,hkm⟩:∃kf,Kt=kf/\(kf:Int)=min (Kt:Int) ((m:Int) - F):=⟨_,rfl,by omega⟩
     rw[show TwJ wq.heap.size g n7 m F Kt (.slice (some ⟨gg,0,none⟩) m vc) L Kt G W=TwJ wq.heap.size g n7 m F Kt (.slice (some ⟨gg,0,none⟩) m vc) L kf G W by rw[<-hkf]] at h
     clear hkN hge hkf hk
     gi_wp2
     obtain⟨S,sy⟩:=uh HS
     obtain⟨bt13,bn13,ba13,bf13,bk13,bo13,fq,row13,hp13⟩:=uh HX13
     obtain⟨o4,o5,o6,f13⟩:=uh HO
     have fW:St w W:=((S.hc.hd.fr.trans' fq (fun k hk=>.inr (by omega))).trans' f13 nE).trans' fr (fun k hk=>.inr (by
      have hrb:=uh HRB
      have hwz:=S.hc.hd.fr.size
      rcases hk with e | e | e | e | e | e | e
      ·omega
      ·omega
      ·omega
      ·omega
      ·omega
      ·omega
      ·have:=hrb k e;omega))
     have AW:=l11_awake W (fun j hj=>fW.cell' (uh HT j hj) id)
     have x1:=h.bo.c;have x2:=h.ba.c;have x3:=h.bn.c;have x4:=h.bk.c;have x5:=h.bt.c;have x6:=h.bf.c
     have wr1:wrap64 ((m:Int) - F)=(m:Int) - F:=small_w64 (by omega)
     have HAW:=Hd AW;have HF:=Hd (ai fW (ai hDD h.sz))
     have hkm':=eq_true hkm
     have hkb:((kf:Int) == min (Kt:Int) ((m:Int) - F))=true:=by rw[hkm];simp
     clear S sy bt13 bn13 ba13 bf13 bk13 bo13 fq row13 hp13 o4 o5 o6 f13 fW AW h fr hDD hkm
     subst ha9
     show wpOf _ _ _ _ _ _
     refine wpOf_of_wp ?_
     go_wp2_with fail
     refine(uh HAW).mono ?_
     rintro e w9 ⟨rfl,f9⟩
     have HF9:=Hd f9
     clear f9 HAW x1 x2 x3 x4 x5 x6
     go_wp2
     obtain⟨fW,hDD,hsz⟩:=uh HF
     have f9:=uh HF9
     have hD9:w9.heap[n7+7]? = some (.deferred (some [])):=by
      rw[zD] at hDD
      exact(f9.block _ (by omega) id).trans hDD
     have f:=(fW.trans' f9 nE).trans' ((Fr.refl (fun j=>j=n7+7) w9).putObj (.inl rfl) (.deferred none)) (fun k hk=>.inr (by have hk:k=n7+7:=hk;omega))
     refine⟨by simp,.inl ⟨_,_,rfl,run_takeDeferred hD9,⟨.bool true,results_tmp Tryz.results4 _ _ _,rfl,?_⟩⟩⟩
     exact⟨f.os,f.tape,f.output,f.size,fun k hk=>f.block k (by omega) id⟩
   ·have hm0':((0:Int)<m)=False:=by simp;omega
    obtain⟨F,hF0⟩:∃F:Nat,F=0:=⟨0,rfl⟩
    obtain⟨W10,hW10⟩:∃W10,W9=W10:=⟨_,rfl⟩
    have z10:W10.heap.size=n7+2:=by rw[<-hW10];exact z9
    have f10:Fr (fun k=>k=n7+1) W9 W10:=hW10▸Fr.refl _ W9
    have bf10:Box W10 (n7+1) (.int .i64 (F:Nat)):=by rw[hF0,<-hW10];exact bf9
    have ba10:=ba9.kept f10 (by show ¬n7=n7+1;omega)
    have bn10:=bn9.kept f10 (by show ¬g=n7+1;omega)
    have row10:W10.ownsRow wq.heap.size 43 2 (.slice va m vc) m (pcl L):=hW10▸row9
    have ge:geP ⟨#[]⟩ L=L.drop F:=by rw[geP_all,hF0];rfl
    have HX10:=Hd (ai f10 (ai bf10 (ai ba10 (ai row10 (ai bn10 (ai ge (show F<=m by omega)))))))
    have HW10:=Hd hW10
    clear f9 ba9 bf9 SL row9 bn9 S sy f10 bf10 ba10 bn10 row10 ge hW10 hF0
    go_wp2
    rw[uh HW10]
    show wpOf _ _ _ _ _ _
    clear c1
    obtain⟨f10,bf10,ba10,row10,bn10,hge,hFm⟩:=uh HX10
    obtain⟨S,sy⟩:=uh HS
    have bt10:=(S.bt.kept (uh HX).1 id).kept f10 (by show ¬g+1=n7+1;omega)
    obtain⟨Kt,hKt⟩:∃Kt,msk a2 31=Kt:=⟨_,rfl⟩
    have mk2:bits .and .i64 a2 31=(Kt:Int):=by rw[<-hKt];exact mask31 a2
    obtain⟨W11,hW11⟩:∃W11,W10.setCell ⟨g+1,0,none⟩ (.int .i64 (Kt:Nat))=W11:=⟨_,rfl⟩
    obtain⟨W12,hW12⟩:∃W12,W11.alloc (.cells #[.int .i64 0] 3)=W12:=⟨_,rfl⟩
    obtain⟨W13,hW13⟩:∃W13,W12.alloc (.cells #[.bool true] 4)=W13:=⟨_,rfl⟩
    have z11:W11.heap.size=n7+2:=by rw[<-hW11];simp[z10]
    have z12:W12.heap.size=n7+3:=by rw[<-hW12];simp;omega
    have z13:W13.heap.size=n7+4:=by rw[<-hW13];simp;omega
    have f11:Fr (fun k=>k=g+1) W10 W11:=hW11▸Fr.box W10 (g+1) _
    have f112:St W11 W12:=hW12▸(Fr.refl _ W11).alloc _
    have f123:St W12 W13:=hW13▸(Fr.refl _ W12).alloc _
    have f113:St W11 W13:=f112.trans' f123 nE
    have bt13:Box W13 (g+1) (.int .i64 (Kt:Nat)):=(hW11▸bt10.set _:Box W11 (g+1) _).kept f113 id
    have bn13:=(bn10.kept f11 (by show ¬g=g+1;omega)).kept f113 id
    have ba13:=(ba10.kept f11 (by show ¬n7=g+1;omega)).kept f113 id
    have bf13:=(bf10.kept f11 (by show ¬n7+1=g+1;omega)).kept f113 id
    have bk13:Box W13 (n7+2) (.int .i64 0):=by
     have:=Box.new W11 (.int .i64 0) 3
     rw[hW12,z11] at this;exact this.kept f123 id
    have bo13:Box W13 (n7+3) (.bool true):=by
     have:=Box.new W12 (.bool true) 4
     rw[hW13,z12] at this;exact this
    have f9:=(uh HX).1
    have fq:Fr (fun k=>k=n7+1\/k=g+1) wq W13:=(((f9.mono nE).trans' f10 (fun k hk=>.inl (.inl hk))).trans' f11 (fun k hk=>.inl (.inr hk))).trans' f113 nE
    have row13:W13.ownsRow wq.heap.size 43 2 (.slice va m vc) m (pcl L):=own_still (row_kept row10 f11 (fun k hk e=>by have:=(row10.lt k hk).1;have:=S.bi.lt;have e:k=g+1:=e;omega)) f113
    have hp13:=S.hc.toHp.turn fq (fun k hk=>by
     rcases hk with rfl | rfl
     ·exact fun ht=>by have:=S.hc.hd.st.lt _ ht;have:=S.bi.lt;omega
     ·exact S.hc.hd.ap _ (by simp[TwX])) (by omega) (by omega)
    have bs13:=S.bs.kept fq (by omega)
    have br13:=S.br.kept fq (by omega)
    have c1:=bt10.c;have z1:=bt10.z
    have HW11:=Hd hW11;have HW12:=Hd hW12;have HW13:=Hd hW13
    have HX13:=Hd (ai bt13 (ai bn13 (ai ba13 (ai bf13 (ai bk13 (ai bo13 (ai fq (ai row13 hp13))))))))
    have c2:=bs13.c;have c3:=br13.c
    clear S sy f10 bf10 ba10 row10 bn10 bt10 f11 f112 f123 f113 bt13 bn13 ba13 bf13 bk13 bo13 f9 fq row13 hp13 bs13 br13 hW11 hW12 hW13 hKt
    refine wpOf_seq (wpOf_of_wp ?_)
    go_wp2
    rw[uh HW11]
    clear c1 z1 mk2
    show wpOf _ _ _ _ _ _
    refine wpOf_seq (wpOf_of_wp ?_)
    go_wp2
    rw[uh HW12]
    show wpOf _ _ _ _ _ _
    refine wpOf_seq (wpOf_of_wp ?_)
    go_wp2
    rw[uh HW13]
    show wpOf _ _ _ _ _ _
    refine wpOf_seq (wpOf_seq (wpOf_of_wp ?_))
    go_wp2_with fail
    refine(y_Walk (ptr sb) r ⟨#[]⟩ _ rfl).mono ?_
    rintro e w' ⟨rfl,rfl⟩
    go_wp2_with fail
    obtain⟨W14,hW14⟩:∃W,W13.alloc (.cells #[ptr sb] 23)=W:=⟨_,rfl⟩
    obtain⟨W15,hW15⟩:∃W,W14.alloc (.cells #[.int .u64 (r:Nat)] 27)=W:=⟨_,rfl⟩
    obtain⟨wD,hwD⟩:∃W,W15.alloc (.cells #[.string ⟨#[]⟩] 9)=W:=⟨_,rfl⟩
    rw[hW14,hW15,hwD]
    simp only[Nat.add_assoc,Nat.reduceAdd]
    have z14:W14.heap.size=n7+5:=by rw[<-hW14];simp[z13]
    have z15:W15.heap.size=n7+6:=by rw[<-hW15];simp[z14]
    have zD:wD.heap.size=n7+7:=by rw[<-hwD];simp[z15]
    have f15:St W15 wD:=hwD▸(Fr.refl _ W15).alloc _
    have f14:St W14 wD:=(hW15▸(Fr.refl _ W14).alloc _:St W14 W15).trans' f15 nE
    have f13:St W13 wD:=(hW14▸(Fr.refl _ W13).alloc _:St W13 W14).trans' f14 nE
    have o4:wD.heap[n7+4]? = some (.cells #[ptr sb] 23 (0,0)):=f14.obj (by have:=heap_alloc_new W13 (.cells #[ptr sb] 23);rwa [hW14,z13] at this) id
    have o5:wD.heap[n7+5]? = some (.cells #[.int .u64 (r:Nat)] 27 (0,0)):=f15.obj (by have:=heap_alloc_new W14 (.cells #[.int .u64 (r:Nat)] 27);rwa [hW15,z14] at this) id
    have o6:wD.heap[n7+6]? = some (.cells #[.string ⟨#[]⟩] 9 (0,0)):=by have:=heap_alloc_new W15 (.cells #[.string ⟨#[]⟩] 9);rwa [hwD,z15] at this
    have HO:=Hd (ai o4 (ai o5 (ai o6 f13)))
    clear o4 o5 o6 f13 f14 f15 hW14 hW15 hwD z14 z15 c2 c3
    refine wpOf_named fun a9 ha9=>?_
    refine wpOf_block (range_okG (gf:=63) (lb:=#[ptr (n7+6),ptr (n7+4),ptr (n7+5)]) (N:=(geP ⟨#[]⟩ L).length) (enc:=wkE (geP ⟨#[]⟩ L)) (by rw[ha9];rfl) (fun _ _=>by kernel_rfl) ⟨_,Tryz.func4⟩ (fun k=>rfl) (Wkr hb sb b T (n7+6) (n7+4) (n7+5)) (WkR 1467 12176 hb sb b T A [] ⟨#[]⟩ r (n7+6) (n7+4) (n7+5)) (TwG g n7 (.slice va m vc))
     (fun k G W=>TwJ wq.heap.size g n7 m F Kt (.slice va m vc) L k G W)
     (fun k G V a' W=>TwJ wq.heap.size g n7 m F Kt (.slice va m vc) L k G W/\Fr (pair (n7+7)) V W/\∃(p:Pr) (qb:Nat),(geP ⟨#[]⟩ L)[k]? = some p/\V.heap.size<=qb/\n7+9<=qb/\W.heap[qb]? = some (.cells #[.string p.1,.int .u64 (p.2:Nat)] 43 (0,0))/\a' = { tmps:=(a9.tmps.setIfInBounds 60 (.agg #[.string p.1,.int .u64 (p.2:Nat)])).setIfInBounds 17 (ptr qb),defers:=[] })
     (fun c W=>c = .exit 2/\Kt<(geP ⟨#[]⟩ L).length/\∃G,TwJ wq.heap.size g n7 m F Kt (.slice va m vc) L Kt G W) (fun _ _=>False) ?hJ ?hJb ?hJO ?hJA ?hJr ?hseq ?h0 ?hG0 ?hS ?hassign ?hbody ?hdone ?hret (fun _ _ h _=>h.elim))
    case hJ=>intro k G W W' h f;rw[zD] at f;exact h.kept f h.no
    case hJb=>intro k G W h b hb;have:=h.lt hb;have:=h.sz;omega
    case hJO=>intro k G O W W' h f ho;exact h.kept f (fun b hb hG=>ho b hb (.inl ((h.inc b).2 hG)))
    case hJA=>
     rintro k G V a W W' ⟨h,fv,p,qb,e1,e2,e3,e4,rfl⟩ f
     rw[zD] at f
     exact⟨h.kept f h.no,fv.trans' f (fun k hk=>.inl hk),p,qb,e1,e2,e3,f.obj e4 (fun x=>by unfold pair at x;omega),rfl⟩
    case hJr=>
     rintro c W W' ⟨rfl,hk,G,h⟩ f
     rw[zD] at f
     exact⟨rfl,hk,G,h.kept f h.no⟩
    case hseq=>
     obtain⟨S,sy⟩:=uh HS
     exact w_iter (by rw[sy];exact S.t.rt) S.t.ri S.t.pk ⟨#[]⟩ (n7+6) (n7+4) (n7+5) (wD.heap.size+1)
    case h0=>
     intro ob1 ob2
     obtain⟨bt13,bn13,ba13,bf13,bk13,bo13,fq,row13,hp13⟩:=uh HX13
     obtain⟨o4,o5,o6,f13⟩:=uh HO
     have fo:St wD ((wD.alloc ob1).alloc ob2):=((Fr.refl _ wD).alloc ob1).alloc ob2
     have f13o:=f13.trans' fo nE
     exact⟨⟨fun _=>Iff.rfl,bn13.kept f13o id,bt13.kept f13o id,ba13.kept f13o id,bf13.kept f13o id,bk13.kept f13o id,bo13.kept f13o id,own_still row13 f13o,Nat.zero_le _,by simp[zD],by omega,uh HRB⟩,hp13.still f13o,fo.cell' (cOo o6 0) id,fo.cell' (cOo o4 0) id,fo.cell' (cOo o5 0) id⟩
    case hG0=>
     intro k hk
     obtain⟨S,sy⟩:=uh HS
     have hrb:=uh HRB
     have lh:=S.hc.toHp.lth
     have nT:∀j,wq.heap.size<=j->¬tfoot sb b T j:=fun j hj ht=>by have:=S.hc.hd.st.lt _ ht;omega
     have nX:¬tfoot sb b T g/\¬tfoot sb b T (g+1):=⟨S.hc.hd.ap _ (by simp[TwX]),S.hc.hd.ap _ (by simp[TwX])⟩
     have kl:k<n7+4/\(k=g\/k=g+1\/wq.heap.size<=k):=by
      rcases hk with e | e | e | e | e | e | e
      ·omega
      ·omega
      ·omega
      ·omega
      ·omega
      ·omega
      ·have:=hrb k e;omega
     refine⟨by omega,?_⟩
     rintro(e | e | e | e | e | e)
     ·rcases kl.2 with rfl | rfl | h
      ·exact nX.1 e
      ·exact nX.2 e
      ·exact nT k h e
     all_goals omega
    case hS=>
     obtain⟨S,sy⟩:=uh HS
     have lh:=S.hc.toHp.lth
     rintro k (e | e | e | e | e | e)
     ·have:=S.hc.hd.st.lt _ e;omega
     all_goals omega
    case hassign=>
     rintro l' k G W K h hk hK
     obtain⟨p,hp⟩:∃p,(geP ⟨#[]⟩ L)[k]? = some p:=⟨_,List.getElem?_eq_getElem hk⟩
     have ce:wkE (geP ⟨#[]⟩ L) k=#[.agg #[.string p.1,.int .u64 (p.2:Nat)]]:=by unfold wkE;simp only[List.getD,hp,Option.getD_some]
     rw[ce]
     have HJ:=Hd (ai h hp);have HHK:=@Hd _ hK
     clear h hp hK ce
     have HA9:=Hd ha9
     subst ha9
     simp only[List.zip_toArray,List.zip_cons_cons,List.zip_nil_right,List.foldl_toArray',List.size_toArray,List.length_cons,List.length_nil,List.foldl_cons,List.foldl_nil,List.setIfInBounds_toArray,List.set_cons_zero,List.set_cons_succ]
     have hwd:Fence.wide.depth=none:=rfl
     have hwf:∀f,Fence.wide.fn f:=fun _=>trivial
     gi_wp2
     obtain⟨h,hp⟩:=uh HJ
     have hsz:=h.sz
     refine uh HHK _ _ ⟨h.kept (O:=fun _=>False) ((Fr.refl _ W).alloc _) (fun _ h=>h.elim),(Fr.refl _ W).alloc _,p,W.heap.size,hp,Nat.le_refl _,hsz,heap_alloc_new W _,?_⟩ (Below.heap_alloc W _ _ (by omega)) (Below.heap_alloc W _ _ (by omega))
     simp only[List.setIfInBounds_toArray,List.set_cons_zero,List.set_cons_succ]
    case hbody=>
     rintro l' k G V a' W ⟨h,fv,p,qb,hp,hq1,hq2,oq,rfl⟩ hk
     obtain⟨S,sy⟩:=uh HS
     have hlen:=S.len
     have hk2:F+k<m:=by rw[hge,List.length_drop] at hk;omega
     have hp2:L[F+k]? = some p:=by rw[hge,List.getElem?_drop] at hp;exact hp
     first
     | (exfalso;omega)
     |
      have y0:W.cell? ⟨qb,0,none⟩=some (.string p.1):=cOo oq 0
      have y1:W.cell? ⟨qb,1,none⟩=some (.int .u64 (p.2:Nat)):=cOo oq 1
      have x1:=h.bk.c;have x2:=h.bt.c
      have HZD:=Hd (ai zD hlen)
      clear S sy hge hlen zD
      subst ha9
      simp only[List.setIfInBounds_toArray,List.set_cons_zero,List.set_cons_succ]
      have hwd:Fence.wide.depth=none:=rfl
      have hwf:∀f,Fence.wide.fn f:=fun _=>trivial
      by_cases hkt:k=Kt
      ·have hkt':((k:Int) == (Kt:Int))=true:=by simp;omega
       have HQ:=Hd (ai h (ai fv hkt))
       clear h fv hkt oq hp hp2 y0 y1
       gi_wp2_with fail
       obtain⟨h,fv,hkt⟩:=uh HQ
       subst hkt
       exact⟨⟨rfl,rfl⟩,⟨rfl,hk,G,h⟩,by rw[(uh HZD).1];exact fv.mono (fun b hb=>.inl (.inr hb))⟩
      ·have hkt':((k:Int) == (Kt:Int))=false:=by simp;omega
       have hd1:((F:Int)+k<m)=True:=by simp;omega
       have x3:=h.bo.c;have x4:=h.bf.c;have x5:=h.bn.c;have x6:=h.ba.c
       have SL:=sl_of_row h.row pcl_one
       obtain⟨b0,o0,e0,cp0⟩:=SL.cells ((F+k) * 2) _ (pcl_at hp2).1
       obtain⟨b1,o1,e1,cp1⟩:=SL.cells ((F+k) * 2+1) _ (pcl_at hp2).2
       cases e0
       cases e1
       rw[Nat.zero_add] at cp0 cp1
       have e2:=eq_self
       have HQ:=Hd (ai h (ai fv hkt))
       clear h fv hkt oq hp hp2 SL
       gi_wp2_with fail
       refine region_tail 18 (by kernel_rfl) (by kernel_rfl) (by kernel_rfl) ?_
       simp only[List.take_succ_cons,List.take_zero,List.drop_succ_cons,List.drop_zero]
       repeat (gi_big_quiet_step (fail))
       refine wpQuietIn_nil ?_
       rintro _ ⟨nq2,rfl⟩
       clear x1 x2 x3 x4 x5 x6 cp0 cp1 y0 y1
       obtain⟨h,fv,hkt⟩:=uh HQ
       have fd:St W (W.drewN nq2):=(Fr.refl _ W).drewN nq2
       obtain⟨Wd,hWd⟩:∃Wd,W.drewN nq2=Wd:=⟨_,rfl⟩
       rw[hWd] at fd ⊢
       have hd:=h.kept fd nE
       obtain⟨We,hWe⟩:∃We,Wd.setCell ⟨n7+3,0,none⟩ (.bool true)=We:=⟨_,rfl⟩
       obtain⟨Wf,hWf⟩:∃Wf,We.setCell ⟨n7+2,0,none⟩ (.int .i64 ((k:Int)+1))=Wf:=⟨_,rfl⟩
       have fe:Fr (fun b=>b=n7+3) Wd We:=hWe▸Fr.box Wd (n7+3) _
       have ff:Fr (fun b=>b=n7+2) We Wf:=hWf▸Fr.box We (n7+2) _
       have fdf:Fr (fun b=>b=n7+3\/b=n7+2) Wd Wf:=(fe.mono (fun b hb=>.inl (.inl hb))).trans' ff (fun b hb=>.inl (.inr hb))
       have bke:=hd.bk.kept fe (by show ¬n7+2=n7+3;omega)
       have gn:=h.gn
       have nb:∀b,b<n7+2->¬(b=n7+3\/b=n7+2):=fun b hb e=>by omega
       have hJ1:TwJ wq.heap.size g n7 m F Kt (.slice va m vc) L (k+1) G Wf:=⟨h.inc,hd.bn.kept fdf (nb _ (by omega)),hd.bt.kept fdf (nb _ (by omega)),hd.ba.kept fdf (nb _ (by omega)),hd.bf.kept fdf (nb _ (by omega)),hWf▸bke.set _,(hWe▸hd.bo.set _:Box We (n7+3) _).kept ff (by show ¬n7+3=n7+2;omega),row_kept hd.row fdf (fun b hb=>nb b (by have:=gn.2 b hb;omega)),by have:=h.le;omega,Nat.le_trans hd.sz fdf.size,gn⟩
       have fVf:Fr (fun b=>G b\/pair (n7+7) b) V Wf:=(fv.mono (fun b hb=>.inl (.inr hb))).trans' ((fd.mono (G:=fun b=>G b) nE).trans' fdf (fun b hb=>.inl ((h.inc b).2 (by rcases hb with e | e;exact .inr (.inr (.inr (.inr (.inr (.inl e)))));exact .inr (.inr (.inr (.inr (.inl e)))))))) (fun b hb=>.inl (.inl hb))
       have D0:∀b,n7+7<=b->b<W.heap.size->Wf.heap[b]? = W.heap[b]?:=fun b h1 h2=>(fdf.block b (Nat.lt_of_lt_of_le h2 fd.size) (by omega)).trans (fd.block b h2 id)
       have x3:=hd.bo.c;have z3:=hd.bo.z;have x1:=bke.c;have z1:=bke.z
       have HE:=Hd (ai hJ1 (ai fVf (ai D0 h)));have HWe:=Hd hWe;have HWf:=Hd hWf
       rw[<-hWe] at x1 z1
       clear h fv hkt fd hd fe ff fdf bke gn nb hJ1 fVf D0 hWe hWf hWd HQ
       gi_wp2_with fail
       rw[uh HWe,uh HWf]
       obtain⟨hJ1,fVf,D0,h⟩:=uh HE
       have hsz:=h.sz
       have ez:=(uh HZD).1
       refine⟨⟨D0 _ (by omega) (by omega),D0 _ (by omega) (by omega)⟩,G,hJ1,by rw[ez];exact fVf,fun b hb=>hb,fun b hb=>.inl hb⟩
    case hdone=>
     intro G W h fr hDD
     have hkN:(geP ⟨#[]⟩ L).length=m - F:=by rw[hge,List.length_drop,(uh HS).1.len]
     have hle:=h.le
     rw[hkN] at h hle
     obtain⟨kf,hkf,hkm⟩:∃kf,m - F=kf/\(kf:Int)=min (Kt:Int) ((m:Int) - F):=⟨_,rfl,by omega⟩
     rw[hkf] at h
     clear hkN hle hge hkf
     obtain⟨S,sy⟩:=uh HS
     obtain⟨bt13,bn13,ba13,bf13,bk13,bo13,fq,row13,hp13⟩:=uh HX13
     obtain⟨o4,o5,o6,f13⟩:=uh HO
     have fW:St w W:=((S.hc.hd.fr.trans' fq (fun k hk=>.inr (by omega))).trans' f13 nE).trans' fr (fun k hk=>.inr (by
      have hrb:=uh HRB
      have hwz:=S.hc.hd.fr.size
      rcases hk with e | e | e | e | e | e | e
      ·omega
      ·omega
      ·omega
      ·omega
      ·omega
      ·omega
      ·have:=hrb k e;omega))
     have AW:=l11_awake W (fun j hj=>fW.cell' (uh HT j hj) id)
     have x1:=h.bo.c;have x2:=h.ba.c;have x3:=h.bn.c;have x4:=h.bk.c;have x5:=h.bt.c;have x6:=h.bf.c
     have wr1:wrap64 ((m:Int) - F)=(m:Int) - F:=small_w64 (by omega)
     have HAW:=Hd AW;have HF:=Hd (ai fW (ai hDD h.sz))
     have hkm':=eq_true hkm
     have hkb:((kf:Int) == min (Kt:Int) ((m:Int) - F))=true:=by rw[hkm];simp
     clear S sy bt13 bn13 ba13 bf13 bk13 bo13 fq row13 hp13 o4 o5 o6 f13 fW AW h fr hDD hkm
     subst ha9
     show wpOf _ _ _ _ _ _
     refine wpOf_of_wp ?_
     go_wp2_with fail
     refine(uh HAW).mono ?_
     rintro e w9 ⟨rfl,f9⟩
     have HF9:=Hd f9
     clear f9 HAW x1 x2 x3 x4 x5 x6
     go_wp2
     obtain⟨fW,hDD,hsz⟩:=uh HF
     have f9:=uh HF9
     have hD9:w9.heap[n7+7]? = some (.deferred (some [])):=by
      rw[zD] at hDD
      exact(f9.block _ (by omega) id).trans hDD
     have f:=(fW.trans' f9 nE).trans' ((Fr.refl (fun j=>j=n7+7) w9).putObj (.inl rfl) (.deferred none)) (fun k hk=>.inr (by have hk:k=n7+7:=hk;omega))
     refine⟨by simp,.inl ⟨_,_,rfl,run_takeDeferred hD9,⟨.bool true,results_tmp Tryz.results4 _ _ _,rfl,?_⟩⟩⟩
     exact⟨f.os,f.tape,f.output,f.size,fun k hk=>f.block k (by omega) id⟩
    case hret=>
     rintro c W ⟨rfl,hk,G,h⟩ fr hDD
     have hkN:(geP ⟨#[]⟩ L).length=m - F:=by rw[hge,List.length_drop,(uh HS).1.len]
     rw[hkN] at hk
     obtain⟨kf,hkf,hkm⟩:∃kf,Kt=kf/\(kf:Int)=min (Kt:Int) ((m:Int) - F):=⟨_,rfl,by omega⟩
     rw[show TwJ wq.heap.size g n7 m F Kt (.slice va m vc) L Kt G W=TwJ wq.heap.size g n7 m F Kt (.slice va m vc) L kf G W by rw[<-hkf]] at h
     clear hkN hge hkf hk
     gi_wp2
     obtain⟨S,sy⟩:=uh HS
     obtain⟨bt13,bn13,ba13,bf13,bk13,bo13,fq,row13,hp13⟩:=uh HX13
     obtain⟨o4,o5,o6,f13⟩:=uh HO
     have fW:St w W:=((S.hc.hd.fr.trans' fq (fun k hk=>.inr (by omega))).trans' f13 nE).trans' fr (fun k hk=>.inr (by
      have hrb:=uh HRB
      have hwz:=S.hc.hd.fr.size
      rcases hk with e | e | e | e | e | e | e
      ·omega
      ·omega
      ·omega
      ·omega
      ·omega
      ·omega
      ·have:=hrb k e;omega))
     have AW:=l11_awake W (fun j hj=>fW.cell' (uh HT j hj) id)
     have x1:=h.bo.c;have x2:=h.ba.c;have x3:=h.bn.c;have x4:=h.bk.c;have x5:=h.bt.c;have x6:=h.bf.c
     have wr1:wrap64 ((m:Int) - F)=(m:Int) - F:=small_w64 (by omega)
     have HAW:=Hd AW;have HF:=Hd (ai fW (ai hDD h.sz))
     have hkm':=eq_true hkm
     have hkb:((kf:Int) == min (Kt:Int) ((m:Int) - F))=true:=by rw[hkm];simp
     clear S sy bt13 bn13 ba13 bf13 bk13 bo13 fq row13 hp13 o4 o5 o6 f13 fW AW h fr hDD hkm
     subst ha9
     show wpOf _ _ _ _ _ _
     refine wpOf_of_wp ?_
     go_wp2_with fail
     refine(uh HAW).mono ?_
     rintro e w9 ⟨rfl,f9⟩
     have HF9:=Hd f9
     clear f9 HAW x1 x2 x3 x4 x5 x6
     go_wp2
     obtain⟨fW,hDD,hsz⟩:=uh HF
     have f9:=uh HF9
     have hD9:w9.heap[n7+7]? = some (.deferred (some [])):=by
      rw[zD] at hDD
      exact(f9.block _ (by omega) id).trans hDD
     have f:=(fW.trans' f9 nE).trans' ((Fr.refl (fun j=>j=n7+7) w9).putObj (.inl rfl) (.deferred none)) (fun k hk=>.inr (by have hk:k=n7+7:=hk;omega))
     refine⟨by simp,.inl ⟨_,_,rfl,run_takeDeferred hD9,⟨.bool true,results_tmp Tryz.results4 _ _ _,rfl,?_⟩⟩⟩
     exact⟨f.os,f.tape,f.output,f.size,fun k hk=>f.block k (by omega) id⟩
end Go.Proofs.YtbiopjmpdhcjgaaGreatDoor
