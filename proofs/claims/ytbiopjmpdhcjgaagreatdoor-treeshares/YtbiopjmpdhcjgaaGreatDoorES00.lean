/- Joined: NvD Pq GHa Ka Kb Ke Km Ko Kn Kp Kq KsW. -/
import Derived.Defers
import Derived.Recover
import Derived.Laws.Bits64b
import Derived.Test.YtbiopjmpdhcjgaaGreatDoorRows
import Derived.Deep.QuietTactic
import Derived.BigQuiet
import Derived.WalkKit
import Derived.WalkSpells
import Derived.WalkLawsBesides
import Derived.Handy
import Derived.BigRegion
import Derived.Deep.RegionLawGrows
import Derived.Laws.BitsAllLaws
import Derived.Laws.Bits64
import Derived.Laws.MakeOwn
import Derived.LoopTactic
import Derived.StillTail
import Derived.Below
import Derived.OwnWalk
import Derived.Deep.OwnRows
import Derived.Maps.AppendAt
import Derived.Laws.AppendOwnNone
import Derived.Laws.EntriesVeiled
import Derived.OwnWalkIn
import Derived.TacticsInMore
import Derived.LoopNIn
import Derived.LoopIn
import Derived.RangeFuncCalls
import Derived.Lib.SlicesCompact
import Derived.RangeFuncNested
import Derived.Sort.BigQuietIn
import Derived.Test.YtbiopjmpdhcjgaaGreatDoorShelf
import Derived.Lib.TrailingZeros
import Derived.Laws.ResultCell
import Derived.Lib.ConvBytes
import Derived.Lib.AppendZerosOnto
import Derived.Shelf.Small.Strs
import Derived.Sort.Walk0
import Derived.Laws.CopyOwn
import Derived.Deep.RegionHeld
import Derived.Great.Ranges
import Derived.Great.Walk
import Derived.Laws.Rows
import Derived.Laws.Tables
import Derived.Deep.CutRange
import Derived.Maps.OwnSet
import Derived.Laws.OwnMore
import Derived.Maps.OwnIn
import Derived.Maps.Views
import Derived.Sort.OwnSortedInts
import Derived.Test.YtbiopjmpdhcjgaaGreatDoorS38
namespace Go.Proofs.YtbiopjmpdhcjgaaGreatDoor
open Go.RowKit
set_option maxHeartbeats 4000000

section
section
variable {word:Int} {g:Nat} {first cap:Array Value} {w:World} {F:Nat->Prop} {R:World->Prop}
end
section
variable {w0 w:World} {b:Nat} {F:Nat->Prop} {G:Nat->Option Obj} {A:Ab}
end
section
variable {V:World} {b:Nat} {L:Lay} {A A':Ab} {G G':Nat->Option Obj} {g:Nat} {first cap:Array Value} {word:Int}
end
def msk (z:Int) (m:Nat):Nat:=(BitVec.ofInt 64 z).toNat &&& m
theorem mask_i64 (z:Int) (m:Nat) (hm:m<4294967296):bits .and .i64 z (m:Int)=(msk z m:Int):=by
 have hle:(BitVec.ofInt 64 z).toNat &&& m<=m:=Nat.and_le_right
 have h2:(BitVec.ofInt 64 (m:Int)).toNat=m:=by
  rw[BitVec.ofInt_natCast,BitVec.toNat_ofNat];exact Nat.mod_eq_of_lt (by omega)
 show IntKind.i64.wrap ((BitVec.ofInt 64 z &&& BitVec.ofInt 64 (m:Int)).toNat:Int)=_
 rw[BitVec.toNat_and,h2,IntKind.wrap_i64]
 simp only[msk]
 omega
theorem mask63 (z:Int):bits .and .i64 z 63=(msk z 63:Int):=mask_i64 z 63 (by omega)
end
theorem strB_size (f:Nat->Nat) (n:Nat):(strB f n).size=n:=by rw[strB,strOfNums_size];simp[rowL]

section
section
variable {nu sz:Nat} {w:World} {hb sb:Nat} {f:Nat->Int}
theorem h_free (h:HpL nu sz w hb sb) (rd:Rds sz w sb f) (x:Nat) (hx:x<=8 * nu) (hf:f 1=x) :
  Calls Tryz.prog 34 #[ptr hb] w fun e w'=>e = .returned (.int .i64 x)/\w'=w:=by
 have c0:=h.c0
 obtain⟨g1,g2,g3,g4,g5,g6⟩:=h.geo.b
 have LD:Calls Tryz.prog 59 #[ptr sb,.int .i64 1] w _:=rd 0 1 (by omega)
 rw[hf] at LD
 have HLD:=Hd LD
 have hw:=small_w64 (x:=(x:Int)) (by omega)
 clear LD h rd
 go_enter Tryz.func34,Tryz.ntmps34
 go_wp2_with (go_at_call 59;refine(uh HLD).mono ?_;rintro e w' ⟨rfl,hh⟩;replace hh:=hh.symm;subst hh)
 go_ret
 exact⟨by simp,rfl⟩
end
end
theorem putP_new {x:ByteArray} {v:Nat}:∀{l:List Pr},(∀p∈l,p.1≠x)->(putP l x v).length=l.length+1
 | [],_=>rfl
 | p :: l,h=>by
  have h1:=h p (List.mem_cons_self ..)
  rw[putP,if_neg h1]
  split
  ·rw[List.length_cons,putP_new fun q hq=>h q (List.mem_cons_of_mem _ hq),List.length_cons]
  ·rfl
def kyF (i:Nat):Nat->Nat:=fun k=>if k=0 then 97+i * 7 % 16 else if k=1 then 97+i * 5 % 26 else if k=2 then 97+i % 26 else 97+i / 26
def kyB (i:Nat):ByteArray:=⟨#[107]⟩ ++ strB (kyF i) 4
theorem kyB_size (i:Nat):(kyB i).size=5:=by
 unfold kyB
 rw[ByteArray.size_append,strB_size];rfl
theorem kyF_lt (i:Nat) (hi:i<200) (k:Nat):kyF i k<256:=by unfold kyF;split;omega;split;omega;split;omega;omega
theorem kyB_inj {i j:Nat} (hi:i<200) (hj:j<200) (e:kyB i=kyB j):i=j:=by
 have e1:(kyB i).data.toList=(kyB j).data.toList:=by rw[e]
 unfold kyB strB at e1
 simp only[ByteArray.data_append,Array.toList_append,strOfNums_data,rowL] at e1
 have e2:=List.append_cancel_left e1
 have e3:∀k,k<4->kyF i k=kyF j k:=fun k hk=>by
  have:=congrArg (fun l=>l[k]?) e2
  simp[hk] at this
  have h1:=kyF_lt i hi k
  have h2:=kyF_lt j hj k
  have h3:=congrArg UInt8.toNat this
  simp at h3
  omega
 have h2:=e3 2 (by omega)
 have h3:=e3 3 (by omega)
 simp[kyF] at h2 h3
 omega
set_option maxRecDepth 20000 in
theorem l11_key (i:Nat) (hi:i<200) (w:World):Calls Tryz.prog 12 #[.int .i64 (i:Nat)] w fun e w'=>e = .returned (.string (kyB i))/\St w w':=by
 obtain⟨W,hW⟩:∃W,w.alloc (.cells #[.int .u8 (97+(i:Int) * 7 % 16),.int .u8 (97+(i:Int) * 5 % 26),.int .u8 (97+(i:Int) % 26),.int .u8 (97+(i:Int) / 26)] 5)=W:=⟨_,rfl⟩
 have o1:W.heap[w.heap.size]? = some (.cells #[.int .u8 (97+(i:Int) * 7 % 16),.int .u8 (97+(i:Int) * 5 % 26),.int .u8 (97+(i:Int) % 26),.int .u8 (97+(i:Int) / 26)] 5 (0,0)):=hW▸heap_alloc_new w _
 have hN:Nats .u8 W (some ⟨w.heap.size,0,none⟩) 4 (kyF i):=fun k hk=>by
  refine⟨_,_,rfl,?_⟩
  rcases (show k=0\/k=1\/k=2\/k=3 by omega) with rfl | rfl | rfl | rfl
  ·exact cOo o1 0
  ·exact cOo o1 1
  ·exact cOo o1 2
  ·exact cOo o1 3
 have cv:=conv_str W (some ⟨w.heap.size,0,none⟩) 4 4 (kyF i) hN
 have HF:=Hd (show St w W from hW▸(Fr.refl _ w).alloc _)
 rw[<-hW] at cv
 have HW:=Hd hW
 clear hW o1 hN
 go_enter Tryz.func12,Tryz.ntmps12
 go_wp2_with fail
 go_ret
 rw[uh HW]
 exact⟨rfl,uh HF⟩

section
theorem sl_root (w W:World) (r:Nat) (hW:w.alloc (.cells #[.int .u64 (r:Nat),.slice none 0 0] 35)=W):Sl W 2 (some ⟨w.heap.size,0,none⟩) ([(r,Value.slice none 0 0)]:List (Nat×Value)).length 1 (rtcl [(r,.slice none 0 0)]):=by
 have o:W.heap[w.heap.size]? = some (.cells #[.int .u64 (r:Nat),.slice none 0 0] 35 (0,0)):=hW▸heap_alloc_new w _
 exact⟨rfl,Nat.le_refl _,(fun e=>by cases e),(fun u hu=>by
  simp only[rtcl,List.mem_cons,List.not_mem_nil,or_false] at hu
  rcases hu with rfl | rfl <;> rfl),(fun j u hu=>⟨w.heap.size,0,rfl,by
  rw[Nat.zero_add,cOo o j,<-hu]
  simp[rtcl]⟩),(fun x e=>by cases e;rfl)⟩
section
variable {nu sz:Nat} {w w' w0:World} {hb sb b bs bh br bi:Nat} {T:Tay} {A:Ab} {P:List (Int×Int)} {r i:Nat} {L:List Pr} {Q:List Nat}
end
end

section
structure RtO (w:World) (br r:Nat):Prop where
 o:w.heap[br]? = some (.cells #[.int .u64 (r:Nat),.slice none 0 0] 35 (0,0))
theorem RtO.lt {w:World} {br r:Nat} (h:RtO w br r):br<w.heap.size:=(Array.getElem?_eq_some_iff.1 h.o).1
theorem RtO.kept {w w':World} {F:Nat->Prop} {br r:Nat} (h:RtO w br r) (f:Fr F w w') (n:¬F br):RtO w' br r:=⟨f.obj h.o n⟩
theorem RtO.set {w:World} {br r:Nat} (h:RtO w br r) (r':Nat):RtO (w.setCell ⟨br,0,none⟩ (.int .u64 (r':Nat))) br r':=⟨heap_setCell_same w br 0 _ _ _ h.o⟩
def PutG (nu sz:Nat) (V:Nat->Prop) (w:World) (sb b:Nat) (T:Tay) (A:Ab) (B:World->Nat->Prop) (L':List Pr) (w':World):Prop:=
 ∃T' P' r' Q',OnxX V w sb b T w' T' sz A P' false/\B w' r'/\r'≠0/\Tre nu sz (says P' A) r' L' Q'
section
variable {nu sz:Nat} {w w' w0:World} {hb sb b bs bh br bi:Nat} {T:Tay} {A:Ab} {P:List (Int×Int)} {r i:Nat} {L:List Pr} {Q:List Nat}
set_option maxRecDepth 20000 in
theorem tsC1 (h:Hp nu sz w hb sb b T A P) (t:Tre nu sz (says P A) r L Q) (hl:L.length<=130) (hP:P.length<=100) (hnu:2 * L.length+30<nu / 4) (hi:i<200)
  (cs:w.cell? ⟨bs,0,none⟩=some (ptr sb)) (ch:w.cell? ⟨bh,0,none⟩=some (ptr hb)) (Br:RtO w br r) (ci:w.cell? ⟨bi,0,none⟩=some (.int .i64 (i:Nat))) (nt:∀k,k=bs\/k=bh\/k=br\/k=bi->¬tfoot sb b T k)
  (ne:bs≠br/\bh≠br/\bi≠br/\hb≠br/\0≠br) :
  Calls Tryz.prog 33 #[ptr bs,ptr bh,ptr br,ptr bi] w fun e w'=>e = .returned (.tuple #[])/\PutG nu sz (fun k=>k=br) w sb b T A (RtO · br ·) (putP L (kyB i) i) w':=by
 have fD:St w w.drew:=(Fr.refl _ w).drewN 1
 have KY:=l11_key i hi w.drew
 have PUT:∀w1,St w w1->Calls Tryz.prog 11 #[ptr sb,ptr hb,.int .u64 (r:Nat),.string (kyB i),.int .u64 (i:Nat)] w1 _:=fun w1 f1=>y_Put (h.still f1) t.st t.rt t.pk t.ri (by omega) (kyB i) i (by rw[kyB_size];omega) (by omega) (by omega) (by have:=t.cnt;omega) t.low
 have lbs:bs<w.heap.size:=World.block_lt_of_cell? _ _ cs
 have lbh:bh<w.heap.size:=World.block_lt_of_cell? _ _ ch
 have lbi:bi<w.heap.size:=World.block_lt_of_cell? _ _ ci
 have lbr:=Br.lt
 have cr:w.cell? ⟨br,0,none⟩=some (.int .u64 (r:Nat)):=cOo Br.o 0
 have HK:=Hd KY;have HP:=@Hd _ PUT
 have HX:=Hd (ai h (ai t (ai hl (ai hP (ai hnu (ai Br fD))))));have HNT:=@Hd _ nt
 have wu:IntKind.u64.wrap (i:Nat)=(i:Nat):=(wrap_small _ (by omega) (by omega)).2
 clear KY PUT h t hl hP hnu Br nt fD
 go_enter Tryz.func33,Tryz.ntmps33
 go_wp2_with fail
 refine wp_region_held_drew (S:=fun w'=>w'.cell? ⟨bs,0,none⟩=some (ptr sb)/\w'.cell? ⟨bh,0,none⟩=some (ptr hb)/\w'.cell? ⟨bi,0,none⟩=some (.int .i64 (i:Nat))) (by kernel_rfl) ⟨cs,ch,ci⟩ (fun hHeld=>?_)
 refine tkO 0 ?_ hHeld rfl ?_ ?_
 rotate_left
 ·intro w q;go_simp;try with_reducible rfl
 simp only[apt,List.set]
 refine tkO 1 ?_ hHeld rfl ?_ ?_
 rotate_left
 ·intro w q;go_simp;try with_reducible rfl
 simp only[apt,List.set]
 refine tkO 2 ?_ hHeld rfl ?_ ?_
 rotate_left
 ·intro w q;go_simp;try with_reducible rfl
 simp only[apt,List.set]
 refine tkO 4 ?_ hHeld rfl ?_ ?_
 rotate_left
 ·intro w q;go_simp;try with_reducible rfl
 simp only[apt,List.set]
 refine tkO 6 ?_ hHeld rfl ?_ ?_
 rotate_left
 ·intro w q;go_simp;try with_reducible rfl
 simp only[apt,List.set]
 refine tkO 7 ?_ hHeld rfl ?_ ?_
 rotate_left
 ·intro w q;go_simp;try with_reducible rfl
 simp only[apt,List.set]
 clear wu
 refine wpAnyH_ready (rs:=[3,5]) (by kernel_rfl) (by simp) ?_
 refine AllReadyH.cons rfl (fun K hK=>?_) (AllReadyH.cons rfl (fun K hK=>?_) AllReadyH.nil)
 ·go_simp
  refine hK.out _ _ hHeld (fun _=>?_)
  clear hK K
  refine rdO 5 rfl (fun K hK=>?_)
  go_simp
  go_wp2_with fail
  refine(uh HK).mono ?_
  clear HK
  rintro e w1 ⟨rfl,f1⟩
  have f01:St w w1:=(uh HX).2.2.2.2.2.2.trans' f1 nE
  have hHeld1:w1.cell? ⟨bs,0,none⟩=some (ptr sb)/\w1.cell? ⟨bh,0,none⟩=some (ptr hb)/\w1.cell? ⟨bi,0,none⟩=some (.int .i64 (i:Nat)):=⟨f01.cell' cs id,f01.cell' ch id,f01.cell' ci id⟩
  refine hK.out _ _ hHeld1 (fun _=>?_)
  clear hK K f1
  have hS1:=hHeld1
  refine rdO 8 rfl (fun K hK=>?_)
  go_simp
  go_wp2_with fail
  refine(uh HP w1 f01).mono ?_
  rintro e w2 ⟨r',rfl,T2,P2,Q2,k2,hk2,o2,l2,ch2,hr2,rt2⟩
  obtain⟨h,t,hl,hP,hnu,Br,fD⟩:=uh HX
  have h2:=(h.still f01).call o2
  have o02:Onx w sb b T w2 T2 sz A P2 false:=o2.after f01
  have nt2:∀k,k=bs\/k=bh\/k=br\/k=bi->¬tfoot sb b T2 k:=fun k hk=>o02.other (by rcases hk with rfl | rfl | rfl | rfl <;> assumption) (uh HNT k hk)
  have cs2:w2.cell? ⟨bs,0,none⟩=some (ptr sb):=o02.fr.cell' cs (uh HNT bs (by simp))
  have ch2':w2.cell? ⟨bh,0,none⟩=some (ptr hb):=o02.fr.cell' ch (uh HNT bh (by simp))
  have ci2:w2.cell? ⟨bi,0,none⟩=some (.int .i64 (i:Nat)):=o02.fr.cell' ci (uh HNT bi (by simp))
  have Br2:=Br.kept o02.fr (uh HNT br (by simp))
  obtain⟨W3,hW3⟩:∃W3,w2.setCell ⟨br,0,none⟩ (.int .u64 (r':Nat))=W3:=⟨_,rfl⟩
  have f3:Fr (fun k=>k=br) w2 W3:=hW3▸Fr.box w2 br _
  have Br3:RtO W3 br r':=hW3▸Br2.set _
  have cs3:W3.cell? ⟨bs,0,none⟩=some (ptr sb):=f3.cell' cs2 ne.1
  have ch3:W3.cell? ⟨bh,0,none⟩=some (ptr hb):=f3.cell' ch2' ne.2.1
  have ci3:W3.cell? ⟨bi,0,none⟩=some (.int .i64 (i:Nat)):=f3.cell' ci2 ne.2.2.1
  have h3:=h2.turn f3 (fun k hk=>by rw[hk];exact nt2 br (by simp)) ne.2.2.2.1 ne.2.2.2.2
  have ri2:Rise (putP L (kyB i) i):=putP_rise t.ri
  have pk2:Pok (putP L (kyB i) i):=t.pk.put (by rw[kyB_size];omega) (by omega)
  have ln2:=putP_len (kyB i) i L
  obtain⟨W4,hW4⟩:∃W4,W3.alloc (.cells #[.int .u64 (r':Nat),.slice none 0 0] 35)=W4:=⟨_,rfl⟩
  have f4:St W3 W4:=hW4▸(Fr.refl _ W3).alloc _
  have SL:=sl_root W3 W4 r' hW4
  have few2:=ch2.few
  have cn:=t.cnt
  have SW:=t_sweepR (h3.still f4) ch2.st (some ⟨W3.heap.size,0,none⟩) 1 [(r',.slice none 0 0)] [Q2] SL rfl (fun j p Q' h1 h2=>by
   match j,h1,h2 with
   | 0,h1,h2=>
    cases (Option.some.inj h1);cases (Option.some.inj h2)
    exact⟨_,rt2,ri2,by omega⟩
   | j+1,h1,_=>simp at h1) (by simp) (by omega)
  have HSW:=Hd SW
  have HE:=Hd (show ∀w5 g,To sz W4 sb b T2 A w5 g (P2.length+10 * cnt nu (ask nu (says P2 A)))->HpS nu g->(∀u,ask nu g u=if u ∈ [Q2].flatten then ask nu (says P2 A) u else 0)->(∀i,fi nu<=i->g i=says P2 A i)->PutG nu sz (fun k=>k=br) w sb b T A (RtO · br ·) (putP L (kyB i) i) w5 from fun w5 g tg sg ak ke=>by
   obtain⟨T5,P5,o5,e5,l5⟩:=tg
   subst e5
   have sw:Swp nu (says P2 A) (says P5 A) Q2:=⟨sg,fun u=>by rw[ak];simp,ke⟩
   refine⟨T5,P5,r',Q2,(((OnxX.of o02).var f3 (fun k hk=>hk) (fun k hk=>by rw[hk];exact nt2 br (by simp))).quiet f4).trans o5,?_,hr2,t.put rt2 sw ri2 pk2⟩
   exact(Br3.kept f4 id).kept o5.fr (nt2 br (by simp)))
  have c3:W3.cell? ⟨br,0,none⟩=some (.int .u64 (r':Nat)):=cOo Br3.o 0
  have c3b:W3.cell? ⟨br,1,none⟩=some (.slice none 0 0):=cOo Br3.o 1
  have c2:w2.cell? ⟨br,0,none⟩=some (.int .u64 (r:Nat)):=cOo Br2.o 0
  have z2:w2.frozen? ⟨br,0,none⟩=false:=by simp[World.frozen?,Br2.o]
  have HW3:=Hd hW3;have HW4:=Hd hW4
  refine hK.out _ _ ⟨cs2,ch2',ci2⟩ (fun _=>?_)
  clear hK K
  refine rdO 9 rfl (fun K hK=>?_)
  go_simp
  refine hK.out _ _ ⟨cs2,ch2',ci2⟩ (fun _=>?_)
  clear hK K SW h2 o02 o2 nt2 f3 h3 ri2 pk2 ln2 few2 cn f4 SL hW4 h t hl hP hnu Br Br2 Br3 fD l2 ch2 hr2 rt2 hk2 HX HP HNT cs2 ch2' ci2 hS1 hW3
  refine rdO 10 rfl (fun K hK=>?_)
  go_simp
  rw[uh HW3]
  refine hK.out _ _ ⟨cs3,ch3,ci3⟩ (fun _=>?_)
  clear hK K c2 z2
  refine wpAnyH_done (by kernel_rfl) ?_ _
  go_wp2_with fail
  rw[uh HW4]
  refine(uh HSW).mono ?_
  rintro e w5 ⟨rfl,g,tg,sg,ak,ke,-⟩
  have HQ:=Hd (uh HE w5 g tg sg ak ke)
  clear HSW HE tg sg ak ke
  go_wp2_with fail
  go_end0
  exact⟨rfl,uh HQ⟩
 ·go_simp
  go_wp2_with fail
  refine(uh HK).mono ?_
  clear HK
  rintro e w1 ⟨rfl,f1⟩
  have f01:St w w1:=(uh HX).2.2.2.2.2.2.trans' f1 nE
  have hHeld1:w1.cell? ⟨bs,0,none⟩=some (ptr sb)/\w1.cell? ⟨bh,0,none⟩=some (ptr hb)/\w1.cell? ⟨bi,0,none⟩=some (.int .i64 (i:Nat)):=⟨f01.cell' cs id,f01.cell' ch id,f01.cell' ci id⟩
  have cr1:w1.cell? ⟨br,0,none⟩=some (.int .u64 (r:Nat)):=f01.cell' cr id
  refine hK.out _ _ hHeld1 (fun _=>?_)
  clear hK K f1
  refine rdO 3 rfl (fun K hK=>?_)
  go_simp
  refine hK.out _ _ hHeld1 (fun _=>?_)
  clear hK K cr1
  have hS1:=hHeld1
  refine rdO 8 rfl (fun K hK=>?_)
  go_simp
  go_wp2_with fail
  refine(uh HP w1 f01).mono ?_
  rintro e w2 ⟨r',rfl,T2,P2,Q2,k2,hk2,o2,l2,ch2,hr2,rt2⟩
  obtain⟨h,t,hl,hP,hnu,Br,fD⟩:=uh HX
  have h2:=(h.still f01).call o2
  have o02:Onx w sb b T w2 T2 sz A P2 false:=o2.after f01
  have nt2:∀k,k=bs\/k=bh\/k=br\/k=bi->¬tfoot sb b T2 k:=fun k hk=>o02.other (by rcases hk with rfl | rfl | rfl | rfl <;> assumption) (uh HNT k hk)
  have cs2:w2.cell? ⟨bs,0,none⟩=some (ptr sb):=o02.fr.cell' cs (uh HNT bs (by simp))
  have ch2':w2.cell? ⟨bh,0,none⟩=some (ptr hb):=o02.fr.cell' ch (uh HNT bh (by simp))
  have ci2:w2.cell? ⟨bi,0,none⟩=some (.int .i64 (i:Nat)):=o02.fr.cell' ci (uh HNT bi (by simp))
  have Br2:=Br.kept o02.fr (uh HNT br (by simp))
  obtain⟨W3,hW3⟩:∃W3,w2.setCell ⟨br,0,none⟩ (.int .u64 (r':Nat))=W3:=⟨_,rfl⟩
  have f3:Fr (fun k=>k=br) w2 W3:=hW3▸Fr.box w2 br _
  have Br3:RtO W3 br r':=hW3▸Br2.set _
  have cs3:W3.cell? ⟨bs,0,none⟩=some (ptr sb):=f3.cell' cs2 ne.1
  have ch3:W3.cell? ⟨bh,0,none⟩=some (ptr hb):=f3.cell' ch2' ne.2.1
  have ci3:W3.cell? ⟨bi,0,none⟩=some (.int .i64 (i:Nat)):=f3.cell' ci2 ne.2.2.1
  have h3:=h2.turn f3 (fun k hk=>by rw[hk];exact nt2 br (by simp)) ne.2.2.2.1 ne.2.2.2.2
  have ri2:Rise (putP L (kyB i) i):=putP_rise t.ri
  have pk2:Pok (putP L (kyB i) i):=t.pk.put (by rw[kyB_size];omega) (by omega)
  have ln2:=putP_len (kyB i) i L
  obtain⟨W4,hW4⟩:∃W4,W3.alloc (.cells #[.int .u64 (r':Nat),.slice none 0 0] 35)=W4:=⟨_,rfl⟩
  have f4:St W3 W4:=hW4▸(Fr.refl _ W3).alloc _
  have SL:=sl_root W3 W4 r' hW4
  have few2:=ch2.few
  have cn:=t.cnt
  have SW:=t_sweepR (h3.still f4) ch2.st (some ⟨W3.heap.size,0,none⟩) 1 [(r',.slice none 0 0)] [Q2] SL rfl (fun j p Q' h1 h2=>by
   match j,h1,h2 with
   | 0,h1,h2=>
    cases (Option.some.inj h1);cases (Option.some.inj h2)
    exact⟨_,rt2,ri2,by omega⟩
   | j+1,h1,_=>simp at h1) (by simp) (by omega)
  have HSW:=Hd SW
  have HE:=Hd (show ∀w5 g,To sz W4 sb b T2 A w5 g (P2.length+10 * cnt nu (ask nu (says P2 A)))->HpS nu g->(∀u,ask nu g u=if u ∈ [Q2].flatten then ask nu (says P2 A) u else 0)->(∀i,fi nu<=i->g i=says P2 A i)->PutG nu sz (fun k=>k=br) w sb b T A (RtO · br ·) (putP L (kyB i) i) w5 from fun w5 g tg sg ak ke=>by
   obtain⟨T5,P5,o5,e5,l5⟩:=tg
   subst e5
   have sw:Swp nu (says P2 A) (says P5 A) Q2:=⟨sg,fun u=>by rw[ak];simp,ke⟩
   refine⟨T5,P5,r',Q2,(((OnxX.of o02).var f3 (fun k hk=>hk) (fun k hk=>by rw[hk];exact nt2 br (by simp))).quiet f4).trans o5,?_,hr2,t.put rt2 sw ri2 pk2⟩
   exact(Br3.kept f4 id).kept o5.fr (nt2 br (by simp)))
  have c3:W3.cell? ⟨br,0,none⟩=some (.int .u64 (r':Nat)):=cOo Br3.o 0
  have c3b:W3.cell? ⟨br,1,none⟩=some (.slice none 0 0):=cOo Br3.o 1
  have c2:w2.cell? ⟨br,0,none⟩=some (.int .u64 (r:Nat)):=cOo Br2.o 0
  have z2:w2.frozen? ⟨br,0,none⟩=false:=by simp[World.frozen?,Br2.o]
  have HW3:=Hd hW3;have HW4:=Hd hW4
  refine hK.out _ _ ⟨cs2,ch2',ci2⟩ (fun _=>?_)
  clear hK K
  refine rdO 9 rfl (fun K hK=>?_)
  go_simp
  refine hK.out _ _ ⟨cs2,ch2',ci2⟩ (fun _=>?_)
  clear hK K SW h2 o02 o2 nt2 f3 h3 ri2 pk2 ln2 few2 cn f4 SL hW4 h t hl hP hnu Br Br2 Br3 fD l2 ch2 hr2 rt2 hk2 HX HP HNT cs2 ch2' ci2 hS1 hW3
  refine rdO 10 rfl (fun K hK=>?_)
  go_simp
  rw[uh HW3]
  refine hK.out _ _ ⟨cs3,ch3,ci3⟩ (fun _=>?_)
  clear hK K c2 z2
  refine wpAnyH_done (by kernel_rfl) ?_ _
  go_wp2_with fail
  rw[uh HW4]
  refine(uh HSW).mono ?_
  rintro e w5 ⟨rfl,g,tg,sg,ak,ke,-⟩
  have HQ:=Hd (uh HE w5 g tg sg ak ke)
  clear HSW HE tg sg ak ke
  go_wp2_with fail
  go_end0
  exact⟨rfl,uh HQ⟩
end
end

section
def PutO (nu sz:Nat) (w:World) (sb b:Nat) (T:Tay) (A:Ab) (f:Nat->Int) (b2:Nat) (L':List Pr) (w':World):Prop:=
 ∃T' P' r' Q' k,OnxX (fun k=>k=b2) w sb b T w' T' sz A P' false/\Box w' b2 (.int .u64 ((r':Nat):Int))/\r'≠0/\k<=20/\Chg nu f k (says P' A)/\Rt nu sz (says P' A) r' L' Q'
section
variable {nu sz:Nat} {w w' w0:World} {hb sb b bs bh br bi b2:Nat} {T:Tay} {A:Ab} {P:List (Int×Int)} {r r2:Nat} {L L2:List Pr} {Q Q2:List Nat} {a1:Int}
set_option maxRecDepth 20000 in
theorem tsC2 (h:Hp nu sz w hb sb b T A P) (t:Tre nu sz (says P A) r L Q) (hl:L.length<=130) (hP:P.length<=100) (hnu:2 * L.length+30<nu / 4)
  (cs:w.cell? ⟨bs,0,none⟩=some (ptr sb)) (ch:w.cell? ⟨bh,0,none⟩=some (ptr hb)) (Br:RtO w br r) (ci:w.cell? ⟨bi,0,none⟩=some (.int .i64 a1)) (B2:Box w b2 (.int .u64 0)) (nt:∀k,k=bs\/k=bh\/k=br\/k=bi\/k=b2->¬tfoot sb b T k)
  (ne:bs≠b2/\bh≠b2/\bi≠b2/\br≠b2) :
  Calls Tryz.prog 35 #[ptr bs,ptr bh,ptr br,ptr bi,ptr b2] w fun e w'=>e = .returned (.tuple #[])/\PutO nu sz w sb b T A (says P A) b2 (putP L (kyB (msk a1 63)) 99) w':=by
 have fD:St w w.drew:=(Fr.refl _ w).drewN 1
 obtain⟨i,hi⟩:∃i,msk a1 63=i:=⟨_,rfl⟩
 have mk:bits .and .i64 a1 63=(i:Int):=by rw[<-hi];exact mask63 a1
 have hi63:i<=63:=by rw[<-hi];exact Nat.and_le_right
 rw[hi]
 have KY:=l11_key i (by omega) w.drew
 have PUT:∀w1,St w w1->Calls Tryz.prog 11 #[ptr sb,ptr hb,.int .u64 (r:Nat),.string (kyB i),.int .u64 99] w1 _:=fun w1 f1=>y_Put (h.still f1) t.st t.rt t.pk t.ri (by omega) (kyB i) 99 (by rw[kyB_size];omega) (by omega) (by omega) (by have:=t.cnt;omega) t.low
 have lbs:bs<w.heap.size:=World.block_lt_of_cell? _ _ cs
 have lbh:bh<w.heap.size:=World.block_lt_of_cell? _ _ ch
 have lbi:bi<w.heap.size:=World.block_lt_of_cell? _ _ ci
 have lbr:=Br.lt
 have cr:w.cell? ⟨br,0,none⟩=some (.int .u64 (r:Nat)):=cOo Br.o 0
 have HK:=Hd KY;have HP:=@Hd _ PUT
 have HX:=Hd (ai h (ai B2 fD));have HNT:=@Hd _ nt
 clear KY PUT h t hl hP hnu Br nt fD B2 hi
 go_enter Tryz.func35,Tryz.ntmps35
 go_wp2_with fail
 refine wp_region_held_drew (S:=fun w'=>w'.cell? ⟨bs,0,none⟩=some (ptr sb)/\w'.cell? ⟨bh,0,none⟩=some (ptr hb)/\w'.cell? ⟨bi,0,none⟩=some (.int .i64 a1)/\w'.cell? ⟨br,0,none⟩=some (.int .u64 (r:Nat))) (by kernel_rfl) ⟨cs,ch,ci,cr⟩ (fun hHeld=>?_)
 refine tkO 0 ?_ hHeld rfl ?_ ?_
 rotate_left
 ·intro w q;go_simp;try with_reducible rfl
 simp only[apt,List.set]
 refine tkO 1 ?_ hHeld rfl ?_ ?_
 rotate_left
 ·intro w q;go_simp;try with_reducible rfl
 simp only[apt,List.set]
 refine tkO 2 ?_ hHeld rfl ?_ ?_
 rotate_left
 ·intro w q;go_simp;try with_reducible rfl
 simp only[apt,List.set]
 refine tkO 3 ?_ hHeld rfl ?_ ?_
 rotate_left
 ·intro w q;go_simp;try with_reducible rfl
 simp only[apt,List.set]
 refine tkO 4 ?_ hHeld rfl ?_ ?_
 rotate_left
 ·intro w q;go_simp;try with_reducible rfl
 simp only[apt,List.set]
 refine tkO 5 ?_ hHeld rfl ?_ ?_
 rotate_left
 ·intro w q;go_simp;try with_reducible rfl
 simp only[apt,List.set]
 refine rdO 6 rfl (fun K hK=>?_)
 go_simp
 go_wp2_with fail
 refine(uh HK).mono ?_
 clear HK
 rintro e w1 ⟨rfl,f1⟩
 have f01:St w w1:=(uh HX).2.2.trans' f1 nE
 refine hK.out _ _ ⟨f01.cell' cs id,f01.cell' ch id,f01.cell' ci id,f01.cell' cr id⟩ (fun _=>?_)
 clear hK K f1
 refine rdO 7 rfl (fun K hK=>?_)
 go_simp
 go_wp2_with fail
 refine(uh HP w1 f01).mono ?_
 rintro e w2 ⟨r',rfl,T2,P2,Q2,k2,hk2,o2,l2,ch2,hr2,rt2⟩
 obtain⟨h,B2,fD⟩:=uh HX
 have o02:Onx w sb b T w2 T2 sz A P2 false:=o2.after f01
 have lb2:=B2.lt
 have nt2:∀k,k=bs\/k=bh\/k=br\/k=bi\/k=b2->¬tfoot sb b T2 k:=fun k hk=>o02.other (by rcases hk with rfl | rfl | rfl | rfl | rfl <;> assumption) (uh HNT k hk)
 have cs2:w2.cell? ⟨bs,0,none⟩=some (ptr sb):=o02.fr.cell' cs (uh HNT bs (by simp))
 have ch2':w2.cell? ⟨bh,0,none⟩=some (ptr hb):=o02.fr.cell' ch (uh HNT bh (by simp))
 have ci2:w2.cell? ⟨bi,0,none⟩=some (.int .i64 a1):=o02.fr.cell' ci (uh HNT bi (by simp))
 have cr2:w2.cell? ⟨br,0,none⟩=some (.int .u64 (r:Nat)):=o02.fr.cell' cr (uh HNT br (by simp))
 have B22:=B2.kept o02.fr (uh HNT b2 (by simp))
 obtain⟨W3,hW3⟩:∃W3,w2.setCell ⟨b2,0,none⟩ (.int .u64 (r':Nat))=W3:=⟨_,rfl⟩
 have f3:Fr (fun k=>k=b2) w2 W3:=hW3▸Fr.box w2 b2 _
 have HE:=Hd (show PutO nu sz w sb b T A (says P A) b2 (putP L (kyB i) 99) W3 from⟨T2,P2,r',Q2,k2,(OnxX.of o02).var f3 (fun k hk=>hk) (fun k hk=>by rw[hk];exact nt2 b2 (by simp)),hW3▸B22.set _,hr2,hk2.1,ch2,rt2⟩)
 have S3:W3.cell? ⟨bs,0,none⟩=some (ptr sb)/\W3.cell? ⟨bh,0,none⟩=some (ptr hb)/\W3.cell? ⟨bi,0,none⟩=some (.int .i64 a1)/\W3.cell? ⟨br,0,none⟩=some (.int .u64 (r:Nat)):=⟨f3.cell' cs2 ne.1,f3.cell' ch2' ne.2.1,f3.cell' ci2 ne.2.2.1,f3.cell' cr2 ne.2.2.2⟩
 have c2:=B22.c;have z2:=B22.z
 have HW3:=Hd hW3
 refine hK.out _ _ ⟨cs2,ch2',ci2,cr2⟩ (fun _=>?_)
 clear hK K o02 o2 nt2 f3 h B2 B22 fD l2 ch2 hr2 rt2 hk2 HX HP HNT cs2 ch2' ci2 cr2 hW3
 refine rdO 8 rfl (fun K hK=>?_)
 go_simp
 rw[uh HW3]
 refine hK.out _ _ S3 (fun _=>?_)
 clear hK K c2 z2
 refine wpAnyH_done (by kernel_rfl) ?_ _
 go_wp2_with fail
 go_end0
 exact⟨rfl,uh HE⟩
theorem sl_root2 (w W:World) (r r2:Nat) (hW:w.alloc (.cells #[.int .u64 (r:Nat),.slice none 0 0,.int .u64 (r2:Nat),.slice none 0 0] 35)=W):Sl W 2 (some ⟨w.heap.size,0,none⟩) ([(r,Value.slice none 0 0),(r2,Value.slice none 0 0)]:List (Nat×Value)).length 2 (rtcl [(r,.slice none 0 0),(r2,.slice none 0 0)]):=by
 have o:W.heap[w.heap.size]? = some (.cells #[.int .u64 (r:Nat),.slice none 0 0,.int .u64 (r2:Nat),.slice none 0 0] 35 (0,0)):=hW▸heap_alloc_new w _
 exact⟨rfl,Nat.le_refl _,(fun e=>by cases e),(fun u hu=>by
  simp only[rtcl,List.mem_cons,List.not_mem_nil,or_false] at hu
  rcases hu with rfl | rfl | rfl | rfl <;> rfl),(fun j u hu=>⟨w.heap.size,0,rfl,by
  rw[Nat.zero_add,cOo o j,<-hu]
  simp[rtcl]⟩),(fun x e=>by cases e;rfl)⟩
structure Two (nu sz:Nat) (f:Nat->Int) (r:Nat) (L:List Pr) (Q:List Nat) (r2:Nat) (L2:List Pr) (Q2:List Nat):Prop where
 st:HpS nu f
 rt:Rt nu sz f r L Q
 rt2:Rt nu sz f r2 L2 Q2
 ri:Rise L/\Rise L2
 ln:L.length<=200/\L2.length<=200
set_option maxRecDepth 20000 in
theorem tsC3 (h:Hp nu sz w hb sb b T A P) (t:Two nu sz (says P A) r L Q r2 L2 Q2) (hP:P.length<=100) (hc:cnt nu (ask nu (says P A))<=500)
  (cs:w.cell? ⟨bs,0,none⟩=some (ptr sb)) (ch:w.cell? ⟨bh,0,none⟩=some (ptr hb)) (Br:RtO w br r) (B2:w.cell? ⟨b2,0,none⟩=some (.int .u64 (r2:Nat))) :
  Calls Tryz.prog 36 #[ptr bs,ptr bh,ptr br,ptr b2] w fun e w'=>e = .returned (.tuple #[])/\∃T' P',Onx w sb b T w' T' sz A P' false/\Swp nu (says P A) (says P' A) (Q ++ Q2):=by
 obtain⟨W4,hW4⟩:∃W4,w.alloc (.cells #[.int .u64 (r:Nat),.slice none 0 0,.int .u64 (r2:Nat),.slice none 0 0] 35)=W4:=⟨_,rfl⟩
 have f4:St w W4:=hW4▸(Fr.refl _ w).alloc _
 have SL:=sl_root2 w W4 r r2 hW4
 have SW:=t_sweepR (h.still f4) t.st (some ⟨w.heap.size,0,none⟩) 2 [(r,.slice none 0 0),(r2,.slice none 0 0)] [Q,Q2] SL rfl (fun j p Q' h1 h2=>by
  match j,h1,h2 with
  | 0,h1,h2=>
   cases (Option.some.inj h1);cases (Option.some.inj h2)
   exact⟨_,t.rt,t.ri.1,by have:=t.ln;omega⟩
  | 1,h1,h2=>
   cases (Option.some.inj h1);cases (Option.some.inj h2)
   exact⟨_,t.rt2,t.ri.2,by have:=t.ln;omega⟩
  | j+2,h1,_=>simp at h1) (by simp) (by omega)
 have c0:=cOo Br.o 0;have c1:=cOo Br.o 1
 have HSW:=Hd SW;have HW:=Hd hW4;have HF:=Hd f4
 clear SW SL hW4 f4 h t hP hc Br
 go_enter Tryz.func36,Tryz.ntmps36
 go_wp2_with fail
 rw[uh HW]
 refine(uh HSW).mono ?_
 rintro e w5 ⟨rfl,g,⟨T5,P5,o5,e5,l5⟩,sg,ak,ke,-⟩
 subst e5
 have HQ:=Hd (ai o5 (ai sg (ai ak ke)))
 clear HSW o5 sg ak ke
 go_wp2_with fail
 go_end0
 obtain⟨o5,sg,ak,ke⟩:=uh HQ
 exact⟨rfl,T5,P5,o5.after (uh HF),sg,fun u=>by rw[ak];simp,ke⟩
end
end
theorem sum_list {n:Nat} (f:Nat->Nat):∀{Q:List Nat},Q.Nodup->(∀v∈Q,v<n)->(Q.map f).sum=sumTo (fun u=>if u∈Q then f u else 0) n
 | [],_,_=>by
  rw[sumTo_zero fun u _=>by simp]
  rfl
 | a :: Q,d,h=>by
  obtain⟨d1,d2⟩:=List.nodup_cons.1 d
  have ih:=sum_list f d2 (fun v hv=>h v (List.mem_cons_of_mem _ hv))
  have e:sumTo (fun u=>if u∈a :: Q then f u else 0) n=sumTo (fun u=>(if u=a then f u else 0)+(if u∈Q then f u else 0)) n:=sumTo_congr fun u _=>by
   by_cases e:u=a
   ·subst e;simp[d1]
   ·by_cases g:u∈Q
    ·simp[g,e]
    ·simp[g,e]
  rw[e,sumTo_add,sumTo_point (u:=a) (h a (List.mem_cons_self ..)) (fun v _ hv=>if_neg hv),if_pos rfl,List.map_cons,List.sum_cons,ih]
theorem len_list {n:Nat} {Q:List Nat} (d:Q.Nodup) (h:∀v∈Q,v<n):Q.length=sumTo (fun u=>if u∈Q then 1 else 0) n:=by
 rw[<-sum_list (fun _=>1) d h]
 clear d h
 induction Q with
 | nil=>rfl
 | cons a Q ih=>rw[List.map_cons,List.sum_cons,<-ih,List.length_cons,Nat.add_comm]
theorem share_count {nu:Nat} {K:Nat->Nat} {Q Q2:List Nat} (d:Q.Nodup) (d2:Q2.Nodup) (h:∀v∈Q,v<nu) (h2:∀v∈Q2,v<nu) (hK:∀u,K u≠0 ↔ u∈Q\/u∈Q2):cnt nu K+(Q.map fun v=>if v∈Q2 then 1 else 0).sum=Q.length+Q2.length:=by
 rw[sum_list (fun v=>if v∈Q2 then 1 else 0) d h,len_list d h,len_list d2 h2,<-sumTo_add]
 unfold cnt
 rw[<-sumTo_add]
 refine sumTo_congr fun u _=>?_
 have:=hK u
 by_cases e:K u=0
 ·have h1:¬u∈Q:=fun x=>(this.2 (.inl x)) e
  have h2:¬u∈Q2:=fun x=>(this.2 (.inr x)) e
  simp[e,h1,h2]
 ·by_cases h1:u∈Q
  ·by_cases h2:u∈Q2 <;> simp[e,h1,h2]
  ·have h2:u∈Q2:=(this.1 e).resolve_left h1
   simp[e,h1,h2]
theorem inP_le {nu:Nat} {K K':Nat->Nat} (h:∀u,K' u=K u\/K' u=0):inP nu K'<=inP nu K:=by
 refine sumTo_le fun u _=>?_
 have p:∀k,(pc K' k (u / 2 ^ k)).toNat<=(pc K k (u / 2 ^ k)).toNat:=fun k=>by
  unfold pc
  rcases h (u / 2 ^ k * 2 ^ k) with e | e
  ·rw[e];exact Nat.le_refl _
  ·rw[e];simp
 unfold cv sum7
 exact Nat.add_le_add (Nat.add_le_add (Nat.add_le_add (Nat.add_le_add (Nat.add_le_add (Nat.add_le_add (p 0) (p 1)) (p 2)) (p 3)) (p 4)) (p 5)) (p 6)
theorem perm_of {α : Type} [DecidableEq α]:∀(Q:List α) (ts:List α),Q.Nodup->(∀x∈Q,x∈ts)->ts.length=Q.length->ts.Perm Q
 | [],ts,_,_,hl=>by
  rw[List.length_eq_zero_iff.1 hl]
 | a :: Q,ts,d,h,hl=>by
  obtain⟨d1,d2⟩:=List.nodup_cons.1 d
  have ha:=h a (List.mem_cons_self ..)
  refine(List.perm_cons_erase ha).trans (List.Perm.cons a (perm_of Q (ts.erase a) d2 (fun x hx=>?_) ?_))
  ·exact(List.mem_erase_of_ne (fun e:x=a=>d1 (by rw[<-e];exact hx))).2 (h x (List.mem_cons_of_mem _ hx))
  ·rw[List.length_erase_of_mem ha,hl];simp
def plI (nu v:Nat):Int:=((fi nu+8 * v:Nat):Int)
theorem plI_inj {nu u v:Nat} (h:plI nu u=plI nu v):u=v:=by unfold plI at h;omega
theorem pl_nodup {nu:Nat}:∀{Q:List Nat},Q.Nodup->(Q.map (plI nu)).Nodup
 | [],_=>List.nodup_nil
 | a :: Q,d=>by
  obtain⟨d1,d2⟩:=List.nodup_cons.1 d
  refine List.nodup_cons.2 ⟨fun h=>?_,pl_nodup d2⟩
  obtain⟨v,hv,e⟩:=List.mem_map.1 h
  exact d1 (plI_inj e▸hv)
theorem pl_perm {nu:Nat} {Q:List Nat} {ts:List Int} (d:Q.Nodup) (h:∀x,x∈ts ↔ ∃v∈Q,x=((fi nu+8 * v:Nat):Int)) (hl:ts.length=Q.length):ts.Perm (Q.map (plI nu)):=
 perm_of _ _ (pl_nodup d) (fun x hx=>by
  obtain⟨v,hv,e⟩:=List.mem_map.1 hx
  exact(h x).2 ⟨v,hv,e.symm⟩) (by rw[hl,List.length_map])
theorem count_nodup {α : Type} [DecidableEq α] (x : α):∀{l:List α},l.Nodup->l.count x=if x∈l then 1 else 0
 | [],_=>by simp
 | a :: l,d=>by
  obtain⟨d1,d2⟩:=List.nodup_cons.1 d
  rw[List.count_cons,count_nodup x d2]
  by_cases e:a=x
  ·subst e;simp[d1]
  ·have e2:¬x=a:=fun h=>e h.symm
   simp[e,e2]
theorem count_in {nu:Nat} {Q Q2:List Nat} {ta tb:List Int} (d2:Q2.Nodup) (pa:ta.Perm (Q.map (plI nu))) (pb:tb.Perm (Q2.map (plI nu))):(ta.map fun x=>tb.count x).sum=(Q.map fun v=>if v∈Q2 then 1 else 0).sum:=by
 rw[(pa.map fun x=>tb.count x).sum_nat,List.map_map]
 congr 1
 refine List.map_congr_left fun v _=>?_
 show tb.count (plI nu v)=_
 rw[pb.count_eq,count_nodup _ (pl_nodup d2)]
 by_cases h:v∈Q2
 ·rw[if_pos h,if_pos (List.mem_map.2 ⟨v,h,rfl⟩)]
 ·rw[if_neg h,if_neg (fun x=>by
   obtain⟨u,hu,e⟩:=List.mem_map.1 x
   exact h (plI_inj e▸hu))]

section
section
variable {nu sz:Nat} {w w' w0:World} {X:Nat->Prop} {hb sb b bs bh br bi b2 N:Nat} {T:Tay} {A:Ab} {s:Int} {base:Nat->Int} {r r2 i:Nat} {L L2:List Pr} {Q Q2:List Nat}
theorem put_doG {g:Nat} {fi ca:Array Value} {L':List Pr} {B:World->Nat->Prop} (hB:∀w w' F r,B w r->Fr F w w'->¬F br->B w' r) (hc:HpC nu sz w0 X w hb sb b T A N True s base) (hX:X br) (hh:hb≠br) (en:∀args w,(callFunc g args).run Tryz.prog w = .ok (.enter g args) w)
  (C:∀w1,St w w1->Calls Tryz.prog g (fi ++ ca) w1 fun e w'=>e = .returned (.tuple #[])/\PutG nu sz (fun k=>k=br) w1 sb b T A B L' w') (hs:s+30729<4294967296) :
  Calls Tryz.prog 9 #[ptr sb,.func (.func g) fi ca] w fun e w'=>e = .returned (.int .i64 0)/\Fr (fun k=>tfoot sb b T k\/k=br) w w'/\∃T' A' base' r' Q',HpC nu sz w0 X w' hb sb b T' A' N True (s+30729) base'/\B w' r'/\r'≠0/\Tre nu sz (rb base') r' L' Q':=by
 have DO:=hc.do_ (V:=fun k=>k=br) (g:=g) (fi:=fi) (ca:=ca) (R:=fun h P' w'=>h = .well/\∃r' Q',B w' r'/\r'≠0/\Tre nu sz (says P' A) r' L' Q') (fun k hk=>by rw[hk];exact hX) hh (by
  rintro h P w w' F ⟨q,r',Q',b1,t⟩ hf hn
  exact⟨q,r',Q',hB _ _ _ _ b1 hf (hn br rfl),t⟩) (fun w3 f3=>acts_of en ((C w3 f3).mono (by
  rintro e w4 ⟨rfl,T',P',r',Q',o,b1,h0,t⟩
  exact⟨.well,rfl,.inl rfl,T',P',o,rfl,r',Q',b1,h0,t⟩))) hs
 unfold DidH at DO
 refine DO.mono ?_
 rintro e w' ⟨fr,⟨P',T',A',⟨_,r',Q',b1,h0,t⟩,rfl,hc'⟩ | ⟨i,P',T',⟨hi,_⟩,_⟩⟩
 ·rw[hc.says P'] at t
  exact⟨rfl,fr,T',A',_,r',Q',hc',b1,h0,t⟩
 ·exact(well_errno hi.symm).elim
theorem two_do {g:Nat} {fi ca:Array Value} {L':List Pr} (hc:HpC nu sz w0 X w hb sb b T A N True s base) (hX:X b2) (hh:hb≠b2) (en:∀args w,(callFunc g args).run Tryz.prog w = .ok (.enter g args) w)
  (C:∀w1,St w w1->Calls Tryz.prog g (fi ++ ca) w1 fun e w'=>e = .returned (.tuple #[])/\PutO nu sz w1 sb b T A (rb base) b2 L' w') (hs:s+30729<4294967296) :
  Calls Tryz.prog 9 #[ptr sb,.func (.func g) fi ca] w fun e w'=>e = .returned (.int .i64 0)/\Fr (fun k=>tfoot sb b T k\/k=b2) w w'/\∃T' A' base' r' Q' k,HpC nu sz w0 X w' hb sb b T' A' N True (s+30729) base'/\Box w' b2 (.int .u64 ((r':Nat):Int))/\r'≠0/\k<=20/\Chg nu (rb base) k (rb base')/\Rt nu sz (rb base') r' L' Q':=by
 have DO:=hc.do_ (V:=fun k=>k=b2) (g:=g) (fi:=fi) (ca:=ca) (R:=fun h P' w'=>h = .well/\∃r' Q' k,Box w' b2 (.int .u64 ((r':Nat):Int))/\r'≠0/\k<=20/\Chg nu (rb base) k (says P' A)/\Rt nu sz (says P' A) r' L' Q') (fun k hk=>by rw[hk];exact hX) hh (by
  rintro h P w w' F ⟨q,r',Q',k,b1,t⟩ hf hn
  exact⟨q,r',Q',k,b1.kept hf (hn b2 rfl),t⟩) (fun w3 f3=>acts_of en ((C w3 f3).mono (by
  rintro e w4 ⟨rfl,T',P',r',Q',k,o,b1,t⟩
  exact⟨.well,rfl,.inl rfl,T',P',o,rfl,r',Q',k,b1,t⟩))) hs
 unfold DidH at DO
 refine DO.mono ?_
 rintro e w' ⟨fr,⟨P',T',A',⟨_,r',Q',k,b1,h0,hk,c,t⟩,rfl,hc'⟩ | ⟨i,P',T',⟨hi,_⟩,_⟩⟩
 ·rw[hc.says P'] at t c
  exact⟨rfl,fr,T',A',_,r',Q',k,hc',b1,h0,hk,c,t⟩
 ·exact(well_errno hi.symm).elim
theorem sweep_do {g:Nat} {fi ca:Array Value} {U:List Nat} (hc:HpC nu sz w0 X w hb sb b T A N True s base) (en:∀args w,(callFunc g args).run Tryz.prog w = .ok (.enter g args) w)
  (C:∀w1,St w w1->Calls Tryz.prog g (fi ++ ca) w1 fun e w'=>e = .returned (.tuple #[])/\∃T' P',Onx w1 sb b T w' T' sz A P' false/\Swp nu (rb base) (says P' A) U) (hs:s+30729<4294967296) :
  Calls Tryz.prog 9 #[ptr sb,.func (.func g) fi ca] w fun e w'=>e = .returned (.int .i64 0)/\Fr (fun k=>tfoot sb b T k\/False) w w'/\∃T' A' base',HpC nu sz w0 X w' hb sb b T' A' N True (s+30729) base'/\Swp nu (rb base) (rb base') U:=by
 have DO:=hc.do_ (V:=fun _=>False) (g:=g) (fi:=fi) (ca:=ca) (R:=fun h P' _=>h = .well/\Swp nu (rb base) (says P' A) U) (fun k hk=>hk.elim) (fun h=>h) (by
  rintro h P w w' F ⟨q,t⟩ hf hn
  exact⟨q,t⟩) (fun w3 f3=>acts_of en ((C w3 f3).mono (by
  rintro e w4 ⟨rfl,T',P',o,t⟩
  exact⟨.well,rfl,.inl rfl,T',P',OnxX.of o,rfl,t⟩))) hs
 unfold DidH at DO
 refine DO.mono ?_
 rintro e w' ⟨fr,⟨P',T',A',⟨_,t⟩,rfl,hc'⟩ | ⟨i,P',T',⟨hi,_⟩,_⟩⟩
 ·rw[hc.says P'] at t
  exact⟨rfl,fr,T',A',_,hc',t⟩
 ·exact(well_errno hi.symm).elim
end
end
def pxN (v:Value) (w:World):Nat:=match v with
 | .pointer (some a)=>bxN w a.block
 | _=>0
theorem pxN_box {w:World} {q m:Nat} (h:Box w q (.int .i64 (m:Nat))):pxN (ptr q) w=m:=h.bxN
theorem ky_new {L:List Pr} {m:Nat} (h:∀p∈L,∃j,j<m/\p.1=kyB j) (hm:m<200):∀p∈L,p.1≠kyB m:=fun p hp e=>by
 obtain⟨j,hj,e2⟩:=h p hp
 have:=kyB_inj (by omega) hm (e2.symm.trans e)
 omega
theorem ky_put {L:List Pr} {m:Nat} (h:∀p∈L,∃j,j<m/\p.1=kyB j):∀p∈putP L (kyB m) m,∃j,j<m+1/\p.1=kyB j:=fun p hp=>by
 rcases putP_mem hp with rfl | hp
 ·exact⟨m,by omega,rfl⟩
 ·obtain⟨j,hj,e⟩:=h p hp
  exact⟨j,by omega,e⟩
def TsX (hb g n1 q:Nat):Nat->Prop:=fun k=>k=hb\/k=g\/k=n1\/k=n1+1\/k=n1+2\/k=q
structure TsH (w wr:World) (a1:Int) (m q g n1 b hb sb:Nat) (T:Tay) (A:Ab) (s:Int) (base:Nat->Int) (r:Nat) (L:List Pr) (Q:List Nat):Prop where
 hc:HpC 1467 12176 w (TsX hb g n1 q) wr hb sb b T A 3072 True s base
 t:Tre 1467 12176 (rb base) r L Q
 len:L.length=m
 ky:∀p∈L,∃j,j<m/\p.1=kyB j
 bt:Box wr g (.int .i64 a1)
 bs:Box wr n1 (ptr sb)
 bh:Box wr (n1+1) (ptr hb)
 br:RtO wr (n1+2) r
 bi:Box wr q (.int .i64 (m:Nat))
 d:0<w.heap.size/\w.heap.size=g/\g<n1/\hb<n1/\g<hb/\n1+2<q
theorem dif_ok {i0 i6 i7 k x y:Nat} (h1:i6<=i0+4 * k) (h2:i7<=i6) (hk:k<=20) (e0:8 * (1467 - i0)=x) (e1:8 * (1467 - i7)=y):((x:Int) - y<=1200)/\wrap64 ((x:Int) - y)=(x:Int) - y:=by
 refine⟨by omega,small_w64 (by omega)⟩
theorem cnt_ok {a b c n:Nat} (h:n+c=a+b) (hb:a+b<=1000):wrap64 ((a:Int)+b)=(a:Int)+b/\wrap64 ((a:Int)+b - c)=(n:Int):=by
 refine⟨small_w64 (by omega),?_⟩
 rw[small_w64 (by omega)]
 omega
set_option maxRecDepth 100000 in
theorem shares_ok (a0 a1:Int) (w:World) (tab:TabL w) :
  Calls Tryz.prog 7 #[.int .i64 a0,.int .i64 a1] w fun e w'=>e = .returned (.bool true)/\Below w.heap.size w w':=by
 have h1:=eq_nil_heap
 have h2:=mf
 obtain⟨g,hg⟩:∃g,w.heap.size=g:=⟨_,rfl⟩
 have l0:0<g:=by rw[<-hg];exact World.block_lt_of_cell? _ _ (tab 0 (by omega))
 obtain⟨WA,hWA⟩:∃WA,w.alloc (.cells #[.int .i64 a1] 3)=WA:=⟨_,rfl⟩
 have fA:St w WA:=hWA▸(Fr.refl _ w).alloc _
 have zA:WA.heap.size=g+1:=by rw[<-hWA];simp[hg]
 have btA:Box WA g (.int .i64 a1):=by
  have:=Box.new w (.int .i64 a1) 3
  rw[hWA,hg] at this;exact this
 have K:Calls Tryz.prog 8 #[.int .i64 24576] WA _:=l8_open geo24 (N:=3072) (by omega) WA (fun j hj=>fA.cell' (tab j hj) id)
 have HK:=Hd K;have HT:=Hd tab;have HB:=Hd (ai btA (ai fA zA));have HWA:=Hd hWA
 clear K tab btA fA zA hWA
 go_enter Tryz.func7,Tryz.ntmps7
 go_wp2_with fail
 rw[uh HWA]
 refine(uh HK).mono ?_
 clear HK
 rintro e w1 ⟨b,sb,hb,T,A,base,rfl,hc,nw⟩
 obtain⟨W1,hW1⟩:∃W1,w1.alloc (.cells #[ptr sb] 23)=W1:=⟨_,rfl⟩
 obtain⟨W2,hW2⟩:∃W2,W1.alloc (.cells #[ptr hb] 24)=W2:=⟨_,rfl⟩
 obtain⟨W3,hW3⟩:∃W3,W2.alloc (.cells #[.int .u64 0,.slice none 0 0] 35)=W3:=⟨_,rfl⟩
 obtain⟨W4,hW4⟩:∃W4,W3.alloc (.cells #[.int .i64 0] 3)=W4:=⟨_,rfl⟩
 obtain⟨n1,hn1⟩:∃n1,w1.heap.size=n1:=⟨_,rfl⟩
 have z1:W1.heap.size=n1+1:=by rw[<-hW1];simp[hn1]
 have z2:W2.heap.size=n1+2:=by rw[<-hW2];simp;omega
 have z3:W3.heap.size=n1+3:=by rw[<-hW3];simp;omega
 have f12:St W1 W2:=hW2▸(Fr.refl _ W1).alloc _
 have f23:St W2 W3:=hW3▸(Fr.refl _ W2).alloc _
 have f34:St W3 W4:=hW4▸(Fr.refl _ W3).alloc _
 have f24:St W2 W4:=f23.trans' f34 nE
 have f14:St W1 W4:=f12.trans' f24 nE
 have f04:St w1 W4:=(hW1▸(Fr.refl _ w1).alloc _:St w1 W1).trans' f14 nE
 obtain⟨btA,fA,zA⟩:=uh HB
 have hc1:=hc.more (.cells #[ptr sb] 23)
 rw[hW1,hn1] at hc1
 have hc2:=hc1.more (.cells #[ptr hb] 24)
 rw[hW2,z1] at hc2
 have hc3:=hc2.more (.cells #[.int .u64 0,.slice none 0 0] 35)
 rw[hW3,z2] at hc3
 have hc4:=hc3.more (.cells #[.int .i64 0] 3)
 rw[hW4,z3] at hc4
 have lhb:hb<n1:=by rw[<-hn1];exact(hc.hd.xl hb hc.xh).2
 have ghb:g<hb:=by have:=(hc.hd.xl hb hc.xh).1;omega
 have lz:g+1<=n1:=by have:=hc.hd.fr.size;omega
 have hcB:=hc4.back (w0:=w) (Y:=TsX hb g n1 (n1+3)) fA (by omega) (fun k hk=>by
  rcases hk with rfl | rfl | rfl | rfl | rfl | rfl
  ·exact .inl (.inl (.inl (.inl (.inl rfl))))
  ·exact .inr ⟨by omega,by omega⟩
  ·exact .inl (.inl (.inl (.inl (.inr rfl))))
  ·exact .inl (.inl (.inl (.inr rfl)))
  ·exact .inl (.inl (.inr rfl))
  ·exact .inl (.inr rfl)) (.inl rfl)
 have bh2:Box W2 (n1+1) (ptr hb):=by
  have:=Box.new W1 (ptr hb) 24
  rw[hW2,z1] at this;exact this
 have st0:TsH w W4 a1 0 (n1+3) g n1 b hb sb T A 43021 base 0 [] []:=by
  refine⟨hcB,Tre.new nw,rfl,(fun p hp=>by cases hp),?_,?_,bh2.kept f24 id,⟨?_⟩,?_,⟨by omega,hg,by omega,lhb,ghb,by omega⟩⟩
  ·exact(btA.kept hc.hd.fr id).kept f04 id
  ·have:=Box.new w1 (ptr sb) 23
   rw[hW1,hn1] at this;exact this.kept f14 id
  ·have:=heap_alloc_new W2 (.cells #[.int .u64 0,.slice none 0 0] 35)
   rw[hW3,z2] at this;exact f34.obj this id
  ·have:=Box.new W3 (.int .i64 0) 3
   rw[hW4,z3] at this;exact this
 obtain⟨M,hM⟩:∃M,msk a0 63=M:=⟨_,rfl⟩
 have hM63:M<=63:=by rw[<-hM];exact Nat.and_le_right
 have mk:bits .and .i64 a0 63=(M:Int):=by rw[<-hM];exact mask63 a0
 have bhc:=bh2.c
 rw[<-hW2,<-hW1] at bhc
 have HST:=Hd st0;have HW:=Hd (ai hW1 (ai hW2 (ai hW3 hW4)))
 clear hc hc1 hc2 hc3 hc4 hcB nw st0 f12 f23 f34 f24 f14 f04 bh2 btA fA zA hW1 hW2 hW3 hW4 hM HB HWA z1 z2 z3
 go_wp2_with fail
 obtain⟨hW1,hW2,hW3,hW4⟩:=uh HW
 rw[hW1,hW2,hW3,hW4]
 clear hW1 hW2 hW3 hW4 HW bhc mk
 go_loopw [9] (fun iv wr=>∃(m q:Nat) (T:Tay) (A:Ab) (s:Int) (base:Nat->Int) (r:Nat) (L:List Pr) (Q:List Nat),iv=ptr q/\m<=M/\s<=43021+30729 * m/\TsH w wr a1 m q g n1 b hb sb T A s base r L Q) (fun iv wr=>M - pxN iv wr)
 case atStart=>exact⟨0,n1+3,T,A,43021,base,0,[],[],rfl,by omega,by omega,uh HST⟩
 case round=>
  clear HST
  obtain⟨m,q,T,A,s,base,r,L,Q,rfl,hmM,hs,S⟩:=hrel
  generalize wr=wq at *
  clear wr
  have c1:=S.bi.c
  by_cases hlt:m<M
  ·have hlt':((m:Int)<M)=True:=by simp;omega
   have c3:=S.bs.c
   obtain⟨d0,d1,d2,d3,d4,d5⟩:=S.d
   have sy:=S.hc.says []
   rw[homed_nil] at sy
   have DO:=put_doG (g:=33) (fi:=#[]) (ca:=#[ptr n1,ptr (n1+1),ptr (n1+2),ptr q]) (br:=n1+2) (B:=(RtO · (n1+2) ·)) (L':=putP L (kyB m) m) (fun w w' F r h f hn=>h.kept f hn) S.hc (by simp[TsX]) (by omega) (fun _ _=>by kernel_rfl) (fun w1 f1=>tsC1 (i:=m) (S.hc.toHp.still f1) (by rw[sy];exact S.t) (by have:=S.len;omega) (by simp) (by have:=S.len;omega) (by omega) (f1.cell' S.bs.c id) (f1.cell' S.bh.c id) (S.br.kept f1 id) (f1.cell' S.bi.c id) (fun k hk=>by
    rcases hk with rfl | rfl | rfl | rfl <;> exact S.hc.hd.ap _ (by simp[TsX])) (by omega)) (by omega)
   have HDO:=Hd DO;have HS:=Hd S
   clear DO S sy
   go_wp2_with fail
   refine(uh HDO).mono ?_
   clear HDO
   rintro e w6 ⟨rfl,fr6,T6,A6,base6,r6,Q6,hc6,br6,h06,t6⟩
   have S:=uh HS
   have nx:∀k,TsX hb g n1 q k->k≠n1+2->¬(tfoot sb b T k\/k=n1+2):=fun k hk h2 e=>e.elim (S.hc.hd.ap k hk) h2
   have bt6:=S.bt.kept fr6 (nx _ (by simp[TsX]) (by omega))
   have bs6:=S.bs.kept fr6 (nx _ (by simp[TsX]) (by omega))
   have bh6:=S.bh.kept fr6 (nx _ (by simp[TsX]) (by omega))
   have bi6:=S.bi.kept fr6 (nx _ (by simp[TsX]) (by omega))
   have c6:=bi6.c
   obtain⟨n6,hn6⟩:∃n6,w6.heap.size=n6:=⟨_,rfl⟩
   obtain⟨W7,hW7⟩:∃W7,w6.alloc (.cells #[.int .i64 ((m:Int)+1)] 3)=W7:=⟨_,rfl⟩
   have f7:St w6 W7:=hW7▸(Fr.refl _ w6).alloc _
   have lq:=bi6.lt
   have S7:TsH w W7 a1 (m+1) n6 g n1 b hb sb T6 A6 (s+30729) base6 r6 (putP L (kyB m) m) Q6:=by
    have hc7:=hc6.more (.cells #[.int .i64 ((m:Int)+1)] 3)
    rw[hW7,hn6] at hc7
    refine⟨hc7.sub (fun k hk=>?_) (by simp[TsX]),t6,by rw[putP_new (ky_new S.ky (by omega)),S.len],ky_put S.ky,bt6.kept f7 id,bs6.kept f7 id,bh6.kept f7 id,br6.kept f7 id,?_,⟨d0,d1,d2,d3,d4,by omega⟩⟩
    ·unfold TsX at hk ⊢
     rcases hk with e | e | e | e | e | e
     ·exact .inl (.inl e)
     ·exact .inl (.inr (.inl e))
     ·exact .inl (.inr (.inr (.inl e)))
     ·exact .inl (.inr (.inr (.inr (.inl e))))
     ·exact .inl (.inr (.inr (.inr (.inr (.inl e)))))
     ·exact .inr e
    ·have:=Box.new w6 (.int .i64 ((m:Int)+1)) 3
     rw[hW7,hn6] at this;exact this
   have HS7:=Hd S7;have HW7:=Hd hW7
   have px:=pxN_box S.bi;have px7:=pxN_box S7.bi
   have HPX:=Hd (ai px px7)
   clear S hc6 t6 bt6 bs6 bh6 bi6 br6 fr6 nx S7 f7 hW7 HS px px7
   go_wp2
   rw[uh HW7]
   refine⟨⟨m+1,n6,T6,A6,s+30729,base6,r6,_,Q6,rfl,by omega,by omega,uh HS7⟩,?_⟩
   obtain⟨px,px7⟩:=uh HPX
   have px7':pxN (.pointer (some ⟨n6,0,none⟩)) W7=m+1:=px7
   rw[px,px7']
   omega
  ·have em:m=M:=by omega
   subst em
   have hlt':((m:Int)<m)=False:=by simp
   obtain⟨d0,d1,d2,d3,d4,d5⟩:=S.d
   have sy:=S.hc.says []
   rw[homed_nil] at sy
   obtain⟨fr0,hfr0⟩:∃x,8 * (1467 - inP 1467 (ask 1467 (rb base)))=x:=⟨_,rfl⟩
   have FR:=h_free S.hc.toHp.hp S.hc.toHp.reads fr0 (by omega) (by rw[sy,S.t.st.fr,hfr0])
   obtain⟨n5,hn5⟩:∃n5,wq.heap.size=n5:=⟨_,rfl⟩
   obtain⟨W5,hW5⟩:∃W5,wq.alloc (.cells #[.int .u64 0] 27)=W5:=⟨_,rfl⟩
   have f5:St wq W5:=hW5▸(Fr.refl _ wq).alloc _
   have hc5:=S.hc.more (.cells #[.int .u64 0] 27)
   rw[hW5,hn5] at hc5
   have lq:=S.bi.lt
   have b25:Box W5 n5 (.int .u64 0):=by
    have:=Box.new wq (.int .u64 0) 27
    rw[hW5,hn5] at this;exact this
   have bs5:=S.bs.kept f5 id;have bh5:=S.bh.kept f5 id;have br5:=S.br.kept f5 id;have bt5:=S.bt.kept f5 id
   have DO:=two_do (g:=35) (fi:=#[]) (ca:=#[ptr n1,ptr (n1+1),ptr (n1+2),ptr g,ptr n5]) (b2:=n5) (L':=putP L (kyB (msk a1 63)) 99) hc5 (.inr rfl) (by omega) (fun _ _=>by kernel_rfl) (fun w3 f3=>(tsC2 (hc5.toHp.still f3) (by rw[sy];exact S.t) (by have:=S.len;omega) (by simp) (by have:=S.len;omega) (f3.cell' bs5.c id) (f3.cell' bh5.c id) (br5.kept f3 id) (f3.cell' bt5.c id) (b25.kept f3 id) (fun k hk=>by
    rcases hk with rfl | rfl | rfl | rfl | rfl
    ·exact hc5.hd.ap _ (.inl (by simp[TsX]))
    ·exact hc5.hd.ap _ (.inl (by simp[TsX]))
    ·exact hc5.hd.ap _ (.inl (by simp[TsX]))
    ·exact hc5.hd.ap _ (.inl (by simp[TsX]))
    ·exact hc5.hd.ap _ (.inr rfl)) (by omega)).mono (by rw[sy];exact fun _ _ h=>h)) (by omega)
   have c2:=S.bh.c;have c3:=bs5.c
   have HFR:=Hd FR;have HDO:=Hd DO;have HS:=Hd (ai S sy);have HX5:=Hd (ai hc5 (ai bs5 (ai bh5 (ai br5 bt5))));have HW5:=Hd hW5
   rw[<-hW5] at c3
   clear FR DO S sy hc5 bs5 bh5 br5 bt5 b25 f5 hW5
   go_wp2_with fail
   refine(uh HFR).mono ?_
   rintro e w' ⟨rfl,hh⟩
   replace hh:=hh.symm
   subst hh
   clear HFR c2
   go_wp2_with fail
   rw[uh HW5]
   refine(uh HDO).mono ?_
   clear HDO c3 c1
   rintro e w6 ⟨rfl,fr6,T6,A6,base6,r6,Q6,k6,hc6,b26,h06,hk6,ch6,rt6⟩
   obtain⟨S,sy⟩:=uh HS
   obtain⟨hc5,bs5,bh5,br5,bt5⟩:=uh HX5
   have nx:∀k,TsX hb g n1 q k->¬(tfoot sb b T k\/k=n5):=fun k hk e=>e.elim (S.hc.hd.ap k hk) (fun e=>by have:=(S.hc.hd.xl k hk).2;omega)
   have bs6:=bs5.kept fr6 (nx _ (by simp[TsX]));have bh6:=bh5.kept fr6 (nx _ (by simp[TsX]));have br6:=br5.kept fr6 (nx _ (by simp[TsX]))
   have sy6:=hc6.says []
   rw[homed_nil] at sy6
   have ln6:=putP_len (kyB (msk a1 63)) 99 L
   have hlen:=S.len
   have rtq:Rt 1467 12176 (rb base6) r L Q:=S.t.rt.same fun v hv=>ch6.sam v (S.t.rt.asked v hv)
   have tw:Two 1467 12176 (rb base6) r L Q r6 (putP L (kyB (msk a1 63)) 99) Q6:=⟨ch6.st,rtq,rt6,⟨S.t.ri,putP_rise S.t.ri⟩,by omega,by omega⟩
   have cn6:=ch6.few;have cn0:=S.t.cnt
   have DO:=sweep_do (g:=36) (fi:=#[]) (ca:=#[ptr n1,ptr (n1+1),ptr (n1+2),ptr n5]) (U:=Q ++ Q6) hc6 (fun _ _=>by kernel_rfl) (fun w3 f3=>(tsC3 (hc6.toHp.still f3) (by rw[sy6];exact tw) (by simp) (by rw[sy6];omega) (f3.cell' bs6.c id) (f3.cell' bh6.c id) (br6.kept f3 id) (f3.cell' b26.c id)).mono (by rw[sy6];exact fun _ _ h=>h)) (by omega)
   have c3:=bs6.c
   have HDO:=Hd DO;have HX6:=Hd (ai hc6 (ai bs6 (ai bh6 (ai br6 (ai b26 (ai ch6 (ai tw hk6)))))))
   clear DO S sy hc5 bs5 bh5 br5 bt5 nx bs6 bh6 br6 b26 sy6 ln6 hlen rtq tw cn6 cn0 hc6 ch6 rt6 hk6 fr6 HX5
   go_wp2_with fail
   refine(uh HDO).mono ?_
   clear HDO c3
   rintro e w7 ⟨rfl,fr7,T7,A7,base7,hc7,sw7⟩
   obtain⟨S,sy⟩:=uh HS
   obtain⟨hc6,bs6,bh6,br6,b26,ch6,tw,hk6⟩:=uh HX6
   have nx:∀k,(TsX hb g n1 q k\/k=n5)->¬(tfoot sb b T6 k\/False):=fun k hk e=>e.elim (hc6.hd.ap k hk) id
   have bs7:=bs6.kept fr7 (nx _ (.inl (by simp[TsX])));have bh7:=bh6.kept fr7 (nx _ (.inl (by simp[TsX])));have br7:=br6.kept fr7 (nx _ (.inl (by simp[TsX])));have b27:=b26.kept fr7 (nx _ (.inr rfl))
   have sy7:=hc7.says []
   rw[homed_nil] at sy7
   have ra7:Rt 1467 12176 (rb base7) r L Q:=tw.rt.same fun v hv=>sw7.sam (List.mem_append_left _ hv)
   have rb7:Rt 1467 12176 (rb base7) r6 (putP L (kyB (msk a1 63)) 99) Q6:=tw.rt2.same fun v hv=>sw7.sam (List.mem_append_right _ hv)
   have hp7:=hc7.toHp
   have PA:∀w8,St w7 w8->Calls Tryz.prog 37 #[ptr sb,ptr hb,.int .u64 (r:Nat)] w8 _:=fun w8 f8=>y_PiecesR (hp7.still f8) (by rw[sy7];exact sw7.st) (by rw[sy7];exact ra7) tw.ri.1 (by have:=tw.ln;omega)
   have PB:∀w8,St w7 w8->Calls Tryz.prog 37 #[ptr sb,ptr hb,.int .u64 (r6:Nat)] w8 _:=fun w8 f8=>y_PiecesR (hp7.still f8) (by rw[sy7];exact sw7.st) (by rw[sy7];exact rb7) tw.ri.2 (by have:=tw.ln;omega)
   have fD:St w7 w7.drew:=(Fr.refl _ w7).drewN 1
   have c1:=bs7.c;have c2:=bh7.c;have c3:w7.cell? ⟨n1+2,0,none⟩=some (.int .u64 (r:Nat)):=cOo br7.o 0
   have c4:=b27.c
   have HPA:=@Hd _ PA;have HPB:=@Hd _ PB
   have HX7:=Hd (ai hc7 (ai sw7 (ai ra7 (ai rb7 (ai bh7 fD)))))
   clear PA PB S sy hc6 bs6 bh6 br6 b26 ch6 tw hk6 nx bs7 bh7 br7 b27 sy7 ra7 rb7 hp7 hc7 sw7 fr7 fD
   go_wp2_with fail
   refine wp_region_held_drew (S:=fun w'=>w'.cell? ⟨n1,0,none⟩=some (ptr sb)/\w'.cell? ⟨n1+1,0,none⟩=some (ptr hb)/\w'.cell? ⟨n1+2,0,none⟩=some (.int .u64 (r:Nat))/\w'.cell? ⟨n5,0,none⟩=some (.int .u64 (r6:Nat))) (by kernel_rfl) ⟨c1,c2,c3,c4⟩ (fun hHeld=>?_)
   refine tkO 0 ?_ hHeld rfl ?_ ?_
   rotate_left
   ·intro w q;go_simp;try with_reducible rfl
   simp only[apt,List.set]
   refine tkO 1 ?_ hHeld rfl ?_ ?_
   rotate_left
   ·intro w q;go_simp;try with_reducible rfl
   simp only[apt,List.set]
   refine tkO 2 ?_ hHeld rfl ?_ ?_
   rotate_left
   ·intro w q;go_simp;try with_reducible rfl
   simp only[apt,List.set]
   refine tkO 3 ?_ hHeld rfl ?_ ?_
   rotate_left
   ·intro w q;go_simp;try with_reducible rfl
   simp only[apt,List.set]
   refine tkO 5 ?_ hHeld rfl ?_ ?_
   rotate_left
   ·intro w q;go_simp;try with_reducible rfl
   simp only[apt,List.set]
   refine tkO 6 ?_ hHeld rfl ?_ ?_
   rotate_left
   ·intro w q;go_simp;try with_reducible rfl
   simp only[apt,List.set]
   refine tkO 7 ?_ hHeld rfl ?_ ?_
   rotate_left
   ·intro w q;go_simp;try with_reducible rfl
   simp only[apt,List.set]
   refine rdO 4 rfl (fun K hK=>?_)
   go_simp
   go_wp2_with fail
   refine(uh HPA _ (uh HX7).2.2.2.2.2).mono ?_
   clear HPA
   rintro e w8 ⟨aa,ca,ta,rfl,ma,la,rowa,f8d⟩
   have f8:St w7 w8:=(uh HX7).2.2.2.2.2.trans' f8d nE
   have HA:=Hd (ai ma (ai la (own_lo rowa (lo:=w7.heap.size) (Nat.le_refl _))))
   have HPB8:=Hd (uh HPB w8 f8)
   clear ma la rowa f8d HPB
   have hS8:=(⟨f8.cell' c1 id,f8.cell' c2 id,f8.cell' c3 id,f8.cell' c4 id⟩:w8.cell? ⟨n1,0,none⟩=some (ptr sb)/\w8.cell? ⟨n1+1,0,none⟩=some (ptr hb)/\w8.cell? ⟨n1+2,0,none⟩=some (.int .u64 (r:Nat))/\w8.cell? ⟨n5,0,none⟩=some (.int .u64 (r6:Nat)))
   refine hK.out _ _ hS8 (fun _=>?_)
   clear hK K hHeld
   refine rdO 8 rfl (fun K hK=>?_)
   go_simp
   go_wp2_with fail
   refine(uh HPB8).mono ?_
   clear HPB8
   rintro e w9 ⟨ab,cb,tb,rfl,mb,lb,rowb,f9⟩
   have f79:St w7 w9:=f8.trans' f9 nE
   have hS9:=(⟨f79.cell' c1 id,f79.cell' c2 id,f79.cell' c3 id,f79.cell' c4 id⟩:w9.cell? ⟨n1,0,none⟩=some (ptr sb)/\w9.cell? ⟨n1+1,0,none⟩=some (ptr hb)/\w9.cell? ⟨n1+2,0,none⟩=some (.int .u64 (r:Nat))/\w9.cell? ⟨n5,0,none⟩=some (.int .u64 (r6:Nat)))
   have HBB:=Hd (ai mb (ai lb (ai rowb (ai f9 f79))))
   clear mb lb rowb f9 f79 f8
   refine hK.out _ _ hS9 (fun _=>?_)
   clear hK K hS8
   refine rdO 9 rfl (fun K hK=>?_)
   go_simp
   refine hK.out _ _ hS9 (fun _=>?_)
   clear hK K
   refine rdO 10 rfl (fun K hK=>?_)
   go_simp
   refine hK.out _ _ hS9 (fun _=>?_)
   clear hK K
   refine wpAnyH_done (by kernel_rfl) ?_ _
   clear c1 c2 c3 c4
   obtain⟨c1,c2,c3,c4⟩:=hS9
   obtain⟨ma,la,rowa8⟩:=uh HA
   obtain⟨mb,lb,rowb9,f9,f79⟩:=uh HBB
   have lnA:ta.length<=126:=by have:=(uh HX7).2.2.1.few;have:=(uh HS).1.len;omega
   have lnB:tb.length<=128:=by have:=(uh HX7).2.2.2.1.few;have:=(uh HS).1.len;have:=putP_len (kyB (msk a1 63)) 99 L;omega
   have SA:=(sl_of_row rowa8 (int_one ta)).still f9
   have SB:=sl_of_row rowb9 (int_one tb)
   have HSA:=Hd SA;have HSB:=Hd SB
   clear ma la rowa8 mb lb rowb9 f9 f79 SA SB
   go_wp2_with fail
   go_loopw [15,16] (fun nv iv wr=>∃(i c:Nat),i<=ta.length/\iv = .int .i64 (i:Nat)/\nv = .int .i64 (c:Nat)/\c=((ta.take i).map fun x=>tb.count x).sum/\∃nq,wr=w9.drewN nq) (fun nv iv wr=>ta.length - (intOf iv).toNat)
   case atStart=>exact⟨0,0,by omega,rfl,rfl,rfl,0,rfl⟩
   case round=>
    obtain⟨i,c,hi,rfl,rfl,hcs,nq,hwr⟩:=hrel
    have hcb:c<=128 * i:=by
     rw[hcs]
     clear hcs
     have:∀l:List Int,(l.map fun x=>tb.count x).sum<=128 * l.length:=fun l=>by
      induction l with
      | nil=>simp
      | cons a l ih=>
       rw[List.map_cons,List.sum_cons,List.length_cons]
       have:=List.count_le_length (a:=a) (l:=tb)
       omega
     have h2:=this (ta.take i)
     rw[List.length_take,Nat.min_eq_left hi] at h2
     exact h2
    generalize wr=wo at *
    clear wr
    have fo:St w9 wo:=hwr▸(Fr.refl _ w9).drewN nq
    by_cases hlt:i<ta.length
    ·have hlt':((i:Int)<ta.length)=True:=by simp;omega
     obtain⟨x,hx⟩:∃x,ta[i]? = some x:=⟨_,List.getElem?_eq_getElem hlt⟩
     obtain⟨b0,o0,rfl,cx⟩:=(uh HSA).cells i (.int .i64 x) (by rw[List.getElem?_map,hx];rfl)
     have HI:=Hd (ai hcs (ai hx (ai hwr fo)))
     have cx9:=cx
     clear hcs hx hwr fo cx
     go_wp2_with fail
     go_loopw [15,17] (fun nv kv wr=>∃(k c':Nat),k<=tb.length/\kv = .int .i64 (k:Nat)/\nv = .int .i64 (c':Nat)/\c'=c+(tb.take k).count x/\∃nq,wr=w9.drewN nq) (fun nv kv wr=>tb.length - (intOf kv).toNat)
     case atStart=>exact⟨0,c,by omega,rfl,rfl,by simp,nq,(uh HI).2.2.1⟩
     case round=>
      obtain⟨k,c',hk,rfl,rfl,hcs,nq2,hwr⟩:=hrel
      have hcb2:c'<=128 * i+128:=by
       have:=List.count_le_length (a:=x) (l:=tb.take k)
       rw[List.length_take] at this
       omega
      generalize wr=wi at *
      clear wr
      have fi:St w9 wi:=hwr▸(Fr.refl _ w9).drewN nq2
      by_cases hlt2:k<tb.length
      ·have hlt2':((k:Int)<tb.length)=True:=by simp;omega
       obtain⟨y,hy⟩:∃y,tb[k]? = some y:=⟨_,List.getElem?_eq_getElem hlt2⟩
       obtain⟨b1,o1,rfl,cy9⟩:=(uh HSB).cells k (.int .i64 y) (by rw[List.getElem?_map,hy];rfl)
       have cx:=fi.cell' cx9 id;have cy:=fi.cell' cy9 id
       have HJ:=Hd (ai hcs (ai hy hwr))
       clear hcs hy hwr fi cx9 cy9
       by_cases hxy:x=y
       ·have e1:(x == y)=true:=by simp[hxy]
        clear hxy
        go_upto_region 28 with fail
        go_quiet (fail)
        clear cx cy
        go_wp2
        obtain⟨hcs,hy,hwr⟩:=uh HJ
        refine⟨⟨k+1,c'+1,by omega,by go_num,by go_num,?_,nq2+nq,?_⟩,by simp[intOf];omega⟩
        ·have ex:x=y:=by simpa using e1
         rw[hcs,List.take_add_one,hy,List.count_append,ex]
         simp
         omega
        ·rw[hwr,World.drewN_drewN]
       ·have e1:(x == y)=false:=by simp[hxy]
        have HXY:=Hd hxy
        clear hxy
        go_upto_region 28 with fail
        go_quiet (fail)
        clear cx cy
        go_wp2
        obtain⟨hcs,hy,hwr⟩:=uh HJ
        refine⟨⟨k+1,c',by omega,by go_num,rfl,?_,nq2+nq,?_⟩,by simp[intOf];omega⟩
        ·have ey:¬y=x:=fun e=>uh HXY e.symm
         rw[hcs,List.take_add_one,hy,List.count_append]
         simp[ey]
        ·rw[hwr,World.drewN_drewN]
      ·have ek:k=tb.length:=by omega
       have hlt2':((k:Int)<tb.length)=False:=by simp;omega
       have HJ:=Hd (ai hcs (ai hwr ek))
       clear hcs hwr fi ek
       go_wp2
       obtain⟨hcs,hwr,ek⟩:=uh HJ
       obtain⟨hc0,hx,_⟩:=uh HI
       refine⟨⟨i+1,c',by omega,by go_num,rfl,?_,nq2,hwr⟩,by simp[intOf];omega⟩
       rw[hcs,hc0,ek,List.take_length,List.take_add_one,hx,List.map_append,List.sum_append]
       simp
    ·have ei:i=ta.length:=by omega
     have hlt':((i:Int)<ta.length)=False:=by simp;omega
     obtain⟨ma,la,rowa8⟩:=uh HA
     obtain⟨mb,lb,rowb9,f9,f79⟩:=uh HBB
     obtain⟨hc7,sw7,ra7,rb7,bh7,fD⟩:=uh HX7
     obtain⟨S,sy⟩:=uh HS
     obtain⟨hc6,bs6,bh6,br6,b26,ch6,tw,hk6⟩:=uh HX6
     have f7o:St w7 wo:=f79.trans' fo nE
     have bho:=bh7.kept f7o id
     have sy7:=hc7.says []
     rw[homed_nil] at sy7
     have hpo:=hc7.toHp.still f7o
     obtain⟨fr1,hfr1⟩:∃x,8 * (1467 - inP 1467 (ask 1467 (rb base7)))=x:=⟨_,rfl⟩
     have FR:=h_free hpo.hp hpo.reads fr1 (by omega) (by rw[sy7,sw7.st.fr,hfr1])
     have PC:=h_pieces hpo (by rw[sy7];exact sw7.st)
     rw[sy7] at PC
     have dA:Q.Nodup:=by
      rcases ra7 with ⟨_,_,rfl⟩ | ⟨_,_,_,t⟩
      ·exact List.nodup_nil
      ·exact t.nodup tw.ri.1
     have dB:Q6.Nodup:=by
      rcases rb7 with ⟨_,_,rfl⟩ | ⟨_,_,_,t⟩
      ·exact List.nodup_nil
      ·exact t.nodup tw.ri.2
     have lA:∀v∈Q,v<1467:=fun v hv=>(sw7.st.inv.asks v (ra7.asked v hv)).1
     have lB:∀v∈Q6,v<1467:=fun v hv=>(sw7.st.inv.asks v (rb7.asked v hv)).1
     have hK:∀u,ask 1467 (rb base7) u≠0 ↔ u∈Q\/u∈Q6:=fun u=>by
      constructor
      ·intro h
       exact List.mem_append.1 (Decidable.byContradiction fun hn=>h (by rw[sw7.ak,if_neg hn]))
      ·rintro(h | h)
       ·exact ra7.asked u h
       ·exact rb7.asked u h
     have SC:=share_count dA dB lA lB hK
     have hcin:c=(Q.map fun v=>if v∈Q6 then 1 else 0).sum:=by
      rw[hcs,ei,List.take_length]
      exact count_in dB (pl_perm dA ma la) (pl_perm dB mb lb)
     rw[<-hcin,<-la,<-lb] at SC
     have iu:=ch6.used
     have iu2:inP 1467 (ask 1467 (rb base7))<=inP 1467 (ask 1467 (rb base6)):=inP_le fun u=>by
      rw[sw7.ak]
      by_cases h:u∈Q ++ Q6
      ·exact .inl (if_pos h)
      ·exact .inr (if_neg h)
     obtain⟨hdif,wr1⟩:=dif_ok iu iu2 hk6 hfr0 hfr1
     obtain⟨wr2,wr3⟩:=cnt_ok SC (Nat.le_trans (Nat.add_le_add lnA lnB) (by decide))
     generalize cnt 1467 (ask 1467 (rb base7))=cc at *
     have HFR:=Hd FR;have HPC:=Hd PC
     have c9:=bho.c
     have HFW:=Hd ((hc7.hd.fr.trans' f7o nE))
     have hd1:=eq_true hdif
     clear ma la rowa8 mb lb rowb9 f9 f79 hc7 sw7 ra7 rb7 bh7 fD S sy hc6 bs6 bh6 br6 b26 ch6 tw hk6 f7o bho sy7 hpo FR PC dA dB lA lB hK SC hcin iu iu2 fo hwr hcs ei hfr0 hfr1
     clear hdif
     go_wp2_with fail
     refine(uh HFR).mono ?_
     rintro e w' ⟨rfl,hh⟩
     replace hh:=hh.symm
     subst hh
     clear HFR
     go_wp2_with fail
     refine(uh HPC).mono ?_
     rintro e w10 ⟨vp,rfl,ow,f10⟩
     obtain⟨ap,cap,rfl⟩:∃ap cap,vp = .slice ap cc cap:=by
      rcases row_form ow with ⟨e,h0⟩ | ⟨gp,capp,e⟩
      ·exact⟨none,0,by rw[e,h0]⟩
      ·exact⟨_,capp,e⟩
     have fW:=(uh HFW).trans' f10 nE
     have AW:=l11_awake w10 (fun j hj=>fW.cell' (uh HT j hj) id)
     have HAW:=Hd AW;have HFW2:=Hd fW
     clear HPC ow f10 fW AW c9 HFW
     go_wp2_with fail
     refine(uh HAW).mono ?_
     rintro e w11 ⟨rfl,f11⟩
     have HF:=Hd ((uh HFW2).trans' f11 nE)
     clear HAW HFW2 f11
     go_wp2
     go_ret
     have f:=uh HF
     exact⟨by simp,f.os,f.tape,f.output,f.size,fun k hk=>f.block k (by omega) id⟩
end Go.Proofs.YtbiopjmpdhcjgaaGreatDoor
