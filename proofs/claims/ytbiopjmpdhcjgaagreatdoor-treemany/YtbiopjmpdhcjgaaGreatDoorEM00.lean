/- Joined: Pq Ka Kb Ke Ma Kq Mb MaW. -/
import Derived.WalkKit
import Derived.WalkSpells
import Derived.WalkLawsBesides
import Derived.Handy
import Derived.Laws.BitsAllLaws
import Derived.Laws.Bits64
import Derived.Laws.MakeOwn
import Derived.LoopTactic
import Derived.BigQuiet
import Derived.BigRegion
import Derived.StillTail
import Derived.Below
import Derived.OwnWalk
import Derived.Deep.OwnRows
import Derived.Maps.AppendAt
import Derived.Laws.AppendOwnNone
import Derived.Laws.EntriesVeiled
import Derived.OwnWalkIn
import Derived.TacticsInMore
import Derived.LoopNIn
import Derived.LoopIn
import Derived.RangeFuncCalls
import Derived.Lib.SlicesCompact
import Derived.Test.YtbiopjmpdhcjgaaGreatDoorRows
import Derived.Deep.QuietTactic
import Derived.Deep.RegionLawGrows
import Derived.RangeFuncNested
import Derived.Sort.BigQuietIn
import Derived.Defers
import Derived.Recover
import Derived.Laws.Bits64b
import Derived.Laws.ResultCell
import Derived.Lib.ConvBytes
import Derived.Lib.AppendZerosOnto
import Derived.Shelf.Small.Strs
import Derived.Sort.Walk0
import Derived.Laws.CopyOwn
import Derived.Deep.RegionHeld
import Derived.Test.YtbiopjmpdhcjgaaGreatDoorShelf
import Derived.Lib.TrailingZeros
import Derived.Great.Ranges
import Derived.Great.Walk
import Derived.Laws.Rows
import Derived.Laws.Tables
import Derived.Deep.CutRange
import Derived.Maps.OwnSet
import Derived.Laws.OwnMore
import Derived.Maps.OwnIn
import Derived.Maps.Views
import Derived.Sort.OwnSortedInts
import Derived.Test.YtbiopjmpdhcjgaaGreatDoorS38
namespace Go.Proofs.YtbiopjmpdhcjgaaGreatDoor
open Go.RowKit
set_option maxHeartbeats 4000000
theorem strB_size (f:Nat->Nat) (n:Nat):(strB f n).size=n:=by rw[strB,strOfNums_size];simp[rowL]
theorem putP_new {x:ByteArray} {v:Nat}:∀{l:List Pr},(∀p∈l,p.1≠x)->(putP l x v).length=l.length+1
 | [],_=>rfl
 | p :: l,h=>by
  have h1:=h p (List.mem_cons_self ..)
  rw[putP,if_neg h1]
  split
  ·rw[List.length_cons,putP_new fun q hq=>h q (List.mem_cons_of_mem _ hq),List.length_cons]
  ·rfl
def kyF (i:Nat):Nat->Nat:=fun k=>if k=0 then 97+i * 7 % 16 else if k=1 then 97+i * 5 % 26 else if k=2 then 97+i % 26 else 97+i / 26
def kyB (i:Nat):ByteArray:=⟨#[107]⟩ ++ strB (kyF i) 4
theorem kyB_size (i:Nat):(kyB i).size=5:=by
 unfold kyB
 rw[ByteArray.size_append,strB_size];rfl
theorem kyF_lt (i:Nat) (hi:i<200) (k:Nat):kyF i k<256:=by unfold kyF;split;omega;split;omega;split;omega;omega
theorem kyB_inj {i j:Nat} (hi:i<200) (hj:j<200) (e:kyB i=kyB j):i=j:=by
 have e1:(kyB i).data.toList=(kyB j).data.toList:=by rw[e]
 unfold kyB strB at e1
 simp only[ByteArray.data_append,Array.toList_append,strOfNums_data,rowL] at e1
 have e2:=List.append_cancel_left e1
 have e3:∀k,k<4->kyF i k=kyF j k:=fun k hk=>by
  have:=congrArg (fun l=>l[k]?) e2
  simp[hk] at this
  have h1:=kyF_lt i hi k
  have h2:=kyF_lt j hj k
  have h3:=congrArg UInt8.toNat this
  simp at h3
  omega
 have h2:=e3 2 (by omega)
 have h3:=e3 3 (by omega)
 simp[kyF] at h2 h3
 omega
set_option maxRecDepth 20000 in
theorem l11_key (i:Nat) (hi:i<200) (w:World):Calls Tryz.prog 12 #[.int .i64 (i:Nat)] w fun e w'=>e = .returned (.string (kyB i))/\St w w':=by
 obtain⟨W,hW⟩:∃W,w.alloc (.cells #[.int .u8 (97+(i:Int) * 7 % 16),.int .u8 (97+(i:Int) * 5 % 26),.int .u8 (97+(i:Int) % 26),.int .u8 (97+(i:Int) / 26)] 5)=W:=⟨_,rfl⟩
 have o1:W.heap[w.heap.size]? = some (.cells #[.int .u8 (97+(i:Int) * 7 % 16),.int .u8 (97+(i:Int) * 5 % 26),.int .u8 (97+(i:Int) % 26),.int .u8 (97+(i:Int) / 26)] 5 (0,0)):=hW▸heap_alloc_new w _
 have hN:Nats .u8 W (some ⟨w.heap.size,0,none⟩) 4 (kyF i):=fun k hk=>by
  refine⟨_,_,rfl,?_⟩
  rcases (show k=0\/k=1\/k=2\/k=3 by omega) with rfl | rfl | rfl | rfl
  ·exact cOo o1 0
  ·exact cOo o1 1
  ·exact cOo o1 2
  ·exact cOo o1 3
 have cv:=conv_str W (some ⟨w.heap.size,0,none⟩) 4 4 (kyF i) hN
 have HF:=Hd (show St w W from hW▸(Fr.refl _ w).alloc _)
 rw[<-hW] at cv
 have HW:=Hd hW
 clear hW o1 hN
 go_enter Tryz.func12,Tryz.ntmps12
 go_wp2_with fail
 go_ret
 rw[uh HW]
 exact⟨rfl,uh HF⟩

section
theorem sl_root (w W:World) (r:Nat) (hW:w.alloc (.cells #[.int .u64 (r:Nat),.slice none 0 0] 35)=W):Sl W 2 (some ⟨w.heap.size,0,none⟩) ([(r,Value.slice none 0 0)]:List (Nat×Value)).length 1 (rtcl [(r,.slice none 0 0)]):=by
 have o:W.heap[w.heap.size]? = some (.cells #[.int .u64 (r:Nat),.slice none 0 0] 35 (0,0)):=hW▸heap_alloc_new w _
 exact⟨rfl,Nat.le_refl _,(fun e=>by cases e),(fun u hu=>by
  simp only[rtcl,List.mem_cons,List.not_mem_nil,or_false] at hu
  rcases hu with rfl | rfl <;> rfl),(fun j u hu=>⟨w.heap.size,0,rfl,by
  rw[Nat.zero_add,cOo o j,<-hu]
  simp[rtcl]⟩),(fun x e=>by cases e;rfl)⟩
section
variable {nu sz:Nat} {w w' w0:World} {hb sb b bs bh br bi:Nat} {T:Tay} {A:Ab} {P:List (Int×Int)} {r i:Nat} {L:List Pr} {Q:List Nat}
end
end

section
theorem geo32:Geo 2456 20368:=⟨by omega,by omega,by decide,by omega,fun u h1 h2=>by have:=fi_mono (u:=2457) (v:=u) (by omega);have e:fi 2457=720:=(by decide);omega⟩
section
variable {nu sz:Nat} {w w' w0:World} {hb sb b bs bh br bi:Nat} {T:Tay} {A:Ab} {P:List (Int×Int)} {r i:Nat} {L:List Pr} {Q:List Nat}
set_option maxRecDepth 20000 in
theorem tmC1 (h:Hp nu sz w hb sb b T A P) (t:Tre nu sz (says P A) r L Q) (hl:L.length<=130) (hP:P.length<=100) (hnu:2 * L.length+30<nu / 4) (hi:i<200)
  (cs:w.cell? ⟨bs,0,none⟩=some (ptr sb)) (ch:w.cell? ⟨bh,0,none⟩=some (ptr hb)) (Br:Box w br (.int .u64 (r:Nat))) (ci:w.cell? ⟨bi,0,none⟩=some (.int .i64 (i:Nat))) (nt:∀k,k=bs\/k=bh\/k=br\/k=bi->¬tfoot sb b T k)
  (ne:bs≠br/\bh≠br/\bi≠br/\hb≠br/\0≠br) :
  Calls Tryz.prog 10 #[ptr bs,ptr bh,ptr br,ptr bi] w fun e w'=>e = .returned (.tuple #[])/\PutS nu sz (fun k=>k=br) w sb b T A br (putP L (kyB i) i) w':=by
 have fD:St w w.drew:=(Fr.refl _ w).drewN 1
 have KY:=l11_key i hi w.drew
 have PUT:∀w1,St w w1->Calls Tryz.prog 11 #[ptr sb,ptr hb,.int .u64 (r:Nat),.string (kyB i),.int .u64 (i:Nat)] w1 _:=fun w1 f1=>y_Put (h.still f1) t.st t.rt t.pk t.ri (by omega) (kyB i) i (by rw[kyB_size];omega) (by omega) (by omega) (by have:=t.cnt;omega) t.low
 have lbs:bs<w.heap.size:=World.block_lt_of_cell? _ _ cs
 have lbh:bh<w.heap.size:=World.block_lt_of_cell? _ _ ch
 have lbi:bi<w.heap.size:=World.block_lt_of_cell? _ _ ci
 have lbr:=Br.lt
 have cr:=Br.c
 have HK:=Hd KY;have HP:=@Hd _ PUT
 have HX:=Hd (ai h (ai t (ai hl (ai hP (ai hnu (ai Br fD))))));have HNT:=@Hd _ nt
 have wu:IntKind.u64.wrap (i:Nat)=(i:Nat):=(wrap_small _ (by omega) (by omega)).2
 clear KY PUT h t hl hP hnu Br nt fD
 go_enter Tryz.func10,Tryz.ntmps10
 go_wp2_with fail
 refine wp_region_held_drew (S:=fun w'=>w'.cell? ⟨bs,0,none⟩=some (ptr sb)/\w'.cell? ⟨bh,0,none⟩=some (ptr hb)/\w'.cell? ⟨bi,0,none⟩=some (.int .i64 (i:Nat))) (by kernel_rfl) ⟨cs,ch,ci⟩ (fun hHeld=>?_)
 refine tkO 0 ?_ hHeld rfl ?_ ?_
 rotate_left
 ·intro w q;go_simp;try with_reducible rfl
 simp only[apt,List.set]
 refine tkO 1 ?_ hHeld rfl ?_ ?_
 rotate_left
 ·intro w q;go_simp;try with_reducible rfl
 simp only[apt,List.set]
 refine tkO 3 ?_ hHeld rfl ?_ ?_
 rotate_left
 ·intro w q;go_simp;try with_reducible rfl
 simp only[apt,List.set]
 refine tkO 5 ?_ hHeld rfl ?_ ?_
 rotate_left
 ·intro w q;go_simp;try with_reducible rfl
 simp only[apt,List.set]
 refine tkO 6 ?_ hHeld rfl ?_ ?_
 rotate_left
 ·intro w q;go_simp;try with_reducible rfl
 simp only[apt,List.set]
 clear wu
 refine wpAnyH_ready (rs:=[2,4]) (by kernel_rfl) (by simp) ?_
 refine AllReadyH.cons rfl (fun K hK=>?_) (AllReadyH.cons rfl (fun K hK=>?_) AllReadyH.nil)
 ·go_simp
  refine hK.out _ _ hHeld (fun _=>?_)
  clear hK K
  refine rdO 4 rfl (fun K hK=>?_)
  go_simp
  go_wp2_with fail
  refine(uh HK).mono ?_
  clear HK
  rintro e w1 ⟨rfl,f1⟩
  have f01:St w w1:=(uh HX).2.2.2.2.2.2.trans' f1 nE
  have hHeld1:w1.cell? ⟨bs,0,none⟩=some (ptr sb)/\w1.cell? ⟨bh,0,none⟩=some (ptr hb)/\w1.cell? ⟨bi,0,none⟩=some (.int .i64 (i:Nat)):=⟨f01.cell' cs id,f01.cell' ch id,f01.cell' ci id⟩
  refine hK.out _ _ hHeld1 (fun _=>?_)
  clear hK K f1
  have hS1:=hHeld1
  refine rdO 7 rfl (fun K hK=>?_)
  go_simp
  go_wp2_with fail
  refine(uh HP w1 f01).mono ?_
  rintro e w2 ⟨r',rfl,T2,P2,Q2,k2,hk2,o2,l2,ch2,hr2,rt2⟩
  obtain⟨h,t,hl,hP,hnu,Br,fD⟩:=uh HX
  have h2:=(h.still f01).call o2
  have o02:Onx w sb b T w2 T2 sz A P2 false:=o2.after f01
  have nt2:∀k,k=bs\/k=bh\/k=br\/k=bi->¬tfoot sb b T2 k:=fun k hk=>o02.other (by rcases hk with rfl | rfl | rfl | rfl <;> assumption) (uh HNT k hk)
  have cs2:w2.cell? ⟨bs,0,none⟩=some (ptr sb):=o02.fr.cell' cs (uh HNT bs (by simp))
  have ch2':w2.cell? ⟨bh,0,none⟩=some (ptr hb):=o02.fr.cell' ch (uh HNT bh (by simp))
  have ci2:w2.cell? ⟨bi,0,none⟩=some (.int .i64 (i:Nat)):=o02.fr.cell' ci (uh HNT bi (by simp))
  have Br2:=Br.kept o02.fr (uh HNT br (by simp))
  obtain⟨W3,hW3⟩:∃W3,w2.setCell ⟨br,0,none⟩ (.int .u64 (r':Nat))=W3:=⟨_,rfl⟩
  have f3:Fr (fun k=>k=br) w2 W3:=hW3▸Fr.box w2 br _
  have Br3:Box W3 br (.int .u64 (r':Nat)):=hW3▸Br2.set _
  have cs3:W3.cell? ⟨bs,0,none⟩=some (ptr sb):=f3.cell' cs2 ne.1
  have ch3:W3.cell? ⟨bh,0,none⟩=some (ptr hb):=f3.cell' ch2' ne.2.1
  have ci3:W3.cell? ⟨bi,0,none⟩=some (.int .i64 (i:Nat)):=f3.cell' ci2 ne.2.2.1
  have h3:=h2.turn f3 (fun k hk=>by rw[hk];exact nt2 br (by simp)) ne.2.2.2.1 ne.2.2.2.2
  have ri2:Rise (putP L (kyB i) i):=putP_rise t.ri
  have pk2:Pok (putP L (kyB i) i):=t.pk.put (by rw[kyB_size];omega) (by omega)
  have ln2:=putP_len (kyB i) i L
  obtain⟨W4,hW4⟩:∃W4,W3.alloc (.cells #[.int .u64 (r':Nat),.slice none 0 0] 35)=W4:=⟨_,rfl⟩
  have f4:St W3 W4:=hW4▸(Fr.refl _ W3).alloc _
  have SL:=sl_root W3 W4 r' hW4
  have few2:=ch2.few
  have cn:=t.cnt
  have SW:=t_sweepR (h3.still f4) ch2.st (some ⟨W3.heap.size,0,none⟩) 1 [(r',.slice none 0 0)] [Q2] SL rfl (fun j p Q' h1 h2=>by
   match j,h1,h2 with
   | 0,h1,h2=>
    cases (Option.some.inj h1);cases (Option.some.inj h2)
    exact⟨_,rt2,ri2,by omega⟩
   | j+1,h1,_=>simp at h1) (by simp) (by omega)
  have HSW:=Hd SW
  have HE:=Hd (show ∀w5 g,To sz W4 sb b T2 A w5 g (P2.length+10 * cnt nu (ask nu (says P2 A)))->HpS nu g->(∀u,ask nu g u=if u ∈ [Q2].flatten then ask nu (says P2 A) u else 0)->(∀i,fi nu<=i->g i=says P2 A i)->PutS nu sz (fun k=>k=br) w sb b T A br (putP L (kyB i) i) w5 from fun w5 g tg sg ak ke=>by
   obtain⟨T5,P5,o5,e5,l5⟩:=tg
   subst e5
   have sw:Swp nu (says P2 A) (says P5 A) Q2:=⟨sg,fun u=>by rw[ak];simp,ke⟩
   refine⟨T5,P5,r',Q2,(((OnxX.of o02).var f3 (fun k hk=>hk) (fun k hk=>by rw[hk];exact nt2 br (by simp))).quiet f4).trans o5,?_,hr2,t.put rt2 sw ri2 pk2⟩
   exact(Br3.kept f4 id).kept o5.fr (nt2 br (by simp)))
  have c3:=Br3.c;have c2:=Br2.c;have z2:=Br2.z
  have HW3:=Hd hW3;have HW4:=Hd hW4
  refine hK.out _ _ ⟨cs2,ch2',ci2⟩ (fun _=>?_)
  clear hK K SW h2 o02 o2 nt2 f3 h3 ri2 pk2 ln2 few2 cn f4 SL hW4 h t hl hP hnu Br Br2 Br3 fD l2 ch2 hr2 rt2 hk2 HX HP HNT cs2 ch2' ci2 hS1 hW3
  refine rdO 8 rfl (fun K hK=>?_)
  go_simp
  rw[uh HW3]
  refine hK.out _ _ ⟨cs3,ch3,ci3⟩ (fun _=>?_)
  clear hK K c2 z2
  refine wpAnyH_done (by kernel_rfl) ?_ _
  go_wp2_with fail
  rw[uh HW4]
  refine(uh HSW).mono ?_
  rintro e w5 ⟨rfl,g,tg,sg,ak,ke,-⟩
  have HQ:=Hd (uh HE w5 g tg sg ak ke)
  clear HSW HE tg sg ak ke
  go_wp2_with fail
  go_end0
  exact⟨rfl,uh HQ⟩
 ·go_simp
  go_wp2_with fail
  refine(uh HK).mono ?_
  clear HK
  rintro e w1 ⟨rfl,f1⟩
  have f01:St w w1:=(uh HX).2.2.2.2.2.2.trans' f1 nE
  have hHeld1:w1.cell? ⟨bs,0,none⟩=some (ptr sb)/\w1.cell? ⟨bh,0,none⟩=some (ptr hb)/\w1.cell? ⟨bi,0,none⟩=some (.int .i64 (i:Nat)):=⟨f01.cell' cs id,f01.cell' ch id,f01.cell' ci id⟩
  have cr1:w1.cell? ⟨br,0,none⟩=some (.int .u64 (r:Nat)):=f01.cell' cr id
  refine hK.out _ _ hHeld1 (fun _=>?_)
  clear hK K f1
  refine rdO 2 rfl (fun K hK=>?_)
  go_simp
  refine hK.out _ _ hHeld1 (fun _=>?_)
  clear hK K cr1
  have hS1:=hHeld1
  refine rdO 7 rfl (fun K hK=>?_)
  go_simp
  go_wp2_with fail
  refine(uh HP w1 f01).mono ?_
  rintro e w2 ⟨r',rfl,T2,P2,Q2,k2,hk2,o2,l2,ch2,hr2,rt2⟩
  obtain⟨h,t,hl,hP,hnu,Br,fD⟩:=uh HX
  have h2:=(h.still f01).call o2
  have o02:Onx w sb b T w2 T2 sz A P2 false:=o2.after f01
  have nt2:∀k,k=bs\/k=bh\/k=br\/k=bi->¬tfoot sb b T2 k:=fun k hk=>o02.other (by rcases hk with rfl | rfl | rfl | rfl <;> assumption) (uh HNT k hk)
  have cs2:w2.cell? ⟨bs,0,none⟩=some (ptr sb):=o02.fr.cell' cs (uh HNT bs (by simp))
  have ch2':w2.cell? ⟨bh,0,none⟩=some (ptr hb):=o02.fr.cell' ch (uh HNT bh (by simp))
  have ci2:w2.cell? ⟨bi,0,none⟩=some (.int .i64 (i:Nat)):=o02.fr.cell' ci (uh HNT bi (by simp))
  have Br2:=Br.kept o02.fr (uh HNT br (by simp))
  obtain⟨W3,hW3⟩:∃W3,w2.setCell ⟨br,0,none⟩ (.int .u64 (r':Nat))=W3:=⟨_,rfl⟩
  have f3:Fr (fun k=>k=br) w2 W3:=hW3▸Fr.box w2 br _
  have Br3:Box W3 br (.int .u64 (r':Nat)):=hW3▸Br2.set _
  have cs3:W3.cell? ⟨bs,0,none⟩=some (ptr sb):=f3.cell' cs2 ne.1
  have ch3:W3.cell? ⟨bh,0,none⟩=some (ptr hb):=f3.cell' ch2' ne.2.1
  have ci3:W3.cell? ⟨bi,0,none⟩=some (.int .i64 (i:Nat)):=f3.cell' ci2 ne.2.2.1
  have h3:=h2.turn f3 (fun k hk=>by rw[hk];exact nt2 br (by simp)) ne.2.2.2.1 ne.2.2.2.2
  have ri2:Rise (putP L (kyB i) i):=putP_rise t.ri
  have pk2:Pok (putP L (kyB i) i):=t.pk.put (by rw[kyB_size];omega) (by omega)
  have ln2:=putP_len (kyB i) i L
  obtain⟨W4,hW4⟩:∃W4,W3.alloc (.cells #[.int .u64 (r':Nat),.slice none 0 0] 35)=W4:=⟨_,rfl⟩
  have f4:St W3 W4:=hW4▸(Fr.refl _ W3).alloc _
  have SL:=sl_root W3 W4 r' hW4
  have few2:=ch2.few
  have cn:=t.cnt
  have SW:=t_sweepR (h3.still f4) ch2.st (some ⟨W3.heap.size,0,none⟩) 1 [(r',.slice none 0 0)] [Q2] SL rfl (fun j p Q' h1 h2=>by
   match j,h1,h2 with
   | 0,h1,h2=>
    cases (Option.some.inj h1);cases (Option.some.inj h2)
    exact⟨_,rt2,ri2,by omega⟩
   | j+1,h1,_=>simp at h1) (by simp) (by omega)
  have HSW:=Hd SW
  have HE:=Hd (show ∀w5 g,To sz W4 sb b T2 A w5 g (P2.length+10 * cnt nu (ask nu (says P2 A)))->HpS nu g->(∀u,ask nu g u=if u ∈ [Q2].flatten then ask nu (says P2 A) u else 0)->(∀i,fi nu<=i->g i=says P2 A i)->PutS nu sz (fun k=>k=br) w sb b T A br (putP L (kyB i) i) w5 from fun w5 g tg sg ak ke=>by
   obtain⟨T5,P5,o5,e5,l5⟩:=tg
   subst e5
   have sw:Swp nu (says P2 A) (says P5 A) Q2:=⟨sg,fun u=>by rw[ak];simp,ke⟩
   refine⟨T5,P5,r',Q2,(((OnxX.of o02).var f3 (fun k hk=>hk) (fun k hk=>by rw[hk];exact nt2 br (by simp))).quiet f4).trans o5,?_,hr2,t.put rt2 sw ri2 pk2⟩
   exact(Br3.kept f4 id).kept o5.fr (nt2 br (by simp)))
  have c3:=Br3.c;have c2:=Br2.c;have z2:=Br2.z
  have HW3:=Hd hW3;have HW4:=Hd hW4
  refine hK.out _ _ ⟨cs2,ch2',ci2⟩ (fun _=>?_)
  clear hK K SW h2 o02 o2 nt2 f3 h3 ri2 pk2 ln2 few2 cn f4 SL hW4 h t hl hP hnu Br Br2 Br3 fD l2 ch2 hr2 rt2 hk2 HX HP HNT cs2 ch2' ci2 hS1 hW3
  refine rdO 8 rfl (fun K hK=>?_)
  go_simp
  rw[uh HW3]
  refine hK.out _ _ ⟨cs3,ch3,ci3⟩ (fun _=>?_)
  clear hK K c2 z2
  refine wpAnyH_done (by kernel_rfl) ?_ _
  go_wp2_with fail
  rw[uh HW4]
  refine(uh HSW).mono ?_
  rintro e w5 ⟨rfl,g,tg,sg,ak,ke,-⟩
  have HQ:=Hd (uh HE w5 g tg sg ak ke)
  clear HSW HE tg sg ak ke
  go_wp2_with fail
  go_end0
  exact⟨rfl,uh HQ⟩
end
theorem getP_no {x:ByteArray}:∀{l:List Pr},getP l x=none->∀p∈l,p.1≠x
 | [],_,p,hp=>by cases hp
 | q :: l,h,p,hp=>by
  unfold getP at h
  split at h
  ·cases h
  ·next e=>
   rcases List.mem_cons.1 hp with rfl | hp
   ·exact e
   ·exact getP_no h p hp
def DelS (nu sz:Nat) (w:World) (sb b:Nat) (T:Tay) (A:Ab) (br bg:Nat) (L':List Pr) (w':World):Prop:=
 ∃T' P' r' Q',OnxX (fun k=>k=br\/k=bg) w sb b T w' T' sz A P' false/\Box w' br (.int .u64 ((r':Nat):Int))/\Box w' bg (.bool true)/\Tre nu sz (says P' A) r' L' Q'
section
variable {nu sz:Nat} {w w' w0:World} {hb sb b bs bh br bi bg:Nat} {T:Tay} {A:Ab} {P:List (Int×Int)} {r i:Nat} {L:List Pr} {Q:List Nat} {vg:Value}
set_option maxRecDepth 20000 in
theorem tmC2 (h:Hp nu sz w hb sb b T A P) (t:Tre nu sz (says P A) r L Q) (hl:L.length<=130) (hP:P.length<=100) (hnu:2 * L.length+30<nu / 4) (hi:i<200) {v:Nat} (hin:(kyB i,v)∈L)
  (cs:w.cell? ⟨bs,0,none⟩=some (ptr sb)) (ch:w.cell? ⟨bh,0,none⟩=some (ptr hb)) (Br:Box w br (.int .u64 (r:Nat))) (ci:w.cell? ⟨bi,0,none⟩=some (.int .i64 (i:Nat))) (Bg:Box w bg (.bool false)) (nt:∀k,k=bs\/k=bh\/k=br\/k=bi\/k=bg->¬tfoot sb b T k)
  (ne:bs≠br/\bh≠br/\bi≠br/\hb≠br/\0≠br) (ne2:bs≠bg/\bh≠bg/\bi≠bg/\hb≠bg/\0≠bg/\br≠bg) :
  Calls Tryz.prog 18 #[ptr bs,ptr bh,ptr br,ptr bi,ptr bg] w fun e w'=>e = .returned (.tuple #[])/\DelS nu sz w sb b T A br bg (delP L (kyB i)) w':=by
 have fD:St w w.drew:=(Fr.refl _ w).drewN 1
 have KY:=l11_key i hi w.drew
 have DEL:∀w1,St w w1->Calls Tryz.prog 19 #[ptr sb,ptr hb,.int .u64 (r:Nat),.string (kyB i)] w1 fun e w'=>∃r':Nat,e = .returned (.tuple #[.int .u64 (r':Nat),.bool true])/\DelE nu sz w1 sb b T A P (delP L (kyB i)) w' r':=fun w1 f1=>(y_Del (h.still f1) t.st t.rt t.pk t.ri (by omega) (kyB i) (by omega) (by have:=t.cnt;omega) t.low).mono (by
  rintro e w' (⟨e0,_⟩ | ⟨_,_,hh⟩)
  ·exact absurd rfl (getP_no e0 _ hin)
  ·exact hh)
 have lbs:bs<w.heap.size:=World.block_lt_of_cell? _ _ cs
 have lbh:bh<w.heap.size:=World.block_lt_of_cell? _ _ ch
 have lbi:bi<w.heap.size:=World.block_lt_of_cell? _ _ ci
 have lbr:=Br.lt
 have lbg:=Bg.lt
 have cr:=Br.c
 have HK:=Hd KY;have HP:=@Hd _ DEL
 have HX:=Hd (ai h (ai t (ai hl (ai hP (ai hnu (ai Br (ai Bg fD)))))));have HNT:=@Hd _ nt
 clear KY DEL h t hl hP hnu Br Bg nt fD hin
 go_enter Tryz.func18,Tryz.ntmps18
 go_wp2_with fail
 refine wp_region_held_drew (S:=fun w'=>w'.cell? ⟨bs,0,none⟩=some (ptr sb)/\w'.cell? ⟨bh,0,none⟩=some (ptr hb)/\w'.cell? ⟨bi,0,none⟩=some (.int .i64 (i:Nat))) (by kernel_rfl) ⟨cs,ch,ci⟩ (fun hHeld=>?_)
 refine tkO 0 ?_ hHeld rfl ?_ ?_
 rotate_left
 ·intro w q;go_simp;try with_reducible rfl
 simp only[apt,List.set]
 refine tkO 1 ?_ hHeld rfl ?_ ?_
 rotate_left
 ·intro w q;go_simp;try with_reducible rfl
 simp only[apt,List.set]
 refine tkO 3 ?_ hHeld rfl ?_ ?_
 rotate_left
 ·intro w q;go_simp;try with_reducible rfl
 simp only[apt,List.set]
 refine wpAnyH_ready (rs:=[2,4]) (by kernel_rfl) (by simp) ?_
 refine AllReadyH.cons rfl (fun K hK=>?_) (AllReadyH.cons rfl (fun K hK=>?_) AllReadyH.nil)
 ·go_simp
  refine hK.out _ _ hHeld (fun _=>?_)
  clear hK K
  refine rdO 4 rfl (fun K hK=>?_)
  go_simp
  go_wp2_with fail
  refine(uh HK).mono ?_
  clear HK
  rintro e w1 ⟨rfl,f1⟩
  have f01:St w w1:=(uh HX).2.2.2.2.2.2.2.trans' f1 nE
  have hHeld1:w1.cell? ⟨bs,0,none⟩=some (ptr sb)/\w1.cell? ⟨bh,0,none⟩=some (ptr hb)/\w1.cell? ⟨bi,0,none⟩=some (.int .i64 (i:Nat)):=⟨f01.cell' cs id,f01.cell' ch id,f01.cell' ci id⟩
  refine hK.out _ _ hHeld1 (fun _=>?_)
  clear hK K f1
  have hS1:=hHeld1
  refine rdO 5 rfl (fun K hK=>?_)
  go_simp
  go_wp2_with fail
  refine(uh HP w1 f01).mono ?_
  rintro e w2 ⟨r',rfl,T2,P2,Q2,k2,hk2,o2,l2,ch2,rt2⟩
  obtain⟨h,t,hl,hP,hnu,Br,Bg,fD⟩:=uh HX
  have h2:=(h.still f01).call o2
  have o02:Onx w sb b T w2 T2 sz A P2 false:=o2.after f01
  have nt2:∀k,k=bs\/k=bh\/k=br\/k=bi\/k=bg->¬tfoot sb b T2 k:=fun k hk=>o02.other (by rcases hk with rfl | rfl | rfl | rfl | rfl <;> assumption) (uh HNT k hk)
  have cs2:w2.cell? ⟨bs,0,none⟩=some (ptr sb):=o02.fr.cell' cs (uh HNT bs (by simp))
  have ch2':w2.cell? ⟨bh,0,none⟩=some (ptr hb):=o02.fr.cell' ch (uh HNT bh (by simp))
  have ci2:w2.cell? ⟨bi,0,none⟩=some (.int .i64 (i:Nat)):=o02.fr.cell' ci (uh HNT bi (by simp))
  have Br2:=Br.kept o02.fr (uh HNT br (by simp))
  have Bg2:=Bg.kept o02.fr (uh HNT bg (by simp))
  obtain⟨W3,hW3⟩:∃W3,w2.setCell ⟨br,0,none⟩ (.int .u64 (r':Nat))=W3:=⟨_,rfl⟩
  obtain⟨W4,hW4⟩:∃W4,W3.setCell ⟨bg,0,none⟩ (.bool true)=W4:=⟨_,rfl⟩
  have f3:Fr (fun k=>k=br) w2 W3:=hW3▸Fr.box w2 br _
  have f4:Fr (fun k=>k=bg) W3 W4:=hW4▸Fr.box W3 bg _
  have f24:Fr (fun k=>k=br\/k=bg) w2 W4:=(f3.mono (fun _ hk=>.inl (.inl hk))).trans' f4 (fun _ hk=>.inl (.inr hk))
  have Br3:Box W3 br (.int .u64 (r':Nat)):=hW3▸Br2.set _
  have Bg3:=Bg2.kept f3 (fun e=>ne2.2.2.2.2.2 e.symm)
  have Br4:=Br3.kept f4 (fun e=>ne2.2.2.2.2.2 e)
  have Bg4:Box W4 bg (.bool true):=hW4▸Bg3.set _
  have hS3:W3.cell? ⟨bs,0,none⟩=some (ptr sb)/\W3.cell? ⟨bh,0,none⟩=some (ptr hb)/\W3.cell? ⟨bi,0,none⟩=some (.int .i64 (i:Nat)):=⟨f3.cell' cs2 ne.1,f3.cell' ch2' ne.2.1,f3.cell' ci2 ne.2.2.1⟩
  have hS4:W4.cell? ⟨bs,0,none⟩=some (ptr sb)/\W4.cell? ⟨bh,0,none⟩=some (ptr hb)/\W4.cell? ⟨bi,0,none⟩=some (.int .i64 (i:Nat)):=⟨f4.cell' hS3.1 ne2.1,f4.cell' hS3.2.1 ne2.2.1,f4.cell' hS3.2.2 ne2.2.2.1⟩
  have h4:=h2.turn f24 (fun k hk=>by rcases hk with rfl | rfl;exact nt2 _ (by simp);exact nt2 _ (by simp)) (fun e=>e.elim ne.2.2.2.1 ne2.2.2.2.1) (fun e=>e.elim ne.2.2.2.2 ne2.2.2.2.2.1)
  have ri2:Rise (delP L (kyB i)):=t.ri.sub (delP_sub _ _)
  have pk2:Pok (delP L (kyB i)):=t.pk.sub (delP_sub _ _)
  have ln2:=(delP_sub (kyB i) L).length_le
  obtain⟨W5,hW5⟩:∃W5,W4.alloc (.cells #[.int .u64 (r':Nat),.slice none 0 0] 35)=W5:=⟨_,rfl⟩
  have f5:St W4 W5:=hW5▸(Fr.refl _ W4).alloc _
  have SL:=sl_root W4 W5 r' hW5
  have few2:=ch2.few
  have cn:=t.cnt
  have SW:=t_sweepR (h4.still f5) ch2.st (some ⟨W4.heap.size,0,none⟩) 1 [(r',.slice none 0 0)] [Q2] SL rfl (fun j p Q' h1 h2=>by
   match j,h1,h2 with
   | 0,h1,h2=>
    cases (Option.some.inj h1);cases (Option.some.inj h2)
    exact⟨_,rt2,ri2,by omega⟩
   | j+1,h1,_=>simp at h1) (by simp) (by omega)
  have HSW:=Hd SW
  have HE:=Hd (show ∀w5 g,To sz W5 sb b T2 A w5 g (P2.length+10 * cnt nu (ask nu (says P2 A)))->HpS nu g->(∀u,ask nu g u=if u ∈ [Q2].flatten then ask nu (says P2 A) u else 0)->(∀i,fi nu<=i->g i=says P2 A i)->DelS nu sz w sb b T A br bg (delP L (kyB i)) w5 from fun w5 g tg sg ak ke=>by
   obtain⟨T5,P5,o5,e5,l5⟩:=tg
   subst e5
   have sw:Swp nu (says P2 A) (says P5 A) Q2:=⟨sg,fun u=>by rw[ak];simp,ke⟩
   refine⟨T5,P5,r',Q2,(((OnxX.of o02).var f24 (fun k hk=>hk) (fun k hk=>by rcases hk with rfl | rfl;exact nt2 _ (by simp);exact nt2 _ (by simp))).quiet f5).trans o5,?_,?_,t.put rt2 sw ri2 pk2⟩
   ·exact(Br4.kept f5 id).kept o5.fr (nt2 br (by simp))
   ·exact(Bg4.kept f5 id).kept o5.fr (nt2 bg (by simp)))
  have c4:=Br4.c;have c2:=Br2.c;have z2:=Br2.z;have c3:=Bg3.c;have z3:=Bg3.z
  have HW3:=Hd hW3;have HW4:=Hd hW4;have HW5:=Hd hW5
  refine hK.out _ _ ⟨cs2,ch2',ci2⟩ (fun _=>?_)
  clear hK K SW h2 o02 o2 nt2 f3 f4 f24 h4 ri2 pk2 ln2 few2 cn f5 SL hW5 h t hl hP hnu Br Bg Br2 Bg2 Br3 Bg3 Br4 Bg4 fD l2 ch2 rt2 hk2 HX HP HNT hS1 hW3 hW4
  refine rdO 6 rfl (fun K hK=>?_)
  go_simp
  refine hK.out _ _ ⟨cs2,ch2',ci2⟩ (fun _=>?_)
  clear hK K
  replace hHeld:=ai cs2 (ai ch2' ci2)
  refine tkO 7 ?_ hHeld rfl ?_ ?_
  rotate_left
  ·intro w q;go_simp;try with_reducible rfl
  simp only[apt,List.set]
  refine tkO 8 ?_ hHeld rfl ?_ ?_
  rotate_left
  ·intro w q;go_simp;try with_reducible rfl
  simp only[apt,List.set]
  clear hHeld
  refine rdO 9 rfl (fun K hK=>?_)
  go_simp
  rw[uh HW3]
  refine hK.out _ _ hS3 (fun _=>?_)
  clear hK K c2 z2
  refine rdO 10 rfl (fun K hK=>?_)
  go_simp
  rw[uh HW4]
  refine hK.out _ _ hS4 (fun _=>?_)
  clear hK K c3 z3 hS3
  refine wpAnyH_done (by kernel_rfl) ?_ _
  obtain⟨x1,x2,-⟩:=hS4
  go_wp2_with fail
  rw[uh HW5]
  refine(uh HSW).mono ?_
  rintro e w5 ⟨rfl,g,tg,sg,ak,ke,-⟩
  have HQ:=Hd (uh HE w5 g tg sg ak ke)
  clear HSW HE tg sg ak ke
  go_wp2_with fail
  go_end0
  exact⟨rfl,uh HQ⟩
 ·go_simp
  go_wp2_with fail
  refine(uh HK).mono ?_
  clear HK
  rintro e w1 ⟨rfl,f1⟩
  have f01:St w w1:=(uh HX).2.2.2.2.2.2.2.trans' f1 nE
  have hHeld1:w1.cell? ⟨bs,0,none⟩=some (ptr sb)/\w1.cell? ⟨bh,0,none⟩=some (ptr hb)/\w1.cell? ⟨bi,0,none⟩=some (.int .i64 (i:Nat)):=⟨f01.cell' cs id,f01.cell' ch id,f01.cell' ci id⟩
  have cr1:w1.cell? ⟨br,0,none⟩=some (.int .u64 (r:Nat)):=f01.cell' cr id
  refine hK.out _ _ hHeld1 (fun _=>?_)
  clear hK K f1
  refine rdO 2 rfl (fun K hK=>?_)
  go_simp
  refine hK.out _ _ hHeld1 (fun _=>?_)
  clear hK K cr1
  have hS1:=hHeld1
  refine rdO 5 rfl (fun K hK=>?_)
  go_simp
  go_wp2_with fail
  refine(uh HP w1 f01).mono ?_
  rintro e w2 ⟨r',rfl,T2,P2,Q2,k2,hk2,o2,l2,ch2,rt2⟩
  obtain⟨h,t,hl,hP,hnu,Br,Bg,fD⟩:=uh HX
  have h2:=(h.still f01).call o2
  have o02:Onx w sb b T w2 T2 sz A P2 false:=o2.after f01
  have nt2:∀k,k=bs\/k=bh\/k=br\/k=bi\/k=bg->¬tfoot sb b T2 k:=fun k hk=>o02.other (by rcases hk with rfl | rfl | rfl | rfl | rfl <;> assumption) (uh HNT k hk)
  have cs2:w2.cell? ⟨bs,0,none⟩=some (ptr sb):=o02.fr.cell' cs (uh HNT bs (by simp))
  have ch2':w2.cell? ⟨bh,0,none⟩=some (ptr hb):=o02.fr.cell' ch (uh HNT bh (by simp))
  have ci2:w2.cell? ⟨bi,0,none⟩=some (.int .i64 (i:Nat)):=o02.fr.cell' ci (uh HNT bi (by simp))
  have Br2:=Br.kept o02.fr (uh HNT br (by simp))
  have Bg2:=Bg.kept o02.fr (uh HNT bg (by simp))
  obtain⟨W3,hW3⟩:∃W3,w2.setCell ⟨br,0,none⟩ (.int .u64 (r':Nat))=W3:=⟨_,rfl⟩
  obtain⟨W4,hW4⟩:∃W4,W3.setCell ⟨bg,0,none⟩ (.bool true)=W4:=⟨_,rfl⟩
  have f3:Fr (fun k=>k=br) w2 W3:=hW3▸Fr.box w2 br _
  have f4:Fr (fun k=>k=bg) W3 W4:=hW4▸Fr.box W3 bg _
  have f24:Fr (fun k=>k=br\/k=bg) w2 W4:=(f3.mono (fun _ hk=>.inl (.inl hk))).trans' f4 (fun _ hk=>.inl (.inr hk))
  have Br3:Box W3 br (.int .u64 (r':Nat)):=hW3▸Br2.set _
  have Bg3:=Bg2.kept f3 (fun e=>ne2.2.2.2.2.2 e.symm)
  have Br4:=Br3.kept f4 (fun e=>ne2.2.2.2.2.2 e)
  have Bg4:Box W4 bg (.bool true):=hW4▸Bg3.set _
  have hS3:W3.cell? ⟨bs,0,none⟩=some (ptr sb)/\W3.cell? ⟨bh,0,none⟩=some (ptr hb)/\W3.cell? ⟨bi,0,none⟩=some (.int .i64 (i:Nat)):=⟨f3.cell' cs2 ne.1,f3.cell' ch2' ne.2.1,f3.cell' ci2 ne.2.2.1⟩
  have hS4:W4.cell? ⟨bs,0,none⟩=some (ptr sb)/\W4.cell? ⟨bh,0,none⟩=some (ptr hb)/\W4.cell? ⟨bi,0,none⟩=some (.int .i64 (i:Nat)):=⟨f4.cell' hS3.1 ne2.1,f4.cell' hS3.2.1 ne2.2.1,f4.cell' hS3.2.2 ne2.2.2.1⟩
  have h4:=h2.turn f24 (fun k hk=>by rcases hk with rfl | rfl;exact nt2 _ (by simp);exact nt2 _ (by simp)) (fun e=>e.elim ne.2.2.2.1 ne2.2.2.2.1) (fun e=>e.elim ne.2.2.2.2 ne2.2.2.2.2.1)
  have ri2:Rise (delP L (kyB i)):=t.ri.sub (delP_sub _ _)
  have pk2:Pok (delP L (kyB i)):=t.pk.sub (delP_sub _ _)
  have ln2:=(delP_sub (kyB i) L).length_le
  obtain⟨W5,hW5⟩:∃W5,W4.alloc (.cells #[.int .u64 (r':Nat),.slice none 0 0] 35)=W5:=⟨_,rfl⟩
  have f5:St W4 W5:=hW5▸(Fr.refl _ W4).alloc _
  have SL:=sl_root W4 W5 r' hW5
  have few2:=ch2.few
  have cn:=t.cnt
  have SW:=t_sweepR (h4.still f5) ch2.st (some ⟨W4.heap.size,0,none⟩) 1 [(r',.slice none 0 0)] [Q2] SL rfl (fun j p Q' h1 h2=>by
   match j,h1,h2 with
   | 0,h1,h2=>
    cases (Option.some.inj h1);cases (Option.some.inj h2)
    exact⟨_,rt2,ri2,by omega⟩
   | j+1,h1,_=>simp at h1) (by simp) (by omega)
  have HSW:=Hd SW
  have HE:=Hd (show ∀w5 g,To sz W5 sb b T2 A w5 g (P2.length+10 * cnt nu (ask nu (says P2 A)))->HpS nu g->(∀u,ask nu g u=if u ∈ [Q2].flatten then ask nu (says P2 A) u else 0)->(∀i,fi nu<=i->g i=says P2 A i)->DelS nu sz w sb b T A br bg (delP L (kyB i)) w5 from fun w5 g tg sg ak ke=>by
   obtain⟨T5,P5,o5,e5,l5⟩:=tg
   subst e5
   have sw:Swp nu (says P2 A) (says P5 A) Q2:=⟨sg,fun u=>by rw[ak];simp,ke⟩
   refine⟨T5,P5,r',Q2,(((OnxX.of o02).var f24 (fun k hk=>hk) (fun k hk=>by rcases hk with rfl | rfl;exact nt2 _ (by simp);exact nt2 _ (by simp))).quiet f5).trans o5,?_,?_,t.put rt2 sw ri2 pk2⟩
   ·exact(Br4.kept f5 id).kept o5.fr (nt2 br (by simp))
   ·exact(Bg4.kept f5 id).kept o5.fr (nt2 bg (by simp)))
  have c4:=Br4.c;have c2:=Br2.c;have z2:=Br2.z;have c3:=Bg3.c;have z3:=Bg3.z
  have HW3:=Hd hW3;have HW4:=Hd hW4;have HW5:=Hd hW5
  refine hK.out _ _ ⟨cs2,ch2',ci2⟩ (fun _=>?_)
  clear hK K SW h2 o02 o2 nt2 f3 f4 f24 h4 ri2 pk2 ln2 few2 cn f5 SL hW5 h t hl hP hnu Br Bg Br2 Bg2 Br3 Bg3 Br4 Bg4 fD l2 ch2 rt2 hk2 HX HP HNT hS1 hW3 hW4
  refine rdO 6 rfl (fun K hK=>?_)
  go_simp
  refine hK.out _ _ ⟨cs2,ch2',ci2⟩ (fun _=>?_)
  clear hK K
  replace hHeld:=ai cs2 (ai ch2' ci2)
  refine tkO 7 ?_ hHeld rfl ?_ ?_
  rotate_left
  ·intro w q;go_simp;try with_reducible rfl
  simp only[apt,List.set]
  refine tkO 8 ?_ hHeld rfl ?_ ?_
  rotate_left
  ·intro w q;go_simp;try with_reducible rfl
  simp only[apt,List.set]
  clear hHeld
  refine rdO 9 rfl (fun K hK=>?_)
  go_simp
  rw[uh HW3]
  refine hK.out _ _ hS3 (fun _=>?_)
  clear hK K c2 z2
  refine rdO 10 rfl (fun K hK=>?_)
  go_simp
  rw[uh HW4]
  refine hK.out _ _ hS4 (fun _=>?_)
  clear hK K c3 z3 hS3
  refine wpAnyH_done (by kernel_rfl) ?_ _
  obtain⟨x1,x2,-⟩:=hS4
  go_wp2_with fail
  rw[uh HW5]
  refine(uh HSW).mono ?_
  rintro e w5 ⟨rfl,g,tg,sg,ak,ke,-⟩
  have HQ:=Hd (uh HE w5 g tg sg ak ke)
  clear HSW HE tg sg ak ke
  go_wp2_with fail
  go_end0
  exact⟨rfl,uh HQ⟩
end
end
def pxN (v:Value) (w:World):Nat:=match v with
 | .pointer (some a)=>bxN w a.block
 | _=>0

section
def kA (a N t:Nat):Nat:=(a+t) % N * 7 % 120
theorem kA_lt (a N t:Nat):kA a N t<120:=Nat.mod_lt _ (by omega)
theorem seven_inj {x y:Nat} (hx:x<120) (hy:y<120) (h:x * 7 % 120=y * 7 % 120):x=y:=by omega
theorem mod_two {x N:Nat} (h:x<N+N):x % N=if x<N then x else x - N:=by
 split
 ·next e=>exact Nat.mod_eq_of_lt e
 ·next e=>rw[Nat.mod_eq_sub_mod (by omega),Nat.mod_eq_of_lt (by omega)]
theorem ring_inj {a N s t:Nat} (hs:s<N) (ht:t<N) (h:(a+s) % N=(a+t) % N):s=t:=by
 have h1:(a+s) % N=(a % N+s % N) % N:=Nat.add_mod ..
 have h2:(a+t) % N=(a % N+t % N) % N:=Nat.add_mod ..
 rw[Nat.mod_eq_of_lt hs] at h1
 rw[Nat.mod_eq_of_lt ht] at h2
 have h3:a % N<N:=Nat.mod_lt _ (by omega)
 generalize a % N=c at *
 have m1:=mod_two (x:=c+s) (N:=N) (by omega)
 have m2:=mod_two (x:=c+t) (N:=N) (by omega)
 have e:(c+s) % N=(c+t) % N:=by rw[<-h1,<-h2];exact h
 rw[m1,m2] at e
 clear h1 h2 h m1 m2
 split at e <;> split at e <;> omega
theorem kA_inj {a N s t:Nat} (hN:N<=120) (hs:s<N) (ht:t<N) (h:kA a N s=kA a N t):s=t:=by
 have l1:(a+s) % N<N:=Nat.mod_lt _ (by omega)
 have l2:(a+t) % N<N:=Nat.mod_lt _ (by omega)
 exact ring_inj hs ht (seven_inj (by omega) (by omega) h)
theorem kA_key {a N s t:Nat} (hN:N<=120) (hs:s<N) (ht:t<N) (h:kyB (kA a N s)=kyB (kA a N t)):s=t:=
 kA_inj hN hs ht (kyB_inj (by have:=kA_lt a N s;omega) (by have:=kA_lt a N t;omega) h)
theorem ring_all {a N x:Nat} (hx:x<N):∃t,t<N/\(a+t) % N=x:=by
 have h3:a % N<N:=Nat.mod_lt _ (by omega)
 have key:∀t,(a+t) % N=(a % N+t) % N:=fun t=>(Nat.mod_add_mod a N t).symm
 by_cases h:a % N<=x
 ·refine⟨x - a % N,by omega,?_⟩
  rw[key,show a % N+(x - a % N)=x by omega,Nat.mod_eq_of_lt hx]
 ·refine⟨x+N - a % N,by omega,?_⟩
  rw[key,show a % N+(x+N - a % N)=x+N by omega,Nat.add_mod_right,Nat.mod_eq_of_lt hx]
theorem ring_next (a N t:Nat) (_h0:0<N):((a+t) % N+1) % N=(a+(t+1)) % N:=by
 rw[Nat.mod_add_mod,Nat.add_assoc]
theorem putP_in (x:ByteArray) (v:Nat):∀l:List Pr,(x,v)∈putP l x v
 | []=>List.mem_singleton.2 rfl
 | p :: l=>by
  unfold putP
  split
  ·exact List.mem_cons_of_mem _ (putP_in x v l)
  ·split <;> exact List.mem_cons_self ..
theorem putP_keep {x:ByteArray} {v:Nat} {q:Pr} (hq:q.1≠x):∀{l:List Pr},q∈l->q∈putP l x v
 | [],h=>by cases h
 | p :: l,h=>by
  unfold putP
  rcases List.mem_cons.1 h with rfl | h
  ·split
   ·exact List.mem_cons_self ..
   ·exact List.mem_cons_of_mem _ (List.mem_cons_self ..)
  ·split
   ·exact List.mem_cons_of_mem _ (putP_keep hq h)
   ·split
    ·exact List.mem_cons_of_mem _ h
    ·exact List.mem_cons_of_mem _ (List.mem_cons_of_mem _ h)
theorem delP_keep {x:ByteArray} {q:Pr} {l:List Pr} (hq:q.1≠x) (h:q∈l):q∈delP l x:=List.mem_filter.2 ⟨h,by simp[hq]⟩
theorem getP_in {x:ByteArray} {v:Nat}:∀{l:List Pr},Rise l->(x,v)∈l->getP l x=some v
 | [],_,h=>by cases h
 | p :: l,ri,h=>by
  obtain⟨h1,h2⟩:=List.pairwise_cons.1 ri
  rcases List.mem_cons.1 h with rfl | h
  ·simp[getP]
  ·have:p.1≠x:=ltK_ne (h1 _ h)
   rw[getP,if_neg this]
   exact getP_in h2 h
theorem getP_gone (l:List Pr) (x:ByteArray):getP (delP l x) x=none:=getP_none fun p hp=>by have:=(List.mem_filter.1 hp).2;simpa using this
structure Mny (a N m:Nat) (L:List Pr):Prop where
 len:L.length=m
 mem:∀t,t<m->(kyB (kA a N t),kA a N t)∈L
 only:∀p∈L,∃t,t<m/\p.1=kyB (kA a N t)
theorem Mny.put {a N m:Nat} {L:List Pr} (h:Mny a N m L) (hN:N<=120) (hm:m<N):Mny a N (m+1) (putP L (kyB (kA a N m)) (kA a N m)):=by
 have no:∀p∈L,p.1≠kyB (kA a N m):=fun p hp e=>by
  obtain⟨t,ht,e2⟩:=h.only p hp
  have:=kA_key hN (by omega) hm (e2.symm.trans e)
  omega
 refine⟨by rw[putP_new no,h.len],fun t ht=>?_,fun p hp=>?_⟩
 ·by_cases e:t=m
  ·rw[e];exact putP_in _ _ _
  ·refine putP_keep (fun e2=>e (kA_key hN (by omega) hm e2)) (h.mem t (by omega))
 ·rcases putP_mem hp with rfl | hp
  ·exact⟨m,by omega,rfl⟩
  ·obtain⟨t,ht,e⟩:=h.only p hp
   exact⟨t,by omega,e⟩
structure Lft (a N m:Nat) (L:List Pr):Prop where
 len:L.length=N - m
 mem:∀t,m<=t->t<N->(kyB (kA a N t),kA a N t)∈L
theorem Mny.all {a N:Nat} {L:List Pr} (h:Mny a N N L) (x:Nat) (hx:x<N):(kyB (x * 7 % 120),x * 7 % 120)∈L:=by
 obtain⟨t,ht,e⟩:=ring_all (a:=a) hx
 have:=h.mem t ht
 unfold kA at this
 rwa [e] at this
theorem Mny.lft {a b N:Nat} {L:List Pr} (h:Mny a N N L):Lft b N 0 L:=⟨by rw[h.len];omega,fun t _ ht=>h.all _ (Nat.mod_lt _ (by omega))⟩
theorem Lft.del {a N m:Nat} {L:List Pr} (h:Lft a N m L) (ri:Rise L) (hN:N<=120) (hm:m<N):Lft a N (m+1) (delP L (kyB (kA a N m))):=by
 have h1:=delP_len ri (h.mem m (Nat.le_refl _) hm)
 refine⟨by have:=h.len;omega,fun t h2 h3=>delP_keep (fun e=>?_) (h.mem t (by omega) h3)⟩
 have:=kA_key hN h3 hm e
 omega
section
variable {nu sz:Nat} {w w' w0:World} {X:Nat->Prop} {hb sb b br bg N:Nat} {T:Tay} {A:Ab} {s:Int} {base:Nat->Int}
theorem del_do {g:Nat} {fi ca:Array Value} {L':List Pr} (hc:HpC nu sz w0 X w hb sb b T A N True s base) (hX:X br) (hX2:X bg) (hh:hb≠br/\hb≠bg) (en:∀args w,(callFunc g args).run Tryz.prog w = .ok (.enter g args) w)
  (C:∀w1,St w w1->Calls Tryz.prog g (fi ++ ca) w1 fun e w'=>e = .returned (.tuple #[])/\DelS nu sz w1 sb b T A br bg L' w') (hs:s+30729<4294967296) :
  Calls Tryz.prog 9 #[ptr sb,.func (.func g) fi ca] w fun e w'=>e = .returned (.int .i64 0)/\Fr (fun k=>tfoot sb b T k\/(k=br\/k=bg)) w w'/\∃T' A' base' r' Q',HpC nu sz w0 X w' hb sb b T' A' N True (s+30729) base'/\Box w' br (.int .u64 ((r':Nat):Int))/\Box w' bg (.bool true)/\Tre nu sz (rb base') r' L' Q':=by
 have DO:=hc.do_ (V:=fun k=>k=br\/k=bg) (g:=g) (fi:=fi) (ca:=ca) (R:=fun h P' w'=>h = .well/\∃r' Q',Box w' br (.int .u64 ((r':Nat):Int))/\Box w' bg (.bool true)/\Tre nu sz (says P' A) r' L' Q') (fun k hk=>by rcases hk with rfl | rfl;exact hX;exact hX2) (fun e=>e.elim hh.1 hh.2) (by
  rintro h P w w' F ⟨q,r',Q',b1,b2,t⟩ hf hn
  exact⟨q,r',Q',b1.kept hf (hn br (.inl rfl)),b2.kept hf (hn bg (.inr rfl)),t⟩) (fun w3 f3=>acts_of en ((C w3 f3).mono (by
  rintro e w4 ⟨rfl,T',P',r',Q',o,b1,b2,t⟩
  exact⟨.well,rfl,.inl rfl,T',P',o,rfl,r',Q',b1,b2,t⟩))) hs
 unfold DidH at DO
 refine DO.mono ?_
 rintro e w' ⟨fr,⟨P',T',A',⟨_,r',Q',b1,b2,t⟩,rfl,hc'⟩ | ⟨i,P',T',⟨hi,_⟩,_⟩⟩
 ·rw[hc.says P'] at t
  exact⟨rfl,fr,T',A',_,r',Q',hc',b1,b2,t⟩
 ·exact(well_errno hi.symm).elim
theorem y_Depth0 (sv:Value) (w:World):Calls Tryz.prog 20 #[sv,.int .u64 0] w fun e w'=>e = .returned (.int .i64 0)/\w'=w:=by
 go_enter Tryz.func20,Tryz.ntmps20
 go_wp2
 go_ret
 exact⟨rfl,rfl⟩
end
end
def TmX (hb n1:Nat):Nat->Prop:=fun k=>k=hb\/k=n1\/k=n1+1\/k=n1+2
structure TmH (w wr:World) (n1 b hb sb:Nat) (T:Tay) (A:Ab) (s:Int) (base:Nat->Int) (r:Nat) (L:List Pr) (Q:List Nat):Prop where
 hc:HpC 2456 20368 w (TmX hb n1) wr hb sb b T A 4096 True s base
 t:Tre 2456 20368 (rb base) r L Q
 bs:Box wr n1 (ptr sb)
 bh:Box wr (n1+1) (ptr hb)
 br:Box wr (n1+2) (.int .u64 (r:Nat))
 d:0<w.heap.size/\hb<n1/\0<hb
theorem TmH.still {w wr w':World} {n1 b hb sb:Nat} {T:Tay} {A:Ab} {s:Int} {base:Nat->Int} {r:Nat} {L:List Pr} {Q:List Nat} (h:TmH w wr n1 b hb sb T A s base r L Q) (f:St wr w'):TmH w w' n1 b hb sb T A s base r L Q:=⟨h.hc.still f,h.t,h.bs.kept f id,h.bh.kept f id,h.br.kept f id,h.d⟩
theorem rem_of (x:Int) (m:Nat) (hm:0<m) (h9:m<=1000):∃F:Nat,(wrap64 (x.tmod m+m)).tmod m=(F:Int)/\F<m:=by
 have h1:x.tmod m<m:=Int.tmod_lt_of_pos x (by omega)
 have h2:-m<x.tmod m:=Int.lt_tmod_of_pos x (by omega)
 generalize x.tmod m=r at *
 rw[small_w64 (by omega),Int.tmod_eq_emod_of_nonneg (by omega)]
 have h3:=Int.emod_lt_of_pos (r+m) (show(0:Int)<m by omega)
 have h4:=Int.emod_nonneg (r+m) (show(m:Int)≠0 by omega)
 exact⟨((r+m) % m).toNat,by omega,by omega⟩
set_option maxRecDepth 100000 in
theorem many_ok (a0 a1 a2:Int) (w:World) (tab:TabL w) :
  Calls Tryz.prog 3 #[.int .i64 a0,.int .i64 a1,.int .i64 a2] w fun e w'=>e = .returned (.bool true)/\Below w.heap.size w w':=by
 have h1:=eq_nil_heap
 have h2:=mf
 have l0:0<w.heap.size:=World.block_lt_of_cell? _ _ (tab 0 (by omega))
 have K:Calls Tryz.prog 8 #[.int .i64 32768] w _:=l8_open geo32 (N:=4096) (by omega) w tab
 have HK:=Hd K;have HT:=Hd tab
 clear K tab
 go_enter Tryz.func3,Tryz.ntmps3
 go_wp2_with fail
 refine(uh HK).mono ?_
 clear HK
 rintro e w1 ⟨b,sb,hb,T,A,base,rfl,hc,nw⟩
 obtain⟨W1,hW1⟩:∃W1,w1.alloc (.cells #[ptr sb] 23)=W1:=⟨_,rfl⟩
 obtain⟨W2,hW2⟩:∃W2,W1.alloc (.cells #[ptr hb] 24)=W2:=⟨_,rfl⟩
 obtain⟨W3,hW3⟩:∃W3,W2.alloc (.cells #[.int .u64 0] 27)=W3:=⟨_,rfl⟩
 obtain⟨n1,hn1⟩:∃n1,w1.heap.size=n1:=⟨_,rfl⟩
 have z1:W1.heap.size=n1+1:=by rw[<-hW1];simp[hn1]
 have z2:W2.heap.size=n1+2:=by rw[<-hW2];simp;omega
 have f12:St W1 W2:=hW2▸(Fr.refl _ W1).alloc _
 have f23:St W2 W3:=hW3▸(Fr.refl _ W2).alloc _
 have f13:St W1 W3:=f12.trans' f23 nE
 have hc1:=hc.more (.cells #[ptr sb] 23)
 rw[hW1,hn1] at hc1
 have hc2:=hc1.more (.cells #[ptr hb] 24)
 rw[hW2,z1] at hc2
 have hc3:=hc2.more (.cells #[.int .u64 0] 27)
 rw[hW3,z2] at hc3
 have lhb:hb<n1:=by rw[<-hn1];exact(hc.hd.xl hb hc.xh).2
 have ghb:w.heap.size<=hb:=(hc.hd.xl hb hc.xh).1
 have bh2:Box W2 (n1+1) (ptr hb):=by
  have:=Box.new W1 (ptr hb) 24
  rw[hW2,z1] at this;exact this
 have st0:TmH w W3 n1 b hb sb T A 43021 base 0 [] []:=by
  refine⟨hc3.sub (fun k hk=>?_) (.inl rfl),Tre.new nw,?_,bh2.kept f23 id,?_,⟨l0,lhb,by omega⟩⟩
  ·rcases hk with e | e | e | e
   ·exact .inl (.inl (.inl e))
   ·exact .inl (.inl (.inr e))
   ·exact .inl (.inr e)
   ·exact .inr e
  ·have:=Box.new w1 (ptr sb) 23
   rw[hW1,hn1] at this;exact this.kept f13 id
  ·have:=Box.new W2 (.int .u64 0) 27
   rw[hW3,z2] at this;exact this
 have bhc:=bh2.c
 rw[<-hW2,<-hW1] at bhc
 have HST:=Hd st0;have HW:=Hd (ai hW1 (ai hW2 hW3))
 obtain⟨N0,hN0,hN1⟩:=rem_of a0 120 (by omega) (by omega)
 obtain⟨N,hN⟩:∃N,N0+1=N:=⟨_,rfl⟩
 have hNe:(wrap64 (a0.tmod 120+120)).tmod 120=(N:Int) - 1:=by rw[show((N:Int) - 1)=N0 by omega];exact hN0
 obtain⟨F,hF,hFN⟩:=rem_of a1 N (by omega) (by omega)
 obtain⟨G,hG,hGN⟩:=rem_of a2 N (by omega) (by omega)
 have hn0:((N:Int)=0)=False:=by simp;omega
 have hN120:1<=N/\N<=120:=by omega
 clear hN0 hN1 hN
 clear hc hc1 hc2 hc3 nw st0 f12 f23 f13 bh2 hW1 hW2 hW3
 have HGG:=Hd hG
 clear hG
 go_wp2_with fail
 simp only[show n1+1+1=n1+2 from rfl]
 obtain⟨hW1,hW2,hW3⟩:=uh HW
 rw[hW1,hW2,hW3]
 clear hW1 hW2 hW3 HW bhc z1 z2 hNe hF
 go_loopw [11,12] (fun av iv wr=>∃(m:Nat) (T:Tay) (A:Ab) (s:Int) (base:Nat->Int) (r:Nat) (L:List Pr) (Q:List Nat),iv = .int .i64 m/\m<=N/\av = .int .i64 (((F+m) % N:Nat):Int)/\s<=43021+30729 * m/\TmH w wr n1 b hb sb T A s base r L Q/\Mny F N m L) (fun _ iv _=>N - (intOf iv).toNat)
 case atStart=>exact⟨0,T,A,43021,base,0,[],[],rfl,by omega,by rw[Nat.add_zero,Nat.mod_eq_of_lt hFN],by omega,uh HST,⟨rfl,fun t ht=>by omega,fun p hp=>by cases hp⟩⟩
 case round=>
  clear HST
  obtain⟨m,T,A,s,base,r,L,Q,rfl,hmN,rfl,hs,S,Y⟩:=hrel
  generalize wr=wq at *
  clear wr
  by_cases hlt:m<N
  ·skip
   -- ARM put
   have hlt':((m:Int)<N)=True:=by simp;omega
   have c3:=S.bs.c
   obtain⟨d0,d1,d2⟩:=S.d
   obtain⟨x,hx⟩:∃x,(F+m) % N=x:=⟨_,rfl⟩
   have hxN:x<N:=by rw[<-hx];exact Nat.mod_lt _ (by omega)
   have hkA:kA F N m=x * 7 % 120:=by unfold kA;rw[hx]
   obtain⟨k,hk⟩:∃k,kA F N m=k:=⟨_,rfl⟩
   have hk120:k<120:=by rw[<-hk];exact kA_lt _ _ _
   have hki:(x:Int) * 7 % 120=(k:Nat):=by rw[<-hk,hkA];omega
   obtain⟨q,hq⟩:∃q,wq.heap.size=q:=⟨_,rfl⟩
   obtain⟨Wk,hWk⟩:∃W,wq.alloc (.cells #[.int .i64 (k:Nat)] 3)=W:=⟨_,rfl⟩
   have fk:St wq Wk:=hWk▸(Fr.refl _ wq).alloc _
   have hck:=S.hc.more (.cells #[.int .i64 (k:Nat)] 3)
   rw[hWk,hq] at hck
   have bk:Box Wk q (.int .i64 (k:Nat)):=by
    have:=Box.new wq (.int .i64 (k:Nat)) 3
    rw[hWk,hq] at this;exact this
   have bsk:=S.bs.kept fk id
   have bhk:=S.bh.kept fk id
   have brk:=S.br.kept fk id
   have lq:n1+2<q:=by rw[<-hq];exact S.br.lt
   have sy:=hck.says []
   rw[homed_nil] at sy
   have DO:=put_do (g:=10) (fi:=#[]) (ca:=#[ptr n1,ptr (n1+1),ptr (n1+2),ptr q]) (br:=n1+2) (L':=putP L (kyB k) k) hck (.inl (by simp[TmX])) (by omega) (fun _ _=>by kernel_rfl) (fun w1 f1=>tmC1 (i:=k) (hck.toHp.still f1) (by rw[sy];exact S.t) (by have:=Y.len;omega) (by simp) (by have:=Y.len;omega) (by omega) (f1.cell' bsk.c id) (f1.cell' bhk.c id) (brk.kept f1 id) (f1.cell' bk.c id) (fun k hk=>by
    rcases hk with rfl | rfl | rfl | rfl
    ·exact hck.hd.ap _ (.inl (by simp[TmX]))
    ·exact hck.hd.ap _ (.inl (by simp[TmX]))
    ·exact hck.hd.ap _ (.inl (by simp[TmX]))
    ·exact hck.hd.ap _ (.inr rfl)) (by omega)) (by omega)
   have HDO:=Hd DO;have HS:=Hd (ai S (ai Y (ai hck (ai fk (ai hx (ai hk bsk))))));have HWk:=Hd hWk
   have c4:=bsk.c
   have HB:=Hd bhk
   rw[<-hWk] at c4
   rw[hx]
   clear DO S Y sy hck fk hx hk hkA bk bsk bhk brk hWk c3
   have hx7:x<=120:=by omega
   go_wp2_with fail
   rw[uh HWk]
   refine(uh HDO).mono ?_
   clear HDO c4 hki HWk
   rintro e w6 ⟨rfl,fr6,T6,A6,base6,r6,Q6,hc6,br6,h06,t6⟩
   obtain⟨S,Y,hck,fk,hx,hk,bsk⟩:=uh HS
   have bhk:=uh HB
   have S7:TmH w w6 n1 b hb sb T6 A6 (s+30729) base6 r6 (putP L (kyB k) k) Q6:=⟨hc6.sub (fun k hk=>.inl hk) (.inl rfl),t6,bsk.kept fr6 (fun e=>e.elim (hck.hd.ap _ (.inl (by simp[TmX]))) (by omega)),bhk.kept fr6 (fun e=>e.elim (hck.hd.ap _ (.inl (by simp[TmX]))) (by omega)),br6,S.d⟩
   have Y7:Mny F N (m+1) (putP L (kyB k) k):=by have:=Y.put hN120.2 hlt;rw[hk] at this;exact this
   have nx:(x+1) % N=(F+(m+1)) % N:=by rw[<-hx];exact ring_next F N m (by omega)
   have nxi:((x:Int)+1) % N=(((F+(m+1)) % N:Nat):Int):=by rw[<-nx];rfl
   have H7:=Hd (ai S7 Y7)
   clear S Y hck fk hx hk bsk bhk S7 Y7 hc6 br6 t6 fr6 HS HB nx
   go_wp2
   obtain⟨S7,Y7⟩:=uh H7
   exact⟨⟨m+1,T6,A6,s+30729,base6,r6,_,Q6,by simp,by omega,by rw[nxi],by omega,S7,Y7⟩,by simp[intOf];omega⟩
   -- END put
  ·skip
   -- ARM rest
   have em:m=N:=by omega
   subst em
   have hlt':((m:Int)<m)=False:=by simp
   have hm1:m<=120:=hN120.2
   obtain⟨d0,d1,d2⟩:=S.d
   have sy:=S.hc.says []
   rw[homed_nil] at sy
   have rt:Rt 2456 20368 (says [] A) r L Q:=by rw[sy];exact S.t.rt
   have RG:=y_Range S.hc.toHp rt S.t.ri S.t.pk ⟨#[]⟩ ⟨#[]⟩ 1000 (by omega) (by have:=Y.len;omega)
   rw[rgP_all (show((L.length:Nat):Int)<=1000 by have:=Y.len;omega),Y.len] at RG
   have LN:∀w2,St wq w2->Calls Tryz.prog 15 #[ptr sb,.int .u64 (r:Nat)] w2 fun e w'=>e = .returned (.int .i64 (m:Nat))/\St w2 w':=fun w2 f2=>Y.len▸y_Len (S.hc.toHp.still f2) rt (by have:=Y.len;omega)
   have CK:∀w2,St wq w2->Calls Tryz.prog 16 #[ptr sb,.int .u64 (r:Nat)] w2 _:=fun w2 f2=>y_Check (S.hc.toHp.still f2) rt (by have:=Y.len;omega)
   have c3:=S.bs.c;have c4:=S.br.c
   have HS:=Hd (ai S (ai Y rt))
   have HRG:=Hd RG;have HLN:=@Hd _ LN;have HCK:=@Hd _ CK
   clear S Y sy rt RG LN CK
   go_wp2_with fail
   refine(uh HRG).mono ?_
   clear HRG
   rintro e w7 ⟨v,rfl,rv,f7⟩
   obtain⟨va,vc,rfl⟩:∃va vc,v = .slice va m vc:=by
    rcases rowp_form rv with ⟨e,h0⟩ | ⟨gg,cap,e⟩
    ·exact⟨none,0,by rw[e,h0]⟩
    ·exact⟨_,cap,e⟩
   have c5:=f7.cell' c3 id;have c6:=f7.cell' c4 id
   have SL:=sl_of_row rv pcl_one
   have K1:=Hd (uh HLN w7 f7);have HF7:=Hd (ai f7 SL)
   have c34:=Hd (ai c3 c4)
   clear c3 c4 rv f7 SL HLN
   go_wp2_with fail
   refine(uh K1).mono ?_
   clear K1
   rintro e w8 ⟨rfl,f8⟩
   have f78:St wq w8:=(uh HF7).1.trans' f8 nE
   have SL8:=(uh HF7).2.still f8
   have c7:=f8.cell' c5 id;have c8:=f8.cell' c6 id
   have K2:=Hd (uh HCK w8 f78);have HF8:=Hd (ai f78 SL8)
   clear f8 f78 SL8 c5 c6 HF7
   go_wp2_with fail
   refine(uh K2).mono ?_
   clear K2 HCK
   rintro e w9 ⟨rfl,f9⟩
   have f89:St wq w9:=(uh HF8).1.trans' f9 nE
   have SL9:=(uh HF8).2.still f9
   have HF9:=Hd (ai f89 SL9)
   clear f9 f89 SL9 c7 c8 HF8
   go_wp2
   clear c34
   go_loopw [15] (fun iv wr=>∃j:Nat,iv = .int .i64 (j:Nat)/\j<=m/\St w9 wr) (fun iv _=>m - (intOf iv).toNat)
   case atStart=>exact⟨0,rfl,by omega,Fr.refl _ _⟩
   case round=>
    obtain⟨j,rfl,hjm,fr⟩:=hrel
    generalize wr=wx at *
    clear wr
    by_cases hj:j<m
    ·skip
     -- ARM look
     have hj':((j:Int)<m)=True:=by simp;omega
     obtain⟨S,Y,rt⟩:=uh HS
     obtain⟨f9,SL⟩:=uh HF9
     have f0:St wq wx:=f9.trans' fr nE
     obtain⟨k,hk⟩:∃k,j * 7 % 120=k:=⟨_,rfl⟩
     have hki:(j:Int) * 7 % 120=(k:Nat):=by omega
     have hk2:k<120:=by omega
     have hj7:j<=120:=by omega
     have KY:=l11_key k (by omega) wx.drew
     have GT:∀w2,St wq w2->Calls Tryz.prog 17 #[ptr sb,.int .u64 (r:Nat),.string (kyB k)] w2 fun e w'=>e = .returned (.tuple #[.int .u64 (k:Nat),.bool true])/\St w2 w':=fun w2 f2=>by
      have:=y_Get (S.hc.toHp.still f2) rt S.t.ri (kyB k)
      rw[getP_in S.t.ri (hk▸Y.all j hj)] at this
      exact this
     have e1:=f0.cell' S.bs.c id;have e2:=f0.cell' S.br.c id
     have fD:St wx wx.drew:=(Fr.refl _ wx).drewN 1
     have SLx:=SL.still fr
     have wu:IntKind.u64.wrap (k:Nat)=(k:Nat):=(wrap_small _ (by omega) (by omega)).2
     have hLm:=Y.len
     have ri:=S.t.ri
     have HK:=Hd KY;have HG:=@Hd _ GT;have HX:=Hd (ai f0 (ai fr (ai fD (ai SLx (ai hLm ri)))))
     clear KY GT S Y rt f9 SL f0 fr fD SLx hLm ri hk
     go_wp2_with fail
     refine wp_region_held_drew (S:=fun w'=>w'.cell? ⟨n1,0,none⟩=some (ptr sb)/\w'.cell? ⟨n1+2,0,none⟩=some (.int .u64 (r:Nat))) (by kernel_rfl) ⟨e1,e2⟩ (fun hHeld=>?_)
     refine tkO 0 ?_ hHeld rfl ?_ ?_
     rotate_left
     ·intro w q;go_simp;try with_reducible rfl
     simp only[apt,List.set]
     refine tkO 1 ?_ hHeld rfl ?_ ?_
     rotate_left
     ·intro w q;go_simp;try with_reducible rfl
     simp only[apt,List.set]
     refine tkO 2 ?_ hHeld rfl ?_ ?_
     rotate_left
     ·intro w q;go_simp;try with_reducible rfl
     simp only[apt,List.set]
     refine rdO 3 rfl (fun K hK=>?_)
     go_simp
     go_wp2_with fail
     refine(uh HK).mono ?_
     clear HK
     rintro e w11 ⟨rfl,f11⟩
     have g11:St wx w11:=(uh HX).2.2.1.trans' f11 nE
     have hS1:w11.cell? ⟨n1,0,none⟩=some (ptr sb)/\w11.cell? ⟨n1+2,0,none⟩=some (.int .u64 (r:Nat)):=⟨g11.cell' e1 id,g11.cell' e2 id⟩
     refine hK.out _ _ hS1 (fun _=>?_)
     clear hK K f11 hHeld
     have KG:=Hd (uh HG w11 ((uh HX).1.trans' g11 nE))
     refine rdO 4 rfl (fun K hK=>?_)
     go_simp
     go_wp2_with fail
     refine(uh KG).mono ?_
     clear KG HG
     rintro e w12 ⟨rfl,f12⟩
     have g12:St wx w12:=g11.trans' f12 nE
     have hHeld:w12.cell? ⟨n1,0,none⟩=some (ptr sb)/\w12.cell? ⟨n1+2,0,none⟩=some (.int .u64 (r:Nat)):=⟨g12.cell' e1 id,g12.cell' e2 id⟩
     refine hK.out _ _ hHeld (fun _=>?_)
     clear hK K f12 hS1 g11
     refine tkO 5 ?_ hHeld rfl ?_ ?_
     rotate_left
     ·intro w q;go_simp;try with_reducible rfl
     simp only[apt,List.set]
     refine tkO 6 ?_ hHeld rfl ?_ ?_
     rotate_left
     ·intro w q;go_simp;try with_reducible rfl
     simp only[apt,List.set]
     refine tkO 7 ?_ hHeld rfl ?_ ?_
     rotate_left
     ·intro w q;go_simp;try with_reducible rfl
     simp only[apt,List.set]
     refine tkO 8 ?_ hHeld rfl ?_ ?_
     rotate_left
     ·intro w q;go_simp;try with_reducible rfl
     simp only[apt,List.set]
     refine tkO 9 ?_ hHeld rfl ?_ ?_
     rotate_left
     ·intro w q;go_simp;try with_reducible rfl
     simp only[apt,List.set]
     refine wpAnyH_done (by kernel_rfl) ?_ _
     clear e1 e2 hHeld hki
     obtain⟨f0,fr,fD,SLx,hLm,ri⟩:=uh HX
     have SL12:=SLx.still g12
     obtain⟨p,hp⟩:∃p,L[j]? = some p:=⟨_,List.getElem?_eq_getElem (by omega)⟩
     have g9:St w9 w12:=fr.trans' g12 nE
     have HY:=Hd g9
     clear fD f0 fr g12 SLx
     by_cases hj0:j=0
     ·have hj1:((j:Int) > 0)=False:=by simp;omega
      have hj2:((0:Int)<j)=False:=by simp;omega
      clear hp SL12 ri g9 HX
      go_wp2_with fail
      go_quiet (fail)
      go_wp2_with fail
      exact⟨⟨j+1,by simp;omega,by omega,(uh HY).drewN _⟩,by simp[intOf];omega⟩
     ·have hj2:(0<j)=True:=eq_true (by omega)
      have hj3:((0:Int)<j)=True:=eq_true (by omega)
      obtain⟨i,hi⟩:∃i,j - 1=i:=⟨_,rfl⟩
      have hi1:(j:Int) - 1=(i:Nat):=by omega
      have hi2:((i:Int)<m)=True:=by simp;omega
      obtain⟨p',hp'⟩:∃p',L[i]? = some p':=⟨_,List.getElem?_eq_getElem (by omega)⟩
      have LF:Lf w12 va vc L:=by
       have:=SL12
       rw[<-hLm] at this;exact this
      obtain⟨b1,o1,e1,x1,x2⟩:=LF.pair hp
      obtain⟨b2,o2,e2,y1,y2⟩:=LF.pair hp'
      clear LF
      subst e1
      injection e2 with e2
      injection e2 with e3 e4
      subst e3 e4
      have up:ltK p'.1 p.1:=by
       have l1:i<L.length:=by omega
       have l2:j<L.length:=by omega
       have:=List.pairwise_iff_getElem.1 ri i j l1 l2 (by omega)
       rw[List.getElem?_eq_getElem l1] at hp'
       rw[List.getElem?_eq_getElem l2] at hp
       injection hp with hp;injection hp' with hp'
       rw[hp,hp'] at this;exact this
      obtain⟨s1,hs1⟩:∃s1,p.1=s1:=⟨_,rfl⟩
      obtain⟨s2,hs2⟩:∃s2,p'.1=s2:=⟨_,rfl⟩
      rw[hs1] at x1 up;rw[hs2] at y1 up
      have u1:Op.bytesLess s1.toList s2.toList=false:=by rw[less_eq];exact decide_eq_false (fun h=>List.lt_asymm h up)
      have u2:(s1.toList == s2.toList)=false:=by
       rw[beq_eq_false_iff_ne]
       intro e
       rw[Lib.toList_data,Lib.toList_data] at e
       have up:s2.data.toList<s1.data.toList:=up
       rw[e] at up
       exact List.lt_irrefl _ up
      have u3:(s1.toList=s2.toList)=False:=by
       have:=beq_eq_false_iff_ne.1 u2
       exact eq_false this
      clear hp hp' SL12 g9 HX ri up hs1 hs2 x2 y2
      go_wp2_with fail
      go_quiet (fail)
      go_wp2_with fail
      exact⟨⟨j+1,by simp,by omega,(uh HY).drewN _⟩,by simp[intOf];omega⟩
     -- END look
    ·skip
     -- ARM away
     have em:j=m:=by omega
     subst em
     have hj':((j:Int)<j)=False:=by simp
     have hG:=uh HGG
     have S0:TmH w wx n1 b hb sb T A s base r L Q:=(uh HS).1.still ((uh HF9).1.trans' fr nE)
     have Y0:Lft G j 0 L:=(uh HS).2.1.lft
     have H0:=Hd (ai S0 Y0)
     clear S0 Y0 fr HS HF9
     go_wp2_with fail
     clear hG
     go_loopw [11,19] (fun av iv wr=>∃(t:Nat) (T:Tay) (A:Ab) (s:Int) (base:Nat->Int) (r:Nat) (L:List Pr) (Q:List Nat),iv = .int .i64 t/\t<=j/\av = .int .i64 (((G+t) % j:Nat):Int)/\s<=43021+30729 * 120+30729 * t/\TmH w wr n1 b hb sb T A s base r L Q/\Lft G j t L) (fun _ iv _=>j - (intOf iv).toNat)
     case atStart=>exact⟨0,T,A,s,base,r,L,Q,rfl,by omega,by rw[Nat.add_zero,Nat.mod_eq_of_lt hGN],by omega,(uh H0).1,(uh H0).2⟩
     case round=>
      clear H0 hs
      obtain⟨t,T,A,s,base,r,L,Q,rfl,htj,rfl,hs,S,Y⟩:=hrel
      generalize wr=wy at *
      clear wr
      by_cases hlt2:t<j
      ·skip
       -- ARM del
       have hlt3:((t:Int)<j)=True:=by simp;omega
       have c3:=S.bs.c
       obtain⟨d0,d1,d2⟩:=S.d
       obtain⟨x,hx⟩:∃x,(G+t) % j=x:=⟨_,rfl⟩
       have hxN:x<j:=by rw[<-hx];exact Nat.mod_lt _ (by omega)
       have hkA:kA G j t=x * 7 % 120:=by unfold kA;rw[hx]
       obtain⟨k,hk⟩:∃k,kA G j t=k:=⟨_,rfl⟩
       have hk120:k<120:=by rw[<-hk];exact kA_lt _ _ _
       have hki:(x:Int) * 7 % 120=(k:Nat):=by rw[<-hk,hkA];omega
       have hin:(kyB k,k)∈L:=by have:=Y.mem t (Nat.le_refl _) hlt2;rw[hk] at this;exact this
       obtain⟨q,hq⟩:∃q,wy.heap.size=q:=⟨_,rfl⟩
       obtain⟨Wk,hWk⟩:∃W,wy.alloc (.cells #[.int .i64 (k:Nat)] 3)=W:=⟨_,rfl⟩
       obtain⟨Wg,hWg⟩:∃W,Wk.alloc (.cells #[.bool false] 4)=W:=⟨_,rfl⟩
       have zk:Wk.heap.size=q+1:=by rw[<-hWk];simp[hq]
       have fk:St wy Wk:=hWk▸(Fr.refl _ wy).alloc _
       have fg:St Wk Wg:=hWg▸(Fr.refl _ Wk).alloc _
       have fkg:St wy Wg:=fk.trans' fg nE
       have hck:=S.hc.more (.cells #[.int .i64 (k:Nat)] 3)
       rw[hWk,hq] at hck
       have hcg:=hck.more (.cells #[.bool false] 4)
       rw[hWg,zk] at hcg
       have bk:Box Wg q (.int .i64 (k:Nat)):=by
        have:=Box.new wy (.int .i64 (k:Nat)) 3
        rw[hWk,hq] at this;exact this.kept fg id
       have bg:Box Wg (q+1) (.bool false):=by
        have:=Box.new Wk (.bool false) 4
        rw[hWg,zk] at this;exact this
       have bsk:=S.bs.kept fkg id
       have bhk:=S.bh.kept fkg id
       have brk:=S.br.kept fkg id
       have lq:n1+2<q:=by rw[<-hq];exact S.br.lt
       have sy:=hcg.says []
       rw[homed_nil] at sy
       have lnL:L.length<=120:=by have:=Y.len;omega
       have DO:=del_do (g:=18) (fi:=#[]) (ca:=#[ptr n1,ptr (n1+1),ptr (n1+2),ptr q,ptr (q+1)]) (br:=n1+2) (bg:=q+1) (L':=delP L (kyB k)) hcg (.inl (.inl (by simp[TmX]))) (.inr rfl) (by omega) (fun _ _=>by kernel_rfl) (fun w1 f1=>tmC2 (i:=k) (v:=k) (hcg.toHp.still f1) (by rw[sy];exact S.t) (by omega) (by simp) (by omega) (by omega) hin (f1.cell' bsk.c id) (f1.cell' bhk.c id) (brk.kept f1 id) (f1.cell' bk.c id) (bg.kept f1 id) (fun k hk=>by
        rcases hk with rfl | rfl | rfl | rfl | rfl
        ·exact hcg.hd.ap _ (.inl (.inl (by simp[TmX])))
        ·exact hcg.hd.ap _ (.inl (.inl (by simp[TmX])))
        ·exact hcg.hd.ap _ (.inl (.inl (by simp[TmX])))
        ·exact hcg.hd.ap _ (.inl (.inr rfl))
        ·exact hcg.hd.ap _ (.inr rfl)) (by omega) (by omega)) (by omega)
       have HDO:=Hd DO;have HS:=Hd (ai S (ai Y (ai hcg (ai hx (ai hk (ai bsk (ai bhk bk)))))));have HWk:=Hd hWk;have HWg:=Hd hWg
       have c4:=bsk.c
       rw[<-hWg,<-hWk] at c4
       rw[hx]
       clear DO S Y sy hck hcg fk fg fkg hx hk hkA bk bg bsk bhk brk hWk hWg c3 hin
       have hx7:x<=120:=by omega
       go_wp2_with fail
       rw[uh HWk,uh HWg]
       refine(uh HDO).mono ?_
       clear HDO c4 hki HWk HWg
       rintro e w6 ⟨rfl,fr6,T6,A6,base6,r6,Q6,hc6,br6,bg6,t6⟩
       obtain⟨S,Y,hcg,hx,hk,bsk,bhk,bk⟩:=uh HS
       have nt6:∀z,(z=hb\/z=n1\/z=n1+1\/z=q)->¬(tfoot sb b T z\/z=n1+2\/z=q+1):=fun z hz e=>by
        rcases e with e | e | e
        ·rcases hz with h | h | h | h
         ·exact hcg.hd.ap z (.inl (.inl (.inl h))) e
         ·exact hcg.hd.ap z (.inl (.inl (.inr (.inl h)))) e
         ·exact hcg.hd.ap z (.inl (.inl (.inr (.inr (.inl h))))) e
         ·exact hcg.hd.ap z (.inl (.inr h)) e
        ·omega
        ·omega
       have S7:TmH w w6 n1 b hb sb T6 A6 (s+30729) base6 r6 (delP L (kyB k)) Q6:=⟨hc6.sub (fun k hk=>.inl (.inl hk)) (.inl rfl),t6,bsk.kept fr6 (nt6 _ (by simp)),bhk.kept fr6 (nt6 _ (by simp)),br6,S.d⟩
       have Y7:Lft G j (t+1) (delP L (kyB k)):=by have:=Y.del S.t.ri hN120.2 hlt2;rw[hk] at this;exact this
       have c9:=(bk.kept fr6 (nt6 _ (by simp))).c
       have c7:=S7.bs.c;have c8:=S7.br.c;have c10:=bg6.c
       have nx:(x+1) % j=(G+(t+1)) % j:=by rw[<-hx];exact ring_next G j t (by omega)
       have nxi:((x:Int)+1) % j=(((G+(t+1)) % j:Nat):Int):=by rw[<-nx];rfl
       have sy6:=S7.hc.says []
       rw[homed_nil] at sy6
       have rt6:Rt 2456 20368 (says [] A6) r6 (delP L (kyB k)) Q6:=by rw[sy6];exact S7.t.rt
       have KY:=l11_key k (by omega) w6.drew
       have GT:∀w2,St w6 w2->Calls Tryz.prog 17 #[ptr sb,.int .u64 (r6:Nat),.string (kyB k)] w2 fun e w'=>e = .returned (.tuple #[.int .u64 0,.bool false])/\St w2 w':=fun w2 f2=>by
        have:=y_Get (S7.hc.toHp.still f2) rt6 S7.t.ri (kyB k)
        rw[getP_gone] at this
        exact this
       have CK:∀w2,St w6 w2->Calls Tryz.prog 16 #[ptr sb,.int .u64 (r6:Nat)] w2 _:=fun w2 f2=>y_Check (S7.hc.toHp.still f2) rt6 (by have:=Y7.len;omega)
       have fD:St w6 w6.drew:=(Fr.refl _ w6).drewN 1
       have H7:=Hd (ai S7 (ai Y7 fD));have HK:=Hd KY;have HG:=@Hd _ GT;have HCK:=@Hd _ CK
       clear S Y hcg hx hk bsk bhk bk S7 Y7 hc6 br6 bg6 t6 fr6 HS nx nt6 sy6 rt6 KY GT CK fD
       go_wp2_with fail
       refine wp_region_held_drew (S:=fun w'=>w'.cell? ⟨n1,0,none⟩=some (ptr sb)/\w'.cell? ⟨n1+2,0,none⟩=some (.int .u64 (r6:Nat))/\w'.cell? ⟨q,0,none⟩=some (.int .i64 (k:Nat))) (by kernel_rfl) ⟨c7,c8,c9⟩ (fun hHeld=>?_)
       refine tkO 0 ?_ hHeld rfl ?_ ?_
       rotate_left
       ·intro w q;go_simp;try with_reducible rfl
       simp only[apt,List.set]
       refine tkO 1 ?_ hHeld rfl ?_ ?_
       rotate_left
       ·intro w q;go_simp;try with_reducible rfl
       simp only[apt,List.set]
       refine tkO 2 ?_ hHeld rfl ?_ ?_
       rotate_left
       ·intro w q;go_simp;try with_reducible rfl
       simp only[apt,List.set]
       refine rdO 3 rfl (fun K hK=>?_)
       go_simp
       go_wp2_with fail
       refine(uh HK).mono ?_
       clear HK
       rintro e w11 ⟨rfl,f11⟩
       have g11:St w6 w11:=(uh H7).2.2.trans' f11 nE
       have hS1:w11.cell? ⟨n1,0,none⟩=some (ptr sb)/\w11.cell? ⟨n1+2,0,none⟩=some (.int .u64 (r6:Nat))/\w11.cell? ⟨q,0,none⟩=some (.int .i64 (k:Nat)):=⟨g11.cell' c7 id,g11.cell' c8 id,g11.cell' c9 id⟩
       refine hK.out _ _ hS1 (fun _=>?_)
       clear hK K f11 hHeld
       have KG:=Hd (uh HG w11 g11)
       refine rdO 4 rfl (fun K hK=>?_)
       go_simp
       go_wp2_with fail
       refine(uh KG).mono ?_
       clear KG HG
       rintro e w12 ⟨rfl,f12⟩
       have g12:St w6 w12:=g11.trans' f12 nE
       have hHeld:w12.cell? ⟨n1,0,none⟩=some (ptr sb)/\w12.cell? ⟨n1+2,0,none⟩=some (.int .u64 (r6:Nat))/\w12.cell? ⟨q,0,none⟩=some (.int .i64 (k:Nat)):=⟨g12.cell' c7 id,g12.cell' c8 id,g12.cell' c9 id⟩
       refine hK.out _ _ hHeld (fun _=>?_)
       clear hK K f12 hS1 g11
       refine tkO 5 ?_ hHeld rfl ?_ ?_
       rotate_left
       ·intro w q;go_simp;try with_reducible rfl
       simp only[apt,List.set]
       refine tkO 6 ?_ hHeld rfl ?_ ?_
       rotate_left
       ·intro w q;go_simp;try with_reducible rfl
       simp only[apt,List.set]
       refine tkO 7 ?_ hHeld rfl ?_ ?_
       rotate_left
       ·intro w q;go_simp;try with_reducible rfl
       simp only[apt,List.set]
       refine tkO 8 ?_ hHeld rfl ?_ ?_
       rotate_left
       ·intro w q;go_simp;try with_reducible rfl
       simp only[apt,List.set]
       refine tkO 9 ?_ hHeld rfl ?_ ?_
       rotate_left
       ·intro w q;go_simp;try with_reducible rfl
       simp only[apt,List.set]
       refine wpAnyH_done (by kernel_rfl) ?_ _
       have hh:=hHeld
       clear c7 c8 c9 c10 hHeld
       obtain⟨c7,c8,c9⟩:=hh
       have KC:=Hd (uh HCK w12 g12);have HY:=Hd g12
       clear HCK g12
       obtain⟨t9,ht9⟩:∃t9,t % 10=t9:=⟨_,rfl⟩
       have ht9i:(t:Int) % 10=(t9:Nat):=by rw[<-ht9];rfl
       by_cases e9:t9=9
       ·subst e9
        go_wp2_with fail
        refine(uh KC).mono ?_
        clear KC c7 c8 c9
        rintro e w13 ⟨rfl,f13⟩
        have HZ:=Hd ((uh HY).trans' f13 nE)
        clear f13 HY
        go_wp2_with fail
        obtain⟨S7,Y7,_⟩:=uh H7
        exact⟨⟨t+1,T6,A6,s+30729,base6,r6,_,Q6,by simp,by omega,by rw[nxi],by omega,S7.still (uh HZ),Y7⟩,by simp[intOf];omega⟩
       ·have e9':((t9:Int)=9)=False:=eq_false (by omega)
        have e9b:((t9:Int) == 9)=false:=by rw[beq_eq_false_iff_ne];omega
        clear KC c7 c8 c9
        go_wp2_with fail
        obtain⟨S7,Y7,_⟩:=uh H7
        exact⟨⟨t+1,T6,A6,s+30729,base6,r6,_,Q6,by simp,by omega,by rw[nxi],by omega,S7.still (uh HY),Y7⟩,by simp[intOf];omega⟩
       -- END del
      ·skip
       -- ARM fin
       have et:t=j:=by omega
       subst et
       have hlt3:((t:Int)<t)=False:=by simp
       have hL0:L = []:=List.eq_nil_of_length_eq_zero (by have:=Y.len;omega)
       subst hL0
       have hr0:r=0:=by
        rcases S.t.rt with ⟨e,_,_⟩ | ⟨_,_,_,tr⟩
        ·exact e
        ·exact(tr.ne rfl).elim
       subst hr0
       have sy:=S.hc.says []
       rw[homed_nil] at sy
       have c0:cnt 2456 (ask 2456 (says [] A))=0:=by
        rw[sy]
        have:=S.t.cnt
        simp at this;exact this
       have PC:=h_pieces S.hc.toHp (by rw[sy];exact S.t.st)
       rw[c0] at PC
       have c3:=S.bs.c;have c4:=S.br.c;have c5:=S.bh.c
       have HPC:=Hd PC;have HFW:=Hd S.hc.hd.fr
       clear S Y sy c0 PC
       simp only[Int.natCast_zero] at c4
       go_wp2_with fail
       refine(y_Depth0 _ _).mono ?_
       rintro e w' ⟨rfl,hh⟩
       replace hh:=hh.symm
       subst hh
       go_wp2_with fail
       refine(uh HPC).mono ?_
       clear HPC
       rintro e w10 ⟨vp,rfl,ow,f10⟩
       obtain⟨ap,cap,rfl⟩:∃ap cap,vp = .slice ap 0 cap:=by
        rcases row_form ow with ⟨e,h0⟩ | ⟨gp,capp,e⟩
        ·exact⟨none,0,e⟩
        ·exact⟨_,capp,e⟩
       have fW:=(uh HFW).trans' f10 nE
       have AW:=l11_awake w10 (fun j hj=>fW.cell' (uh HT j hj) id)
       have HAW:=Hd AW;have HFW2:=Hd fW
       clear ow f10 fW AW c3 c4 c5 HFW
       go_wp2_with fail
       refine(uh HAW).mono ?_
       clear HAW
       rintro e w12 ⟨rfl,f12⟩
       have HF:=Hd ((uh HFW2).trans' f12 nE)
       clear f12 HFW2
       go_wp2_with fail
       go_ret
       have f:=uh HF
       exact⟨by simp,f.os,f.tape,f.output,f.size,fun k hk=>f.block k (by omega) id⟩
       -- END fin
     -- END away
   -- END rest
end Go.Proofs.YtbiopjmpdhcjgaaGreatDoor
