/- Joined: Kt Kv Ku Kq KrW. -/
import Derived.Laws.ResultCell
import Derived.Lib.ConvBytes
import Derived.Lib.AppendZerosOnto
import Derived.Shelf.Small.Strs
import Derived.Sort.Walk0
import Derived.Laws.CopyOwn
import Derived.WalkKit
import Derived.WalkSpells
import Derived.WalkLawsBesides
import Derived.Handy
import Derived.Laws.BitsAllLaws
import Derived.Laws.Bits64
import Derived.Laws.MakeOwn
import Derived.LoopTactic
import Derived.BigQuiet
import Derived.BigRegion
import Derived.StillTail
import Derived.Below
import Derived.OwnWalk
import Derived.Deep.OwnRows
import Derived.Maps.AppendAt
import Derived.Laws.AppendOwnNone
import Derived.Laws.EntriesVeiled
import Derived.OwnWalkIn
import Derived.TacticsInMore
import Derived.LoopNIn
import Derived.LoopIn
import Derived.RangeFuncCalls
import Derived.Lib.SlicesCompact
import Derived.Test.YtbiopjmpdhcjgaaGreatDoorRows
import Derived.Deep.QuietTactic
import Derived.Deep.RegionLawGrows
import Derived.RangeFuncNested
import Derived.Sort.BigQuietIn
import Derived.Defers
import Derived.Recover
import Derived.Laws.Bits64b
import Derived.Deep.RegionHeld
import Derived.Test.YtbiopjmpdhcjgaaGreatDoorShelf
import Derived.Lib.TrailingZeros
import Derived.Great.Ranges
import Derived.Great.Walk
import Derived.Laws.Rows
import Derived.Laws.Tables
import Derived.Deep.CutRange
import Derived.Maps.OwnSet
import Derived.Laws.OwnMore
import Derived.Maps.OwnIn
import Derived.Maps.Views
import Derived.Sort.OwnSortedInts
import Derived.Deep.Slices
import Derived.ChangeSame
import Derived.ChangeArms
import Derived.ChangeSlices
import Derived.Test.YtbiopjmpdhcjgaaGreatDoorS38
namespace Go.Proofs.YtbiopjmpdhcjgaaGreatDoor
open Go.RowKit
set_option maxHeartbeats 4000000

section
def PutL (nu sz:Nat) (w:World) (sb b:Nat) (T:Tay) (A:Ab) (br:Nat) (L':List Pr) (w':World):Prop:=
 ∃T' P' r' Q' v',OnxX (fun k=>k=br) w sb b T w' T' sz A P' false/\RtL w' br r' v'/\w'.ownsRow w.heap.size 43 2 v' L'.length (pcl L')/\(∀k,v'.ownBlock=some k->¬tfoot sb b T' k)/\¬tfoot sb b T' br/\Tre nu sz (says P' A) r' L' Q'
section
variable {nu sz:Nat} {w w' w0:World} {hb sb b bs bh br bl bi:Nat} {T:Tay} {A:Ab} {P:List (Int×Int)} {r i:Nat} {L:List Pr} {Q:List Nat}
set_option maxRecDepth 20000 in
theorem trC1 (h:Hp nu sz w hb sb b T A P) (t:Tre nu sz (says P A) r L Q) (hl:L.length<=130) (hP:P.length<=100) (hnu:2 * L.length+30<nu / 4)
  (la:Option Addr) (lc:Nat) (hL:Lf w la lc L) (xa:Nat) (xo n cap:Nat) (x:ByteArray) (u:Nat) (hx:1<=x.size/\x.size<=80) (hu:u<18446744073709551616) (hin:i<n)
  (cs:w.cell? ⟨bs,0,none⟩=some (ptr sb)) (ch:w.cell? ⟨bh,0,none⟩=some (ptr hb)) (Br:RtL w br r (.slice la L.length lc)) (cl:w.cell? ⟨bl,0,none⟩=some (.slice (some ⟨xa,xo,none⟩) n cap)) (ci:w.cell? ⟨bi,0,none⟩=some (.int .i64 (i:Nat)))
  (ck:w.cell? ⟨xa,xo+i * 3+1,none⟩=some (.string x)) (cv:w.cell? ⟨xa,xo+i * 3+2,none⟩=some (.int .u64 (u:Nat)))
  (nt:∀k,k=bs\/k=bh\/k=br\/k=bl\/k=bi\/k=xa\/(∃y,la=some y/\y.block=k)->¬tfoot sb b T k)
  (ne:bs≠br/\bh≠br/\bl≠br/\bi≠br/\xa≠br/\hb≠br/\0≠br) :
  Calls Tryz.prog 30 #[ptr bs,ptr bh,ptr br,ptr bl,ptr bi] w fun e w'=>e = .returned (.tuple #[])/\PutL nu sz w sb b T A br (putP L x u) w':=by
 have fD:St w w.drew:=(Fr.refl _ w).drewN 1
 have PUT:Calls Tryz.prog 11 #[ptr sb,ptr hb,.int .u64 (r:Nat),.string x,.int .u64 (u:Nat)] w.drew _:=y_Put (h.still fD) t.st t.rt t.pk t.ri (by omega) x u hx hu (by omega) (by have:=t.cnt;omega) t.low
 have lbs:bs<w.heap.size:=World.block_lt_of_cell? _ _ cs
 have lbh:bh<w.heap.size:=World.block_lt_of_cell? _ _ ch
 have lbl:bl<w.heap.size:=World.block_lt_of_cell? _ _ cl
 have lbi:bi<w.heap.size:=World.block_lt_of_cell? _ _ ci
 have lxa:xa<w.heap.size:=World.block_lt_of_cell? _ _ ck
 have lbr:=Br.lt
 have cr:w.cell? ⟨br,0,none⟩=some (.int .u64 (r:Nat)):=cOo Br.o 0
 have cr':w.cell? ⟨br,1,none⟩=some (.slice la L.length lc):=cOo Br.o 1
 have hin':((i:Int)<n)=True:=by simp;omega
 have HP:=Hd PUT
 have HX:=Hd (ai h (ai t (ai hl (ai hP (ai hnu (ai Br (ai fD (ai hL (ai hx hu)))))))));have HNT:=@Hd _ nt
 clear PUT h t hl hP hnu Br nt fD hL hx hu
 go_enter Tryz.func30,Tryz.ntmps30
 go_wp2_with fail
 refine wp_region_held_drew (S:=fun w'=>w'.cell? ⟨bs,0,none⟩=some (ptr sb)/\w'.cell? ⟨bh,0,none⟩=some (ptr hb)/\w'.cell? ⟨bl,0,none⟩=some (.slice (some ⟨xa,xo,none⟩) n cap)/\w'.cell? ⟨bi,0,none⟩=some (.int .i64 (i:Nat))/\w'.cell? ⟨xa,xo+i * 3+1,none⟩=some (.string x)/\w'.cell? ⟨xa,xo+i * 3+2,none⟩=some (.int .u64 (u:Nat))) (by kernel_rfl) ⟨cs,ch,cl,ci,ck,cv⟩ (fun hHeld=>?_)
 refine tkO 0 ?_ hHeld rfl ?_ ?_
 rotate_left
 ·intro w q;go_simp;try with_reducible rfl
 simp only[apt,List.set]
 refine tkO 1 ?_ hHeld rfl ?_ ?_
 rotate_left
 ·intro w q;go_simp;try with_reducible rfl
 simp only[apt,List.set]
 refine tkO 2 ?_ hHeld rfl ?_ ?_
 rotate_left
 ·intro w q;go_simp;try with_reducible rfl
 simp only[apt,List.set]
 refine tkO 4 ?_ hHeld rfl ?_ ?_
 rotate_left
 ·intro w q;go_simp;try with_reducible rfl
 simp only[apt,List.set]
 refine tkO 5 ?_ hHeld rfl ?_ ?_
 rotate_left
 ·intro w q;go_simp;try with_reducible rfl
 simp only[apt,List.set]
 refine tkO 6 ?_ hHeld rfl ?_ ?_
 rotate_left
 ·intro w q;go_simp;try with_reducible rfl
 simp only[apt,List.set]
 refine tkO 7 ?_ hHeld rfl ?_ ?_
 rotate_left
 ·intro w q;go_simp;try with_reducible rfl
 simp only[apt,List.set]
 refine tkO 8 ?_ hHeld rfl ?_ ?_
 rotate_left
 ·intro w q;go_simp;try with_reducible rfl
 simp only[apt,List.set]
 refine tkO 9 ?_ hHeld rfl ?_ ?_
 rotate_left
 ·intro w q;go_simp;try with_reducible rfl
 simp only[apt,List.set]
 refine tkO 10 ?_ hHeld rfl ?_ ?_
 rotate_left
 ·intro w q;go_simp;try with_reducible rfl
 simp only[apt,List.set]
 refine tkO 11 ?_ hHeld rfl ?_ ?_
 rotate_left
 ·intro w q;go_simp;try with_reducible rfl
 simp only[apt,List.set]
 refine tkO 12 ?_ hHeld rfl ?_ ?_
 rotate_left
 ·intro w q;go_simp;try with_reducible rfl
 simp only[apt,List.set]
 refine tkO 13 ?_ hHeld rfl ?_ ?_
 rotate_left
 ·intro w q;go_simp;try with_reducible rfl
 simp only[apt,List.set]
 refine tkO 15 ?_ hHeld rfl ?_ ?_
 rotate_left
 ·intro w q;go_simp;try with_reducible rfl
 simp only[apt,List.set]
 refine tkO 17 ?_ hHeld rfl ?_ ?_
 rotate_left
 ·intro w q;go_simp;try with_reducible rfl
 simp only[apt,List.set]
 refine tkO 18 ?_ hHeld rfl ?_ ?_
 rotate_left
 ·intro w q;go_simp;try with_reducible rfl
 simp only[apt,List.set]
 refine tkO 19 ?_ hHeld rfl ?_ ?_
 rotate_left
 ·intro w q;go_simp;try with_reducible rfl
 simp only[apt,List.set]
 refine tkO 20 ?_ hHeld rfl ?_ ?_
 rotate_left
 ·intro w q;go_simp;try with_reducible rfl
 simp only[apt,List.set]
 refine tkO 21 ?_ hHeld rfl ?_ ?_
 rotate_left
 ·intro w q;go_simp;try with_reducible rfl
 simp only[apt,List.set]
 refine tkO 22 ?_ hHeld rfl ?_ ?_
 rotate_left
 ·intro w q;go_simp;try with_reducible rfl
 simp only[apt,List.set]
 refine tkO 23 ?_ hHeld rfl ?_ ?_
 rotate_left
 ·intro w q;go_simp;try with_reducible rfl
 simp only[apt,List.set]
 refine tkO 24 ?_ hHeld rfl ?_ ?_
 rotate_left
 ·intro w q;go_simp;try with_reducible rfl
 simp only[apt,List.set]
 refine tkO 25 ?_ hHeld rfl ?_ ?_
 rotate_left
 ·intro w q;go_simp;try with_reducible rfl
 simp only[apt,List.set]
 refine tkO 26 ?_ hHeld rfl ?_ ?_
 rotate_left
 ·intro w q;go_simp;try with_reducible rfl
 simp only[apt,List.set]
 refine tkO 27 ?_ hHeld rfl ?_ ?_
 rotate_left
 ·intro w q;go_simp;try with_reducible rfl
 simp only[apt,List.set]
 refine wpAnyH_ready (rs:=[3,16]) (by kernel_rfl) (by simp) ?_
 refine AllReadyH.cons rfl (fun K hK=>?_) (AllReadyH.cons rfl (fun K hK=>?_) AllReadyH.nil)
 ·go_simp
  refine hK.out _ _ hHeld (fun _=>?_)
  clear hK K
  refine wpAnyH_ready (rs:=[14,16]) (by kernel_rfl) (by simp) ?_
  refine AllReadyH.cons rfl (fun K hK=>?_) (AllReadyH.cons rfl (fun K hK=>?_) AllReadyH.nil)
  ·go_simp
   go_wp2_with fail
   refine(uh HP).mono ?_
   clear HP
   rintro e w2 ⟨r',rfl,T2,P2,Q2,k2,hk2,o2,l2,ch2,hr2,rt2⟩
   obtain⟨h,t,hl,hP,hnu,Br,fD,hL,hx,hu⟩:=uh HX
   have h2:=(h.still fD).call o2
   have o02:Onx w sb b T w2 T2 sz A P2 false:=o2.after fD
   have hS2:w2.cell? ⟨bs,0,none⟩=some (ptr sb)/\w2.cell? ⟨bh,0,none⟩=some (ptr hb)/\w2.cell? ⟨bl,0,none⟩=some (.slice (some ⟨xa,xo,none⟩) n cap)/\w2.cell? ⟨bi,0,none⟩=some (.int .i64 (i:Nat))/\w2.cell? ⟨xa,xo+i * 3+1,none⟩=some (.string x)/\w2.cell? ⟨xa,xo+i * 3+2,none⟩=some (.int .u64 (u:Nat)):=⟨o02.fr.cell' cs (uh HNT bs (by simp)),o02.fr.cell' ch (uh HNT bh (by simp)),o02.fr.cell' cl (uh HNT bl (by simp)),o02.fr.cell' ci (uh HNT bi (by simp)),o02.fr.cell' ck (uh HNT xa (by simp)),o02.fr.cell' cv (uh HNT xa (by simp))⟩
   have Br2:=Br.kept o02.fr (uh HNT br (by simp))
   have cr2':w2.cell? ⟨br,1,none⟩=some (.slice la L.length lc):=cOo Br2.o 1
   have hL2:Lf w2 la lc L:=hL.kept o02.fr (fun y hy=>uh HNT y.block (.inr (.inr (.inr (.inr (.inr (.inr ⟨y,hy,rfl⟩)))))))
   have WT:=with_put la lc L x u w2 hL2 (by omega) t.ri
   have nt2:∀k,k=bs\/k=bh\/k=br\/k=bl\/k=bi\/k=xa->¬tfoot sb b T2 k:=fun k hk=>o02.other (by rcases hk with rfl | rfl | rfl | rfl | rfl | rfl <;> assumption) (by rcases hk with e | e | e | e | e | e <;> exact uh HNT k (by simp[e]))
   have ri2:Rise (putP L x u):=putP_rise t.ri
   have pk2:Pok (putP L x u):=t.pk.put hx hu
   have ln2:=putP_len x u L
   have few2:=ch2.few
   have cn:=t.cnt
   have HWT:=Hd WT
   have HY:=Hd (ai h2 (ai o02 (ai Br2 (ai nt2 (ai ri2 (ai pk2 (ai rt2 (ai hr2 (ai ch2 (ai t (show L.length<=130/\P.length<=100/\2 * L.length+30<nu / 4/\(putP L x u).length<=L.length+1/\cnt nu (ask nu (says P2 A))<=cnt nu (ask nu (says P A))+20/\P2.length<=P.length+1600 from⟨hl,hP,hnu,ln2,by omega,l2⟩)))))))))))
   refine hK.out _ _ hS2 (fun _=>?_)
   clear hK K WT h2 o02 o2 Br Br2 nt2 ri2 pk2 rt2 hr2 ch2 t hl hP hnu ln2 few2 cn l2 h hL hL2 hx hu fD hk2 HX
   refine rdO 16 rfl (fun K hK=>?_)
   go_simp
   refine hK.out _ _ hS2 (fun _=>?_)
   clear hK K
   refine rdO 28 rfl (fun K hK=>?_)
   go_simp
   go_wp2_with fail
   refine(uh HWT).mono ?_
   clear HWT
   rintro e w3 ⟨v',rfl,rv,f3⟩
   obtain⟨h2,o02,Br2,nt2,ri2,pk2,rt2,hr2,ch2,t,hl,hP,hnu,ln2,cn2,l2⟩:=uh HY
   obtain⟨va,vc,ev⟩:∃va vc,v' = .slice va (putP L x u).length vc:=by
    rcases rowp_form rv with ⟨e,h0⟩ | ⟨gg,cap,e⟩
    ·exact⟨none,0,by rw[e,h0]⟩
    ·exact⟨_,cap,e⟩
   subst ev
   have Br3:=Br2.kept f3 id
   obtain⟨hs1,hs2,hs3,hs4,hs5,hs6⟩:=hS2
   obtain⟨W4,hW4⟩:∃W,(w3.setCell ⟨br,0,none⟩ (.int .u64 0)).setCell ⟨br,1,none⟩ (.slice none 0 0)=W:=⟨_,rfl⟩
   obtain⟨W5,hW5⟩:∃W,W4.setCell ⟨br,0,none⟩ (.int .u64 (r':Nat))=W:=⟨_,rfl⟩
   obtain⟨W6,hW6⟩:∃W,W5.setCell ⟨br,1,none⟩ (.slice va (putP L x u).length vc)=W:=⟨_,rfl⟩
   obtain⟨W7,hW7⟩:∃W,W6.alloc (.cells #[.int .u64 (r':Nat),.slice va (putP L x u).length vc] 35)=W:=⟨_,rfl⟩
   have f34:Fr (fun k=>k=br) w3 W4:=hW4▸((Fr.refl (fun k=>k=br) w3).setCell (.inl rfl) _).setCell (.inl rfl) _
   have f45:Fr (fun k=>k=br) W4 W5:=hW5▸(Fr.refl (fun k=>k=br) W4).setCell (.inl rfl) _
   have f56:Fr (fun k=>k=br) W5 W6:=hW6▸(Fr.refl (fun k=>k=br) W5).setCell (.inl rfl) _
   have f67:St W6 W7:=hW7▸(Fr.refl _ W6).alloc _
   have o4:W4.heap[br]? = some (.cells #[.int .u64 0,.slice none 0 0] 35 (0,0)):=hW4▸heap_setCell_same _ br 1 _ _ (.slice none 0 0) (heap_setCell_same w3 br 0 _ _ (.int .u64 0) Br3.o)
   have o5:W5.heap[br]? = some (.cells #[.int .u64 (r':Nat),.slice none 0 0] 35 (0,0)):=hW5▸heap_setCell_same _ br 0 _ _ (.int .u64 (r':Nat)) o4
   have o6:W6.heap[br]? = some (.cells #[.int .u64 (r':Nat),.slice va (putP L x u).length vc] 35 (0,0)):=hW6▸heap_setCell_same _ br 1 _ _ (.slice va (putP L x u).length vc) o5
   have f24:Fr (fun k=>k=br) w2 W4:=(f3.mono nE).trans' f34 (fun k hk=>.inl hk)
   have f25:=f24.trans' f45 (fun k hk=>.inl hk)
   have f26:=f25.trans' f56 (fun k hk=>.inl hk)
   have HSX:=@Hd _ (fun(w':World) (f:Fr (fun k=>k=br) w2 w')=>show w'.cell? ⟨bs,0,none⟩=some (ptr sb)/\w'.cell? ⟨bh,0,none⟩=some (ptr hb)/\w'.cell? ⟨bl,0,none⟩=some (.slice (some ⟨xa,xo,none⟩) n cap)/\w'.cell? ⟨bi,0,none⟩=some (.int .i64 (i:Nat))/\w'.cell? ⟨xa,xo+i * 3+1,none⟩=some (.string x)/\w'.cell? ⟨xa,xo+i * 3+2,none⟩=some (.int .u64 (u:Nat)) from⟨f.cell' hs1 ne.1,f.cell' hs2 ne.2.1,f.cell' hs3 ne.2.2.1,f.cell' hs4 ne.2.2.2.1,f.cell' hs5 ne.2.2.2.2.1,f.cell' hs6 ne.2.2.2.2.1⟩)
   have h6:=h2.turn f26 (fun k hk=>by rw[hk];exact nt2 br (by simp)) ne.2.2.2.2.2.1 ne.2.2.2.2.2.2
   have SL:=sl_rootV W6 W7 r' (.slice va (putP L x u).length vc) rfl hW7
   have SW:=t_sweepR (h6.still f67) ch2.st (some ⟨W6.heap.size,0,none⟩) 1 [(r',.slice va (putP L x u).length vc)] [Q2] SL rfl (fun j p Q' h1 h2=>by
    match j,h1,h2 with
    | 0,h1,h2=>
     cases (Option.some.inj h1);cases (Option.some.inj h2)
     exact⟨_,rt2,ri2,by omega⟩
    | j+1,h1,_=>simp at h1) (by simp) (by have:=t.cnt;omega)
   have rv6:=row_kept (row_kept (row_kept rv f34 (fun k hk e=>by have:=(rv.lt k hk).1;have:=Br2.lt;have e:k=br:=e;omega)) f45 (fun k hk e=>by have:=(rv.lt k hk).1;have:=Br2.lt;have e:k=br:=e;omega)) f56 (fun k hk e=>by have:=(rv.lt k hk).1;have:=Br2.lt;have e:k=br:=e;omega)
   have HSW:=Hd SW
   have HE:=Hd (show ∀w5 g,To sz W7 sb b T2 A w5 g (P2.length+10 * cnt nu (ask nu (says P2 A)))->HpS nu g->(∀u,ask nu g u=if u ∈ [Q2].flatten then ask nu (says P2 A) u else 0)->(∀i,fi nu<=i->g i=says P2 A i)->PutL nu sz w sb b T A br (putP L x u) w5 from fun w5 g tg sg ak ke=>by
    obtain⟨T5,P5,o5,e5,l5⟩:=tg
    subst e5
    have sw:Swp nu (says P2 A) (says P5 A) Q2:=⟨sg,fun u=>by rw[ak];simp,ke⟩
    have rv7:=own_still rv6 f67
    have nv:∀k,(Value.slice va (putP L x u).length vc).ownBlock=some k->¬tfoot sb b T2 k:=fun k hk ht=>by have:=(rv.lt k hk).1;have:=h2.st.lt k ht;omega
    refine⟨T5,P5,r',Q2,_,(((OnxX.of o02).var f26 (fun k hk=>hk) (fun k hk=>by rw[hk];exact nt2 br (by simp))).quiet f67).trans o5,⟨o5.fr.obj (f67.obj o6 id) (nt2 br (by simp))⟩,row_lo (row_kept rv7 o5.fr (fun k hk=>nv k hk)) o02.fr.size,fun k hk=>o5.other (rv7.lt k hk).2 (nv k hk),o5.other (Nat.lt_of_lt_of_le (Nat.lt_of_lt_of_le Br2.lt f26.size) f67.size) (nt2 br (by simp)),t.put rt2 sw ri2 pk2⟩)
   have c30:w3.cell? ⟨br,0,none⟩=some (.int .u64 (r:Nat)):=cOo Br3.o 0
   have c31:w3.cell? ⟨br,1,none⟩=some (.slice la L.length lc):=cOo Br3.o 1
   have z3:∀o,w3.frozen? ⟨br,o,none⟩=false:=fun o=>by simp[World.frozen?,Br3.o]
   have c40:W4.cell? ⟨br,0,none⟩=some (.int .u64 0):=cOo o4 0
   have z4:W4.frozen? ⟨br,0,none⟩=false:=by simp[World.frozen?,o4]
   have c51:W5.cell? ⟨br,1,none⟩=some (.slice none 0 0):=cOo o5 1
   have z5:W5.frozen? ⟨br,1,none⟩=false:=by simp[World.frozen?,o5]
   have c60:W6.cell? ⟨br,0,none⟩=some (.int .u64 (r':Nat)):=cOo o6 0
   have c61:W6.cell? ⟨br,1,none⟩=some (.slice va (putP L x u).length vc):=cOo o6 1
   have hS3:=uh HSX w3 (f3.mono nE)
   have hS4:=uh HSX W4 f24
   have hS5:=uh HSX W5 f25
   have hS6:=uh HSX W6 f26
   have HW4:=Hd hW4;have HW5:=Hd hW5;have HW6:=Hd hW6;have HW7:=Hd hW7
   refine hK.out _ _ hS3 (fun _=>?_)
   clear hK K h2 o02 Br2 nt2 ri2 pk2 rt2 hr2 ch2 t hl hP hnu ln2 cn2 l2 Br3 hs1 hs2 hs3 hs4 hs5 hs6 f34 f45 f56 f67 o4 o5 o6 f24 f25 f26 HSX h6 SL SW rv6 rv f3 hW4 hW5 hW6 hW7 HY
   refine rdO 29 rfl (fun K hK=>?_)
   go_simp
   rw[uh HW4]
   refine hK.out _ _ hS4 (fun _=>?_)
   clear hK K c30 c31 z3 hS3
   refine rdO 30 rfl (fun K hK=>?_)
   go_simp
   refine hK.out _ _ hS4 (fun _=>?_)
   clear hK K
   refine rdO 31 rfl (fun K hK=>?_)
   go_simp
   rw[uh HW5]
   refine hK.out _ _ hS5 (fun _=>?_)
   clear hK K c40 z4 hS4
   refine rdO 32 rfl (fun K hK=>?_)
   go_simp
   refine hK.out _ _ hS5 (fun _=>?_)
   clear hK K
   refine rdO 33 rfl (fun K hK=>?_)
   go_simp
   rw[uh HW6]
   refine hK.out _ _ hS6 (fun _=>?_)
   clear hK K c51 z5 hS5
   refine wpAnyH_done (by kernel_rfl) ?_ _
   obtain⟨x1,x2,-⟩:=hS6
   go_wp2_with fail
   rw[uh HW7]
   refine(uh HSW).mono ?_
   rintro e w5 ⟨rfl,g,tg,sg,ak,ke,-⟩
   have HQ:=Hd (uh HE w5 g tg sg ak ke)
   clear HSW HE tg sg ak ke
   go_wp2_with fail
   go_end0
   exact⟨rfl,uh HQ⟩
  ·go_simp
   refine hK.out _ _ hHeld (fun _=>?_)
   clear hK K
   refine rdO 14 rfl (fun K hK=>?_)
   go_simp
   go_wp2_with fail
   refine(uh HP).mono ?_
   clear HP
   rintro e w2 ⟨r',rfl,T2,P2,Q2,k2,hk2,o2,l2,ch2,hr2,rt2⟩
   obtain⟨h,t,hl,hP,hnu,Br,fD,hL,hx,hu⟩:=uh HX
   have h2:=(h.still fD).call o2
   have o02:Onx w sb b T w2 T2 sz A P2 false:=o2.after fD
   have hS2:w2.cell? ⟨bs,0,none⟩=some (ptr sb)/\w2.cell? ⟨bh,0,none⟩=some (ptr hb)/\w2.cell? ⟨bl,0,none⟩=some (.slice (some ⟨xa,xo,none⟩) n cap)/\w2.cell? ⟨bi,0,none⟩=some (.int .i64 (i:Nat))/\w2.cell? ⟨xa,xo+i * 3+1,none⟩=some (.string x)/\w2.cell? ⟨xa,xo+i * 3+2,none⟩=some (.int .u64 (u:Nat)):=⟨o02.fr.cell' cs (uh HNT bs (by simp)),o02.fr.cell' ch (uh HNT bh (by simp)),o02.fr.cell' cl (uh HNT bl (by simp)),o02.fr.cell' ci (uh HNT bi (by simp)),o02.fr.cell' ck (uh HNT xa (by simp)),o02.fr.cell' cv (uh HNT xa (by simp))⟩
   have Br2:=Br.kept o02.fr (uh HNT br (by simp))
   have cr2':w2.cell? ⟨br,1,none⟩=some (.slice la L.length lc):=cOo Br2.o 1
   have hL2:Lf w2 la lc L:=hL.kept o02.fr (fun y hy=>uh HNT y.block (.inr (.inr (.inr (.inr (.inr (.inr ⟨y,hy,rfl⟩)))))))
   have WT:=with_put la lc L x u w2 hL2 (by omega) t.ri
   have nt2:∀k,k=bs\/k=bh\/k=br\/k=bl\/k=bi\/k=xa->¬tfoot sb b T2 k:=fun k hk=>o02.other (by rcases hk with rfl | rfl | rfl | rfl | rfl | rfl <;> assumption) (by rcases hk with e | e | e | e | e | e <;> exact uh HNT k (by simp[e]))
   have ri2:Rise (putP L x u):=putP_rise t.ri
   have pk2:Pok (putP L x u):=t.pk.put hx hu
   have ln2:=putP_len x u L
   have few2:=ch2.few
   have cn:=t.cnt
   have HWT:=Hd WT
   have HY:=Hd (ai h2 (ai o02 (ai Br2 (ai nt2 (ai ri2 (ai pk2 (ai rt2 (ai hr2 (ai ch2 (ai t (show L.length<=130/\P.length<=100/\2 * L.length+30<nu / 4/\(putP L x u).length<=L.length+1/\cnt nu (ask nu (says P2 A))<=cnt nu (ask nu (says P A))+20/\P2.length<=P.length+1600 from⟨hl,hP,hnu,ln2,by omega,l2⟩)))))))))))
   refine hK.out _ _ hS2 (fun _=>?_)
   clear hK K WT h2 o02 o2 Br Br2 nt2 ri2 pk2 rt2 hr2 ch2 t hl hP hnu ln2 few2 cn l2 h hL hL2 hx hu fD hk2 HX
   refine rdO 28 rfl (fun K hK=>?_)
   go_simp
   go_wp2_with fail
   refine(uh HWT).mono ?_
   clear HWT
   rintro e w3 ⟨v',rfl,rv,f3⟩
   obtain⟨h2,o02,Br2,nt2,ri2,pk2,rt2,hr2,ch2,t,hl,hP,hnu,ln2,cn2,l2⟩:=uh HY
   obtain⟨va,vc,ev⟩:∃va vc,v' = .slice va (putP L x u).length vc:=by
    rcases rowp_form rv with ⟨e,h0⟩ | ⟨gg,cap,e⟩
    ·exact⟨none,0,by rw[e,h0]⟩
    ·exact⟨_,cap,e⟩
   subst ev
   have Br3:=Br2.kept f3 id
   obtain⟨hs1,hs2,hs3,hs4,hs5,hs6⟩:=hS2
   obtain⟨W4,hW4⟩:∃W,(w3.setCell ⟨br,0,none⟩ (.int .u64 0)).setCell ⟨br,1,none⟩ (.slice none 0 0)=W:=⟨_,rfl⟩
   obtain⟨W5,hW5⟩:∃W,W4.setCell ⟨br,0,none⟩ (.int .u64 (r':Nat))=W:=⟨_,rfl⟩
   obtain⟨W6,hW6⟩:∃W,W5.setCell ⟨br,1,none⟩ (.slice va (putP L x u).length vc)=W:=⟨_,rfl⟩
   obtain⟨W7,hW7⟩:∃W,W6.alloc (.cells #[.int .u64 (r':Nat),.slice va (putP L x u).length vc] 35)=W:=⟨_,rfl⟩
   have f34:Fr (fun k=>k=br) w3 W4:=hW4▸((Fr.refl (fun k=>k=br) w3).setCell (.inl rfl) _).setCell (.inl rfl) _
   have f45:Fr (fun k=>k=br) W4 W5:=hW5▸(Fr.refl (fun k=>k=br) W4).setCell (.inl rfl) _
   have f56:Fr (fun k=>k=br) W5 W6:=hW6▸(Fr.refl (fun k=>k=br) W5).setCell (.inl rfl) _
   have f67:St W6 W7:=hW7▸(Fr.refl _ W6).alloc _
   have o4:W4.heap[br]? = some (.cells #[.int .u64 0,.slice none 0 0] 35 (0,0)):=hW4▸heap_setCell_same _ br 1 _ _ (.slice none 0 0) (heap_setCell_same w3 br 0 _ _ (.int .u64 0) Br3.o)
   have o5:W5.heap[br]? = some (.cells #[.int .u64 (r':Nat),.slice none 0 0] 35 (0,0)):=hW5▸heap_setCell_same _ br 0 _ _ (.int .u64 (r':Nat)) o4
   have o6:W6.heap[br]? = some (.cells #[.int .u64 (r':Nat),.slice va (putP L x u).length vc] 35 (0,0)):=hW6▸heap_setCell_same _ br 1 _ _ (.slice va (putP L x u).length vc) o5
   have f24:Fr (fun k=>k=br) w2 W4:=(f3.mono nE).trans' f34 (fun k hk=>.inl hk)
   have f25:=f24.trans' f45 (fun k hk=>.inl hk)
   have f26:=f25.trans' f56 (fun k hk=>.inl hk)
   have HSX:=@Hd _ (fun(w':World) (f:Fr (fun k=>k=br) w2 w')=>show w'.cell? ⟨bs,0,none⟩=some (ptr sb)/\w'.cell? ⟨bh,0,none⟩=some (ptr hb)/\w'.cell? ⟨bl,0,none⟩=some (.slice (some ⟨xa,xo,none⟩) n cap)/\w'.cell? ⟨bi,0,none⟩=some (.int .i64 (i:Nat))/\w'.cell? ⟨xa,xo+i * 3+1,none⟩=some (.string x)/\w'.cell? ⟨xa,xo+i * 3+2,none⟩=some (.int .u64 (u:Nat)) from⟨f.cell' hs1 ne.1,f.cell' hs2 ne.2.1,f.cell' hs3 ne.2.2.1,f.cell' hs4 ne.2.2.2.1,f.cell' hs5 ne.2.2.2.2.1,f.cell' hs6 ne.2.2.2.2.1⟩)
   have h6:=h2.turn f26 (fun k hk=>by rw[hk];exact nt2 br (by simp)) ne.2.2.2.2.2.1 ne.2.2.2.2.2.2
   have SL:=sl_rootV W6 W7 r' (.slice va (putP L x u).length vc) rfl hW7
   have SW:=t_sweepR (h6.still f67) ch2.st (some ⟨W6.heap.size,0,none⟩) 1 [(r',.slice va (putP L x u).length vc)] [Q2] SL rfl (fun j p Q' h1 h2=>by
    match j,h1,h2 with
    | 0,h1,h2=>
     cases (Option.some.inj h1);cases (Option.some.inj h2)
     exact⟨_,rt2,ri2,by omega⟩
    | j+1,h1,_=>simp at h1) (by simp) (by have:=t.cnt;omega)
   have rv6:=row_kept (row_kept (row_kept rv f34 (fun k hk e=>by have:=(rv.lt k hk).1;have:=Br2.lt;have e:k=br:=e;omega)) f45 (fun k hk e=>by have:=(rv.lt k hk).1;have:=Br2.lt;have e:k=br:=e;omega)) f56 (fun k hk e=>by have:=(rv.lt k hk).1;have:=Br2.lt;have e:k=br:=e;omega)
   have HSW:=Hd SW
   have HE:=Hd (show ∀w5 g,To sz W7 sb b T2 A w5 g (P2.length+10 * cnt nu (ask nu (says P2 A)))->HpS nu g->(∀u,ask nu g u=if u ∈ [Q2].flatten then ask nu (says P2 A) u else 0)->(∀i,fi nu<=i->g i=says P2 A i)->PutL nu sz w sb b T A br (putP L x u) w5 from fun w5 g tg sg ak ke=>by
    obtain⟨T5,P5,o5,e5,l5⟩:=tg
    subst e5
    have sw:Swp nu (says P2 A) (says P5 A) Q2:=⟨sg,fun u=>by rw[ak];simp,ke⟩
    have rv7:=own_still rv6 f67
    have nv:∀k,(Value.slice va (putP L x u).length vc).ownBlock=some k->¬tfoot sb b T2 k:=fun k hk ht=>by have:=(rv.lt k hk).1;have:=h2.st.lt k ht;omega
    refine⟨T5,P5,r',Q2,_,(((OnxX.of o02).var f26 (fun k hk=>hk) (fun k hk=>by rw[hk];exact nt2 br (by simp))).quiet f67).trans o5,⟨o5.fr.obj (f67.obj o6 id) (nt2 br (by simp))⟩,row_lo (row_kept rv7 o5.fr (fun k hk=>nv k hk)) o02.fr.size,fun k hk=>o5.other (rv7.lt k hk).2 (nv k hk),o5.other (Nat.lt_of_lt_of_le (Nat.lt_of_lt_of_le Br2.lt f26.size) f67.size) (nt2 br (by simp)),t.put rt2 sw ri2 pk2⟩)
   have c30:w3.cell? ⟨br,0,none⟩=some (.int .u64 (r:Nat)):=cOo Br3.o 0
   have c31:w3.cell? ⟨br,1,none⟩=some (.slice la L.length lc):=cOo Br3.o 1
   have z3:∀o,w3.frozen? ⟨br,o,none⟩=false:=fun o=>by simp[World.frozen?,Br3.o]
   have c40:W4.cell? ⟨br,0,none⟩=some (.int .u64 0):=cOo o4 0
   have z4:W4.frozen? ⟨br,0,none⟩=false:=by simp[World.frozen?,o4]
   have c51:W5.cell? ⟨br,1,none⟩=some (.slice none 0 0):=cOo o5 1
   have z5:W5.frozen? ⟨br,1,none⟩=false:=by simp[World.frozen?,o5]
   have c60:W6.cell? ⟨br,0,none⟩=some (.int .u64 (r':Nat)):=cOo o6 0
   have c61:W6.cell? ⟨br,1,none⟩=some (.slice va (putP L x u).length vc):=cOo o6 1
   have hS3:=uh HSX w3 (f3.mono nE)
   have hS4:=uh HSX W4 f24
   have hS5:=uh HSX W5 f25
   have hS6:=uh HSX W6 f26
   have HW4:=Hd hW4;have HW5:=Hd hW5;have HW6:=Hd hW6;have HW7:=Hd hW7
   refine hK.out _ _ hS3 (fun _=>?_)
   clear hK K h2 o02 Br2 nt2 ri2 pk2 rt2 hr2 ch2 t hl hP hnu ln2 cn2 l2 Br3 hs1 hs2 hs3 hs4 hs5 hs6 f34 f45 f56 f67 o4 o5 o6 f24 f25 f26 HSX h6 SL SW rv6 rv f3 hW4 hW5 hW6 hW7 HY
   refine rdO 29 rfl (fun K hK=>?_)
   go_simp
   rw[uh HW4]
   refine hK.out _ _ hS4 (fun _=>?_)
   clear hK K c30 c31 z3 hS3
   refine rdO 30 rfl (fun K hK=>?_)
   go_simp
   refine hK.out _ _ hS4 (fun _=>?_)
   clear hK K
   refine rdO 31 rfl (fun K hK=>?_)
   go_simp
   rw[uh HW5]
   refine hK.out _ _ hS5 (fun _=>?_)
   clear hK K c40 z4 hS4
   refine rdO 32 rfl (fun K hK=>?_)
   go_simp
   refine hK.out _ _ hS5 (fun _=>?_)
   clear hK K
   refine rdO 33 rfl (fun K hK=>?_)
   go_simp
   rw[uh HW6]
   refine hK.out _ _ hS6 (fun _=>?_)
   clear hK K c51 z5 hS5
   refine wpAnyH_done (by kernel_rfl) ?_ _
   obtain⟨x1,x2,-⟩:=hS6
   go_wp2_with fail
   rw[uh HW7]
   refine(uh HSW).mono ?_
   rintro e w5 ⟨rfl,g,tg,sg,ak,ke,-⟩
   have HQ:=Hd (uh HE w5 g tg sg ak ke)
   clear HSW HE tg sg ak ke
   go_wp2_with fail
   go_end0
   exact⟨rfl,uh HQ⟩
 ·go_simp
  refine hK.out _ _ hHeld (fun _=>?_)
  clear hK K
  refine rdO 3 rfl (fun K hK=>?_)
  go_simp
  refine hK.out _ _ hHeld (fun _=>?_)
  clear hK K
  refine rdO 14 rfl (fun K hK=>?_)
  go_simp
  go_wp2_with fail
  refine(uh HP).mono ?_
  clear HP
  rintro e w2 ⟨r',rfl,T2,P2,Q2,k2,hk2,o2,l2,ch2,hr2,rt2⟩
  obtain⟨h,t,hl,hP,hnu,Br,fD,hL,hx,hu⟩:=uh HX
  have h2:=(h.still fD).call o2
  have o02:Onx w sb b T w2 T2 sz A P2 false:=o2.after fD
  have hS2:w2.cell? ⟨bs,0,none⟩=some (ptr sb)/\w2.cell? ⟨bh,0,none⟩=some (ptr hb)/\w2.cell? ⟨bl,0,none⟩=some (.slice (some ⟨xa,xo,none⟩) n cap)/\w2.cell? ⟨bi,0,none⟩=some (.int .i64 (i:Nat))/\w2.cell? ⟨xa,xo+i * 3+1,none⟩=some (.string x)/\w2.cell? ⟨xa,xo+i * 3+2,none⟩=some (.int .u64 (u:Nat)):=⟨o02.fr.cell' cs (uh HNT bs (by simp)),o02.fr.cell' ch (uh HNT bh (by simp)),o02.fr.cell' cl (uh HNT bl (by simp)),o02.fr.cell' ci (uh HNT bi (by simp)),o02.fr.cell' ck (uh HNT xa (by simp)),o02.fr.cell' cv (uh HNT xa (by simp))⟩
  have Br2:=Br.kept o02.fr (uh HNT br (by simp))
  have cr2':w2.cell? ⟨br,1,none⟩=some (.slice la L.length lc):=cOo Br2.o 1
  have hL2:Lf w2 la lc L:=hL.kept o02.fr (fun y hy=>uh HNT y.block (.inr (.inr (.inr (.inr (.inr (.inr ⟨y,hy,rfl⟩)))))))
  have WT:=with_put la lc L x u w2 hL2 (by omega) t.ri
  have nt2:∀k,k=bs\/k=bh\/k=br\/k=bl\/k=bi\/k=xa->¬tfoot sb b T2 k:=fun k hk=>o02.other (by rcases hk with rfl | rfl | rfl | rfl | rfl | rfl <;> assumption) (by rcases hk with e | e | e | e | e | e <;> exact uh HNT k (by simp[e]))
  have ri2:Rise (putP L x u):=putP_rise t.ri
  have pk2:Pok (putP L x u):=t.pk.put hx hu
  have ln2:=putP_len x u L
  have few2:=ch2.few
  have cn:=t.cnt
  have HWT:=Hd WT
  have HY:=Hd (ai h2 (ai o02 (ai Br2 (ai nt2 (ai ri2 (ai pk2 (ai rt2 (ai hr2 (ai ch2 (ai t (show L.length<=130/\P.length<=100/\2 * L.length+30<nu / 4/\(putP L x u).length<=L.length+1/\cnt nu (ask nu (says P2 A))<=cnt nu (ask nu (says P A))+20/\P2.length<=P.length+1600 from⟨hl,hP,hnu,ln2,by omega,l2⟩)))))))))))
  refine hK.out _ _ hS2 (fun _=>?_)
  clear hK K WT h2 o02 o2 Br Br2 nt2 ri2 pk2 rt2 hr2 ch2 t hl hP hnu ln2 few2 cn l2 h hL hL2 hx hu fD hk2 HX
  refine rdO 28 rfl (fun K hK=>?_)
  go_simp
  go_wp2_with fail
  refine(uh HWT).mono ?_
  clear HWT
  rintro e w3 ⟨v',rfl,rv,f3⟩
  obtain⟨h2,o02,Br2,nt2,ri2,pk2,rt2,hr2,ch2,t,hl,hP,hnu,ln2,cn2,l2⟩:=uh HY
  obtain⟨va,vc,ev⟩:∃va vc,v' = .slice va (putP L x u).length vc:=by
   rcases rowp_form rv with ⟨e,h0⟩ | ⟨gg,cap,e⟩
   ·exact⟨none,0,by rw[e,h0]⟩
   ·exact⟨_,cap,e⟩
  subst ev
  have Br3:=Br2.kept f3 id
  obtain⟨hs1,hs2,hs3,hs4,hs5,hs6⟩:=hS2
  obtain⟨W4,hW4⟩:∃W,(w3.setCell ⟨br,0,none⟩ (.int .u64 0)).setCell ⟨br,1,none⟩ (.slice none 0 0)=W:=⟨_,rfl⟩
  obtain⟨W5,hW5⟩:∃W,W4.setCell ⟨br,0,none⟩ (.int .u64 (r':Nat))=W:=⟨_,rfl⟩
  obtain⟨W6,hW6⟩:∃W,W5.setCell ⟨br,1,none⟩ (.slice va (putP L x u).length vc)=W:=⟨_,rfl⟩
  obtain⟨W7,hW7⟩:∃W,W6.alloc (.cells #[.int .u64 (r':Nat),.slice va (putP L x u).length vc] 35)=W:=⟨_,rfl⟩
  have f34:Fr (fun k=>k=br) w3 W4:=hW4▸((Fr.refl (fun k=>k=br) w3).setCell (.inl rfl) _).setCell (.inl rfl) _
  have f45:Fr (fun k=>k=br) W4 W5:=hW5▸(Fr.refl (fun k=>k=br) W4).setCell (.inl rfl) _
  have f56:Fr (fun k=>k=br) W5 W6:=hW6▸(Fr.refl (fun k=>k=br) W5).setCell (.inl rfl) _
  have f67:St W6 W7:=hW7▸(Fr.refl _ W6).alloc _
  have o4:W4.heap[br]? = some (.cells #[.int .u64 0,.slice none 0 0] 35 (0,0)):=hW4▸heap_setCell_same _ br 1 _ _ (.slice none 0 0) (heap_setCell_same w3 br 0 _ _ (.int .u64 0) Br3.o)
  have o5:W5.heap[br]? = some (.cells #[.int .u64 (r':Nat),.slice none 0 0] 35 (0,0)):=hW5▸heap_setCell_same _ br 0 _ _ (.int .u64 (r':Nat)) o4
  have o6:W6.heap[br]? = some (.cells #[.int .u64 (r':Nat),.slice va (putP L x u).length vc] 35 (0,0)):=hW6▸heap_setCell_same _ br 1 _ _ (.slice va (putP L x u).length vc) o5
  have f24:Fr (fun k=>k=br) w2 W4:=(f3.mono nE).trans' f34 (fun k hk=>.inl hk)
  have f25:=f24.trans' f45 (fun k hk=>.inl hk)
  have f26:=f25.trans' f56 (fun k hk=>.inl hk)
  have HSX:=@Hd _ (fun(w':World) (f:Fr (fun k=>k=br) w2 w')=>show w'.cell? ⟨bs,0,none⟩=some (ptr sb)/\w'.cell? ⟨bh,0,none⟩=some (ptr hb)/\w'.cell? ⟨bl,0,none⟩=some (.slice (some ⟨xa,xo,none⟩) n cap)/\w'.cell? ⟨bi,0,none⟩=some (.int .i64 (i:Nat))/\w'.cell? ⟨xa,xo+i * 3+1,none⟩=some (.string x)/\w'.cell? ⟨xa,xo+i * 3+2,none⟩=some (.int .u64 (u:Nat)) from⟨f.cell' hs1 ne.1,f.cell' hs2 ne.2.1,f.cell' hs3 ne.2.2.1,f.cell' hs4 ne.2.2.2.1,f.cell' hs5 ne.2.2.2.2.1,f.cell' hs6 ne.2.2.2.2.1⟩)
  have h6:=h2.turn f26 (fun k hk=>by rw[hk];exact nt2 br (by simp)) ne.2.2.2.2.2.1 ne.2.2.2.2.2.2
  have SL:=sl_rootV W6 W7 r' (.slice va (putP L x u).length vc) rfl hW7
  have SW:=t_sweepR (h6.still f67) ch2.st (some ⟨W6.heap.size,0,none⟩) 1 [(r',.slice va (putP L x u).length vc)] [Q2] SL rfl (fun j p Q' h1 h2=>by
   match j,h1,h2 with
   | 0,h1,h2=>
    cases (Option.some.inj h1);cases (Option.some.inj h2)
    exact⟨_,rt2,ri2,by omega⟩
   | j+1,h1,_=>simp at h1) (by simp) (by have:=t.cnt;omega)
  have rv6:=row_kept (row_kept (row_kept rv f34 (fun k hk e=>by have:=(rv.lt k hk).1;have:=Br2.lt;have e:k=br:=e;omega)) f45 (fun k hk e=>by have:=(rv.lt k hk).1;have:=Br2.lt;have e:k=br:=e;omega)) f56 (fun k hk e=>by have:=(rv.lt k hk).1;have:=Br2.lt;have e:k=br:=e;omega)
  have HSW:=Hd SW
  have HE:=Hd (show ∀w5 g,To sz W7 sb b T2 A w5 g (P2.length+10 * cnt nu (ask nu (says P2 A)))->HpS nu g->(∀u,ask nu g u=if u ∈ [Q2].flatten then ask nu (says P2 A) u else 0)->(∀i,fi nu<=i->g i=says P2 A i)->PutL nu sz w sb b T A br (putP L x u) w5 from fun w5 g tg sg ak ke=>by
   obtain⟨T5,P5,o5,e5,l5⟩:=tg
   subst e5
   have sw:Swp nu (says P2 A) (says P5 A) Q2:=⟨sg,fun u=>by rw[ak];simp,ke⟩
   have rv7:=own_still rv6 f67
   have nv:∀k,(Value.slice va (putP L x u).length vc).ownBlock=some k->¬tfoot sb b T2 k:=fun k hk ht=>by have:=(rv.lt k hk).1;have:=h2.st.lt k ht;omega
   refine⟨T5,P5,r',Q2,_,(((OnxX.of o02).var f26 (fun k hk=>hk) (fun k hk=>by rw[hk];exact nt2 br (by simp))).quiet f67).trans o5,⟨o5.fr.obj (f67.obj o6 id) (nt2 br (by simp))⟩,row_lo (row_kept rv7 o5.fr (fun k hk=>nv k hk)) o02.fr.size,fun k hk=>o5.other (rv7.lt k hk).2 (nv k hk),o5.other (Nat.lt_of_lt_of_le (Nat.lt_of_lt_of_le Br2.lt f26.size) f67.size) (nt2 br (by simp)),t.put rt2 sw ri2 pk2⟩)
  have c30:w3.cell? ⟨br,0,none⟩=some (.int .u64 (r:Nat)):=cOo Br3.o 0
  have c31:w3.cell? ⟨br,1,none⟩=some (.slice la L.length lc):=cOo Br3.o 1
  have z3:∀o,w3.frozen? ⟨br,o,none⟩=false:=fun o=>by simp[World.frozen?,Br3.o]
  have c40:W4.cell? ⟨br,0,none⟩=some (.int .u64 0):=cOo o4 0
  have z4:W4.frozen? ⟨br,0,none⟩=false:=by simp[World.frozen?,o4]
  have c51:W5.cell? ⟨br,1,none⟩=some (.slice none 0 0):=cOo o5 1
  have z5:W5.frozen? ⟨br,1,none⟩=false:=by simp[World.frozen?,o5]
  have c60:W6.cell? ⟨br,0,none⟩=some (.int .u64 (r':Nat)):=cOo o6 0
  have c61:W6.cell? ⟨br,1,none⟩=some (.slice va (putP L x u).length vc):=cOo o6 1
  have hS3:=uh HSX w3 (f3.mono nE)
  have hS4:=uh HSX W4 f24
  have hS5:=uh HSX W5 f25
  have hS6:=uh HSX W6 f26
  have HW4:=Hd hW4;have HW5:=Hd hW5;have HW6:=Hd hW6;have HW7:=Hd hW7
  refine hK.out _ _ hS3 (fun _=>?_)
  clear hK K h2 o02 Br2 nt2 ri2 pk2 rt2 hr2 ch2 t hl hP hnu ln2 cn2 l2 Br3 hs1 hs2 hs3 hs4 hs5 hs6 f34 f45 f56 f67 o4 o5 o6 f24 f25 f26 HSX h6 SL SW rv6 rv f3 hW4 hW5 hW6 hW7 HY
  refine rdO 29 rfl (fun K hK=>?_)
  go_simp
  rw[uh HW4]
  refine hK.out _ _ hS4 (fun _=>?_)
  clear hK K c30 c31 z3 hS3
  refine rdO 30 rfl (fun K hK=>?_)
  go_simp
  refine hK.out _ _ hS4 (fun _=>?_)
  clear hK K
  refine rdO 31 rfl (fun K hK=>?_)
  go_simp
  rw[uh HW5]
  refine hK.out _ _ hS5 (fun _=>?_)
  clear hK K c40 z4 hS4
  refine rdO 32 rfl (fun K hK=>?_)
  go_simp
  refine hK.out _ _ hS5 (fun _=>?_)
  clear hK K
  refine rdO 33 rfl (fun K hK=>?_)
  go_simp
  rw[uh HW6]
  refine hK.out _ _ hS6 (fun _=>?_)
  clear hK K c51 z5 hS5
  refine wpAnyH_done (by kernel_rfl) ?_ _
  obtain⟨x1,x2,-⟩:=hS6
  go_wp2_with fail
  rw[uh HW7]
  refine(uh HSW).mono ?_
  rintro e w5 ⟨rfl,g,tg,sg,ak,ke,-⟩
  have HQ:=Hd (uh HE w5 g tg sg ak ke)
  clear HSW HE tg sg ak ke
  go_wp2_with fail
  go_end0
  exact⟨rfl,uh HQ⟩
end
end

section
section
variable {nu sz:Nat} {w w' w0:World} {X:Nat->Prop} {hb sb b br N:Nat} {T:Tay} {A:Ab} {s:Int} {base:Nat->Int}
def TrR (nu sz lo:Nat) (A:Ab) (br:Nat) (L':List Pr) (Y:Nat->Prop) (h:How) (P':List (Int×Int)) (w':World):Prop:=
 h = .well/\∃r' Q' v',(Y br/\∀k,Value.ownBlock v'=some k->Y k)/\RtL w' br r' v'/\w'.ownsRow lo 43 2 v' L'.length (pcl L')/\Tre nu sz (says P' A) r' L' Q'
theorem TrR_stays (nu sz lo:Nat) (A:Ab) (br:Nat) (L':List Pr):StaysY (TrR nu sz lo A br L'):=by
 rintro Y h P w w' F ⟨q,r',Q',v',⟨y1,y2⟩,b1,row,t⟩ hf hn
 exact⟨q,r',Q',v',⟨y1,y2⟩,b1.kept hf (hn br y1),row_kept row hf (fun k hk=>hn k (y2 k hk)),t⟩
theorem put_doL {g:Nat} {fi ca:Array Value} {L':List Pr} (hc:HpC nu sz w0 X w hb sb b T A N True s base) (hX:X br) (hh:hb≠br) (en:∀args w,(callFunc g args).run Tryz.prog w = .ok (.enter g args) w)
  (C:∀w1,St w w1->Calls Tryz.prog g (fi ++ ca) w1 fun e w'=>e = .returned (.tuple #[])/\PutL nu sz w1 sb b T A br L' w') (hs:s+30729<4294967296) :
  Calls Tryz.prog 9 #[ptr sb,.func (.func g) fi ca] w fun e w'=>e = .returned (.int .i64 0)/\Fr (fun k=>tfoot sb b T k\/k=br) w w'/\∃T' A' base' r' Q' v',HpC nu sz w0 (fun k=>X k\/Value.ownBlock v'=some k) w' hb sb b T' A' N True (s+30729) base'/\RtL w' br r' v'/\w'.ownsRow w.heap.size 43 2 v' L'.length (pcl L')/\Tre nu sz (rb base') r' L' Q':=by
 have DO:=hc.doZ (V:=fun k=>k=br) (g:=g) (fi:=fi) (ca:=ca) (R:=TrR nu sz w.heap.size A br L') (fun k hk=>by rw[hk];exact hX) hh (TrR_stays _ _ _ _ _ _) (fun w3 f3=>acts_of en ((C w3 f3).mono (by
  rintro e w4 ⟨rfl,T',P',r',Q',v',o,b1,row,nv,nb,t⟩
  refine⟨.well,rfl,.inl rfl,T',P',fun k=>k=br\/v'.ownBlock=some k,o,fun k hk=>?_,rfl,r',Q',v',⟨.inl rfl,fun k hk=>.inr hk⟩,b1,row_lo row f3.size,t⟩
  rcases hk with rfl | hk
  ·exact⟨b1.lt,nb,.inl rfl⟩
  ·exact⟨(row.lt k hk).2,nv k hk,.inr (row.lt k hk).1⟩))) hs
 unfold DidZ at DO
 refine DO.mono ?_
 rintro e w' ⟨fr,⟨P',T',A',Y,⟨_,r',Q',v',⟨_,y2⟩,b1,row,t⟩,rfl,hc'⟩ | ⟨i,P',T',Y,⟨hi,_⟩,_⟩⟩
 ·rw[hc.says P'] at t
  exact⟨rfl,fr,T',A',_,r',Q',v',hc'.sub (fun k hk=>hk.imp id (y2 k)) (.inl hc.xh),b1,row,t⟩
 ·exact(well_errno hi.symm).elim
end
end
theorem geP_snoc (x:ByteArray) (L:List Pr) (p:Pr):geP x (L ++ [p])=geP x L ++ (if ltK p.1 x then [] else [p]):=by
 unfold geP
 rw[List.filter_append]
 congr 1
 by_cases h:ltK p.1 x
 ·rw[if_pos h,List.filter_cons_of_neg (by simp[h]),List.filter_nil]
 ·rw[if_neg h,List.filter_cons_of_pos (by simp[h]),List.filter_nil]
def cHi (hi:ByteArray) (p:Pr):Bool:=decide (hi.size=0\/ltK p.1 hi)
def wtP (L:List Pr) (x hi:ByteArray) (n:Int):List Pr:=((geP x L).filter (cHi hi)).take n.toNat
theorem rise_filter {hi:ByteArray}:∀{M:List Pr},Rise M->M.filter (cHi hi)=M.takeWhile (cHi hi)
 | [],_=>rfl
 | p :: M,h=>by
  obtain⟨h1,h2⟩:=List.pairwise_cons.1 h
  by_cases c:cHi hi p=true
  ·rw[List.filter_cons_of_pos c,List.takeWhile_cons_of_pos c,rise_filter h2]
  ·rw[List.filter_cons_of_neg c,List.takeWhile_cons_of_neg c]
   refine List.filter_eq_nil_iff.2 fun q hq hc=>c ?_
   have:=of_decide_eq_true hc
   exact decide_eq_true (this.imp id fun e=>ltK_trans (h1 q hq) e)
theorem wtP_is {L:List Pr} (ri:Rise L) (x hi:ByteArray) (n:Int):wtP L x hi n=rgP L x hi n:=by
 unfold wtP rgP
 rw[rise_filter (M:=geP x L) (List.Pairwise.filter _ ri)]
 rfl
theorem take_snoc {α : Type} (F:List α) (p : α) (N:Nat):(F ++ [p]).take N=F.take N ++ (if F.length<N then [p] else []):=by
 rw[List.take_append]
 congr 1
 by_cases h:F.length<N
 ·rw[if_pos h]
  obtain⟨k,hk⟩:∃k,N - F.length=k+1:=⟨N - F.length - 1,by omega⟩
  rw[hk];simp
 ·rw[if_neg h,show N - F.length=0 by omega];rfl
theorem wtP_snoc (L:List Pr) (p:Pr) (x hi:ByteArray) (n:Int):wtP (L ++ [p]) x hi n=wtP L x hi n ++ (if ¬ltK p.1 x/\cHi hi p=true/\((wtP L x hi n).length:Int)<max n 0 then [p] else []):=by
 unfold wtP
 rw[geP_snoc]
 by_cases h:ltK p.1 x
 ·rw[if_pos h,if_neg (fun e=>e.1 h),List.append_nil,List.append_nil]
 ·rw[if_neg h,List.filter_append]
  by_cases c:cHi hi p=true
  ·rw[List.filter_cons_of_pos c,List.filter_nil,take_snoc]
   congr 1
   rw[List.length_take]
   by_cases e:((geP x L).filter (cHi hi)).length<n.toNat
   ·rw[if_pos e,if_pos ⟨h,c,by omega⟩]
   ·rw[if_neg e,if_neg (fun q=>by have:=q.2.2;omega)]
  ·rw[List.filter_cons_of_neg c,List.filter_nil,List.append_nil,if_neg (fun e=>c e.2.1),List.append_nil]
theorem wtP_len (L:List Pr) (x hi:ByteArray) (n:Int):(wtP L x hi n).length<=L.length:=by
 unfold wtP
 rw[List.length_take]
 exact Nat.le_trans (Nat.min_le_right _ _) (Nat.le_trans (List.length_filter_le _ _) (List.length_filter_le _ _))
theorem getP_snoc {x:ByteArray}:∀{L:List Pr} {p:Pr},Rise (L ++ [p])->getP (L ++ [p]) x=if p.1=x then some p.2 else getP L x
 | [],p,_=>by
  by_cases e:p.1=x
  ·simp[getP,e]
  ·simp[getP,e]
 | q :: L,p,h=>by
  rw[List.cons_append] at h
  obtain⟨h1,h2⟩:=List.pairwise_cons.1 h
  have ih:=getP_snoc (x:=x) h2
  have hq:q.1≠p.1:=ltK_ne (h1 p (List.mem_append_right _ (List.mem_singleton.2 rfl)))
  by_cases e:q.1=x
  ·have hp:p.1≠x:=fun e'=>hq (e.trans e'.symm)
   simp[getP,e,hp]
  ·have:getP (q :: (L ++ [p])) x=getP (L ++ [p]) x:=by simp[getP,e]
   rw[List.cons_append,this,ih]
   simp[getP,e]
def pxN (v:Value) (w:World):Nat:=match v with
 | .pointer (some a)=>bxN w a.block
 | _=>0
theorem pxN_box {w:World} {q m:Nat} (h:Box w q (.int .i64 (m:Nat))):pxN (ptr q) w=m:=h.bxN
attribute [local go_sem] Oper.semAt_some
def TrX (hb g n1 q:Nat) (v:Value):Nat->Prop:=fun k=>k=hb\/k=g\/k=n1\/k=n1+1\/k=n1+2\/k=q\/v.ownBlock=some k
structure TrH (w wr:World) (a0:Option Addr) (len0 cap0 m q g n1 b hb sb:Nat) (T:Tay) (A:Ab) (s:Int) (base:Nat->Int) (r:Nat) (la:Option Addr) (lc:Nat) (L:List Pr) (Q:List Nat):Prop where
 hc:HpC 1467 12176 w (TrX hb g n1 q (.slice la L.length lc)) wr hb sb b T A 3072 True s base
 t:Tre 1467 12176 (rb base) r L Q
 len:L.length<=m
 row:wr.ownsRow (n1+3) 43 2 (.slice la L.length lc) L.length (pcl L)
 bl:Box wr g (.slice a0 len0 cap0)
 bs:Box wr n1 (ptr sb)
 bh:Box wr (n1+1) (ptr hb)
 br:RtL wr (n1+2) r (.slice la L.length lc)
 bi:Box wr q (.int .i64 (m:Nat))
 d:0<w.heap.size/\w.heap.size=g/\g<n1/\hb<n1/\g<hb/\n1+2<q
theorem TrH.next {w w6:World} {X:Nat->Prop} {a0:Option Addr} {len0 cap0 m g n1 b hb sb:Nat} {T:Tay} {A:Ab} {s:Int} {base:Nat->Int} {r:Nat} {la:Option Addr} {lc:Nat} {L:List Pr} {Q:List Nat}
  (hc:HpC 1467 12176 w X w6 hb sb b T A 3072 True s base) (hX:∀k,k=hb\/k=g\/k=n1\/k=n1+1\/k=n1+2\/(Value.slice la L.length lc).ownBlock=some k->X k) (t:Tre 1467 12176 (rb base) r L Q) (len:L.length<=m+1) (row:w6.ownsRow (n1+3) 43 2 (.slice la L.length lc) L.length (pcl L))
  (bl:Box w6 g (.slice a0 len0 cap0)) (bs:Box w6 n1 (ptr sb)) (bh:Box w6 (n1+1) (ptr hb)) (br:RtL w6 (n1+2) r (.slice la L.length lc)) (d:0<w.heap.size/\w.heap.size=g/\g<n1/\hb<n1/\g<hb) :
  TrH w (w6.alloc (.cells #[.int .i64 ((m:Int)+1)] 3)) a0 len0 cap0 (m+1) w6.heap.size g n1 b hb sb T A s base r la lc L Q:=by
 have f7:St w6 (w6.alloc (.cells #[.int .i64 ((m:Int)+1)] 3)):=(Fr.refl _ w6).alloc _
 have hc7:=hc.more (.cells #[.int .i64 ((m:Int)+1)] 3)
 refine⟨hc7.sub (fun k hk=>?_) (.inl rfl),t,len,own_still row f7,bl.kept f7 id,bs.kept f7 id,bh.kept f7 id,br.kept f7 id,Box.new w6 (.int .i64 ((m:Int)+1)) 3,⟨d.1,d.2.1,d.2.2.1,d.2.2.2.1,d.2.2.2.2,br.lt⟩⟩
 rcases hk with e | e | e | e | e | e | e
 ·exact .inl (hX k (.inl e))
 ·exact .inl (hX k (.inr (.inl e)))
 ·exact .inl (hX k (.inr (.inr (.inl e))))
 ·exact .inl (hX k (.inr (.inr (.inr (.inl e)))))
 ·exact .inl (hX k (.inr (.inr (.inr (.inr (.inl e))))))
 ·exact .inr e
 ·exact .inl (hX k (.inr (.inr (.inr (.inr (.inr e))))))
structure TgJ (ng:Nat) (M:List Pr) (k:Nat) (G:Nat->Prop) (W:World):Prop where
 ex:∃v,W.heap[ng]? = some (.cells #[v] 33 (0,0))/\W.ownsRow (ng+6) 43 2 v k (pcl (M.take k))/\∀b,Value.ownBlock v=some b->G b
 inc:G ng
 out:∀b,G b->b<W.heap.size/\(b=ng\/ng+6<=b)
 sz:ng+6<=W.heap.size
theorem TgJ.kept {ng:Nat} {M:List Pr} {k:Nat} {G O:Nat->Prop} {W W':World} (h:TgJ ng M k G W) (f:Fr O W W') (ho:∀b,O b->¬G b):TgJ ng M k G W':=by
 obtain⟨v,o,row,hv⟩:=h.ex
 exact⟨⟨v,f.obj o (fun x=>ho _ x h.inc),owns_same row (fun k hk=>f.block k (row.lt k hk).2 (fun x=>ho _ x (hv k hk))),hv⟩,h.inc,fun b hb=>⟨Nat.lt_of_lt_of_le (h.out b hb).1 f.size,(h.out b hb).2⟩,Nat.le_trans h.sz f.size⟩
theorem TgJ.nopair {ng:Nat} {M:List Pr} {k:Nat} {G:Nat->Prop} {W:World} (h:TgJ ng M k G W):∀b,pair (ng+4) b->¬G b:=fun b hb hG=>by
 have:=(h.out b hG).2
 unfold pair at hb
 omega
theorem set_self (t:Array Value) (i:Nat):t.setIfInBounds i (t.getD i undef)=t:=by
 apply Array.ext_getElem?
 intro j
 by_cases h:i=j
 ·subst h
  by_cases hl:i<t.size
  ·simp[hl]
  ·simp[hl]
 ·rw[Array.getElem?_setIfInBounds_ne h]
theorem slots4 {P:Program} {f:FuncId} {c:Code} {Q:Exit->Act->World->Prop} {t:Array Value} {ds:List Deferred} {w:World} (i:Nat) (h:∀a b c' d,wpOf P f c Q { tmps:=(((t.setIfInBounds i a).setIfInBounds (i+1) b).setIfInBounds (i+2) c').setIfInBounds (i+3) d,defers:=ds } w):wpOf P f c Q { tmps:=t,defers:=ds } w:=by
 have:=h (t.getD i undef) (t.getD (i+1) undef) (t.getD (i+2) undef) (t.getD (i+3) undef)
 rwa [set_self,set_self,set_self,set_self] at this
theorem meet_all {G:Prop} {P:Prop} (f:P->G) (p:P):G:=f p
theorem wpOf_named2 {P:Program} {f:FuncId} {c:Code} {Q:Exit->Act->World->Prop} {a:Act} {w:World} (h:∀a',a'=a->wpOf P f c Q a' w):wpOf P f c Q a w:=h a rfl
set_option maxRecDepth 100000 in
theorem ranges_ok (a0:Option Addr) (len0 cap0:Nat) (lo hi:ByteArray) (n:Int) (key:ByteArray) (w:World) (z:Nat->OpK) (t0:OpsK w a0 len0 z) (tab:TabL w) :
  Calls Tryz.prog 6 #[.slice a0 len0 cap0,.string lo,.string hi,.int .i64 n,.string key] w fun e w'=>e = .returned (.bool true)/\Below w.heap.size w w':=by
 have h1:=eq_nil_heap
 have h2:=mf
 obtain⟨g,hg⟩:∃g,w.heap.size=g:=⟨_,rfl⟩
 have l0:0<g:=by rw[<-hg];exact World.block_lt_of_cell? _ _ (tab 0 (by omega))
 obtain⟨WA,hWA⟩:∃WA,w.alloc (.cells #[.slice a0 len0 cap0] 52)=WA:=⟨_,rfl⟩
 have fA:St w WA:=hWA▸(Fr.refl _ w).alloc _
 have zA:WA.heap.size=g+1:=by rw[<-hWA];simp[hg]
 have blA:Box WA g (.slice a0 len0 cap0):=by
  have:=Box.new w (.slice a0 len0 cap0) 52
  rw[hWA,hg] at this;exact this
 have K:Calls Tryz.prog 8 #[.int .i64 24576] WA _:=l8_open geo24 (N:=3072) (by omega) WA (fun j hj=>fA.cell' (tab j hj) id)
 have HK:=Hd K;have HT:=Hd tab;have HB:=Hd (ai blA (ai fA zA));have HWA:=Hd hWA;have HT0:=@Hd _ t0
 clear K tab blA fA zA hWA t0
 refine calls_of_wpOf Tryz.func6 rfl ?_
 simp only[Tryz.ntmps6,List.size_toArray,List.length_cons,List.length_nil,Nat.reduceAdd,Nat.reduceSub,Array.replicate_succ,Array.replicate_zero,List.push_toArray,List.append_toArray,List.nil_append,List.cons_append]
 refine wpOf_seq (wpOf_of_wp ?_)
 go_wp2
 rw[uh HWA,hg]
 show wpOf _ _ _ _ _ _
 refine wpOf_seq (wpOf_of_wp ?_)
 go_wp2_with fail
 refine(uh HK).mono ?_
 clear HK
 rintro e w1 ⟨b,sb,hb,T,A,base,rfl,hc,nw⟩
 obtain⟨W1,hW1⟩:∃W1,w1.alloc (.cells #[ptr sb] 23)=W1:=⟨_,rfl⟩
 obtain⟨W2,hW2⟩:∃W2,W1.alloc (.cells #[ptr hb] 24)=W2:=⟨_,rfl⟩
 obtain⟨W3,hW3⟩:∃W3,W2.alloc (.cells #[.int .u64 0,.slice none 0 0] 35)=W3:=⟨_,rfl⟩
 obtain⟨W4,hW4⟩:∃W4,W3.alloc (.cells #[.int .i64 0] 3)=W4:=⟨_,rfl⟩
 obtain⟨n1,hn1⟩:∃n1,w1.heap.size=n1:=⟨_,rfl⟩
 have z1:W1.heap.size=n1+1:=by rw[<-hW1];simp[hn1]
 have z2:W2.heap.size=n1+2:=by rw[<-hW2];simp;omega
 have z3:W3.heap.size=n1+3:=by rw[<-hW3];simp;omega
 have f12:St W1 W2:=hW2▸(Fr.refl _ W1).alloc _
 have f23:St W2 W3:=hW3▸(Fr.refl _ W2).alloc _
 have f34:St W3 W4:=hW4▸(Fr.refl _ W3).alloc _
 have f24:St W2 W4:=f23.trans' f34 nE
 have f14:St W1 W4:=f12.trans' f24 nE
 have f04:St w1 W4:=(hW1▸(Fr.refl _ w1).alloc _:St w1 W1).trans' f14 nE
 obtain⟨blA,fA,zA⟩:=uh HB
 have hc1:=hc.more (.cells #[ptr sb] 23)
 rw[hW1,hn1] at hc1
 have hc2:=hc1.more (.cells #[ptr hb] 24)
 rw[hW2,z1] at hc2
 have hc3:=hc2.more (.cells #[.int .u64 0,.slice none 0 0] 35)
 rw[hW3,z2] at hc3
 have hc4:=hc3.more (.cells #[.int .i64 0] 3)
 rw[hW4,z3] at hc4
 have lhb:hb<n1:=by rw[<-hn1];exact(hc.hd.xl hb hc.xh).2
 have ghb:g<hb:=by have:=(hc.hd.xl hb hc.xh).1;omega
 have lz:g+1<=n1:=by have:=hc.hd.fr.size;omega
 have hcB:=hc4.back (w0:=w) (Y:=TrX hb g n1 (n1+3) (.slice none ([]:List Pr).length 0)) fA (by omega) (fun k hk=>by
  rcases hk with rfl | rfl | rfl | rfl | rfl | rfl | hk
  ·exact .inl (.inl (.inl (.inl (.inl rfl))))
  ·exact .inr ⟨by omega,by omega⟩
  ·exact .inl (.inl (.inl (.inl (.inr rfl))))
  ·exact .inl (.inl (.inl (.inr rfl)))
  ·exact .inl (.inl (.inr rfl))
  ·exact .inl (.inr rfl)
  ·cases hk) (.inl rfl)
 have bh2:Box W2 (n1+1) (ptr hb):=by
  have:=Box.new W1 (ptr hb) 24
  rw[hW2,z1] at this;exact this
 have st0:TrH w W4 a0 len0 cap0 0 (n1+3) g n1 b hb sb T A 43021 base 0 none 0 [] []:=by
  refine⟨hcB,Tre.new nw,Nat.le_refl _,World.ownsRow_nil _ _ _ _,?_,?_,bh2.kept f24 id,⟨?_⟩,?_,⟨by omega,hg,by omega,lhb,ghb,by omega⟩⟩
  ·exact(blA.kept hc.hd.fr id).kept f04 id
  ·have:=Box.new w1 (ptr sb) 23
   rw[hW1,hn1] at this;exact this.kept f14 id
  ·have:=heap_alloc_new W2 (.cells #[.int .u64 0,.slice none 0 0] 35)
   rw[hW3,z2] at this;exact f34.obj this id
  ·have:=Box.new W3 (.int .i64 0) 3
   rw[hW4,z3] at this;exact this
 have bhc:=bh2.c
 rw[<-hW2,<-hW1] at bhc
 have HST:=Hd st0;have HW:=Hd (ai hW1 hW2);have HW3:=Hd hW3;have HW4:=Hd hW4
 clear hc hc1 hc2 hc3 hc4 hcB nw st0 f12 f23 f34 f24 f14 f04 bh2 blA fA zA hW1 hW2 hW3 hW4 HB HWA
 go_wp2
 rw[(uh HW).1,(uh HW).2]
 show wpOf _ _ _ _ _ _
 refine wpOf_seq (wpOf_of_wp ?_)
 rw[(uh HW).1,(uh HW).2] at bhc
 go_wp2
 show wpOf _ _ _ _ _ _
 refine wpOf_seq (wpOf_of_wp ?_)
 clear bhc
 go_wp2
 rw[uh HW3]
 show wpOf _ _ _ _ _ _
 refine wpOf_seq (wpOf_of_wp ?_)
 go_wp2_with fail
 rw[uh HW4]
 clear HW3 HW4 HW z1 z2 z3
 go_loopw [15] (fun iv wr=>∃(m q:Nat) (T:Tay) (A:Ab) (s:Int) (base:Nat->Int) (r:Nat) (la:Option Addr) (lc:Nat) (L:List Pr) (Q:List Nat),iv=ptr q/\m<=40/\m<=len0/\s<=43021+30729 * m/\TrH w wr a0 len0 cap0 m q g n1 b hb sb T A s base r la lc L Q) (fun iv wr=>40 - pxN iv wr)
 case atStart=>exact⟨0,n1+3,T,A,43021,base,0,none,0,[],[],rfl,by omega,by omega,by omega,uh HST⟩
 case round=>
  clear HST
  obtain⟨m,q,T,A,s,base,r,la,lc,L,Q,rfl,hm40,hml,hs,S⟩:=hrel
  generalize wr=wq at *
  clear wr
  have c1:=S.bi.c;have c2:=S.bl.c
  by_cases hlt:m<len0/\m<40
  ·have hlt1:((m:Int)<len0)=True:=by simp;omega
   have hlt2:((m:Int)<40)=True:=by simp;omega
   have c3:=S.bs.c
   obtain⟨d0,d1,d2,d3,d4,d5⟩:=S.d
   obtain⟨⟨xa,xo,ea,-,ck,cv⟩,hv⟩:=uh HT0 m hlt.1
   have lxa:xa<g:=by rw[<-d1];exact World.block_lt_of_cell? _ _ ck
   subst ea
   replace ck:=S.hc.hd.fr.cell' ck id
   replace cv:=S.hc.hd.fr.cell' cv id
   by_cases hk:1<=(z m).key.size/\(z m).key.size<=80
   ·skip
    have hk1:(((z m).key.size:Int)<1)=False:=by simp;omega
    have hk2:((80:Int)<(z m).key.size)=False:=by simp;omega
    have sy:=S.hc.says []
    rw[homed_nil] at sy
    have DO:=put_doL (g:=30) (fi:=#[]) (ca:=#[ptr n1,ptr (n1+1),ptr (n1+2),ptr g,ptr q]) (br:=n1+2) (L':=putP L (z m).key (z m).v) S.hc (by simp[TrX]) (by omega) (fun _ _=>by kernel_rfl) (fun w1 f1=>trC1 (i:=m) (S.hc.toHp.still f1) (by rw[sy];exact S.t) (by have:=S.len;omega) (by simp) (by have:=S.len;omega) la lc ((sl_of_row S.row pcl_one).still f1) xa xo len0 cap0 (z m).key (z m).v hk hv hlt.1 (f1.cell' S.bs.c id) (f1.cell' S.bh.c id) (S.br.kept f1 id) (f1.cell' S.bl.c id) (f1.cell' S.bi.c id) (f1.cell' ck id) (f1.cell' cv id) (fun k hk=>by
     rcases hk with rfl | rfl | rfl | rfl | rfl | rfl | ⟨y,rfl,rfl⟩
     ·exact S.hc.hd.ap _ (by simp[TrX])
     ·exact S.hc.hd.ap _ (by simp[TrX])
     ·exact S.hc.hd.ap _ (by simp[TrX])
     ·exact S.hc.hd.ap _ (by simp[TrX])
     ·exact S.hc.hd.ap _ (by simp[TrX])
     ·exact fun ht=>by have:=S.hc.hd.new _ ht;omega
     ·exact S.hc.hd.ap _ (.inr (.inr (.inr (.inr (.inr (.inr rfl))))))) (by omega)) (by omega)
    have HDO:=Hd DO;have HS:=Hd S
    clear DO S sy
    go_wp2_with fail
    refine(uh HDO).mono ?_
    clear HDO ck cv c1 c2 c3
    rintro e w6 ⟨rfl,fr6,T6,A6,base6,r6,Q6,v6,hc6,br6,row6,t6⟩
    obtain⟨la6,lc6,ev⟩:∃va vc,v6 = .slice va (putP L (z m).key (z m).v).length vc:=by
     rcases rowp_form row6 with ⟨e,h0⟩ | ⟨gg,cap,e⟩
     ·exact⟨none,0,by rw[e,h0]⟩
     ·exact⟨_,cap,e⟩
    subst ev
    have S:=uh HS
    have nx:∀k,k≠n1+2->TrX hb g n1 q (.slice la L.length lc) k->¬(tfoot sb b T k\/k=n1+2):=fun k h2 hk e=>e.elim (S.hc.hd.ap k hk) h2
    have bi6:=S.bi.kept fr6 (nx _ (by omega) (by simp[TrX]))
    have S7:=TrH.next (m:=m) hc6 (fun k hk=>by
     rcases hk with e | e | e | e | e | e
     ·exact .inl (.inl e)
     ·exact .inl (.inr (.inl e))
     ·exact .inl (.inr (.inr (.inl e)))
     ·exact .inl (.inr (.inr (.inr (.inl e))))
     ·exact .inl (.inr (.inr (.inr (.inr (.inl e)))))
     ·exact .inr e) t6 (Nat.le_trans (putP_len _ _ _) (by have:=S.len;omega)) (row_lo row6 (by have:=S.bi.lt;omega)) (S.bl.kept fr6 (nx _ (by omega) (by simp[TrX]))) (S.bs.kept fr6 (nx _ (by omega) (by simp[TrX]))) (S.bh.kept fr6 (nx _ (by omega) (by simp[TrX]))) br6 ⟨d0,d1,d2,d3,d4⟩
    clear hc6 br6 row6 t6 fr6 nx HS hk1 hk2
    have px:=pxN_box S.bi;have px7:=pxN_box S7.bi
    have c6:=bi6.c
    have HS7:=Hd S7;have HPX:=Hd (ai px px7)
    clear S7 px px7 S bi6
    go_wp2
    refine⟨⟨m+1,w6.heap.size,_,_,_,_,_,_,_,_,_,rfl,by omega,by omega,by omega,uh HS7⟩,?_⟩
    obtain⟨px,px7⟩:=uh HPX
    rw[px]
    have px7':pxN (.pointer (some ⟨w6.heap.size,0,none⟩)) (w6.alloc (.cells #[.int .i64 ((m:Int)+1)] 3))=m+1:=px7
    rw[px7']
    omega
   ·skip
    have bi6:=S.bi
    have S7:=TrH.next (m:=m) S.hc (fun k hk=>by
     rcases hk with e | e | e | e | e | e
     ·exact .inl e
     ·exact .inr (.inl e)
     ·exact .inr (.inr (.inl e))
     ·exact .inr (.inr (.inr (.inl e)))
     ·exact .inr (.inr (.inr (.inr (.inl e))))
     ·exact .inr (.inr (.inr (.inr (.inr (.inr e)))))) S.t (by have:=S.len;omega) S.row S.bl S.bs S.bh S.br ⟨d0,d1,d2,d3,d4⟩
    rcases (show(z m).key.size<1\/(1<=(z m).key.size/\80<(z m).key.size) by omega) with hk3 | hk3
    ·have hk1:(((z m).key.size:Int)<1)=True:=by simp;omega
     have px:=pxN_box S.bi;have px7:=pxN_box S7.bi
     have c6:=bi6.c
     have HS7:=Hd S7;have HPX:=Hd (ai px px7)
     clear S7 px px7 S bi6
     go_wp2
     refine⟨⟨m+1,wq.heap.size,_,_,_,_,_,_,_,_,_,rfl,by omega,by omega,by omega,uh HS7⟩,?_⟩
     obtain⟨px,px7⟩:=uh HPX
     rw[px]
     have px7':pxN (.pointer (some ⟨wq.heap.size,0,none⟩)) (wq.alloc (.cells #[.int .i64 ((m:Int)+1)] 3))=m+1:=px7
     rw[px7']
     omega
    ·have hk1:(((z m).key.size:Int)<1)=False:=by simp;omega
     have hk2:((80:Int)<(z m).key.size)=True:=by simp;omega
     have px:=pxN_box S.bi;have px7:=pxN_box S7.bi
     have c6:=bi6.c
     have HS7:=Hd S7;have HPX:=Hd (ai px px7)
     clear S7 px px7 S bi6
     go_wp2
     refine⟨⟨m+1,wq.heap.size,_,_,_,_,_,_,_,_,_,rfl,by omega,by omega,by omega,uh HS7⟩,?_⟩
     obtain⟨px,px7⟩:=uh HPX
     rw[px]
     have px7':pxN (.pointer (some ⟨wq.heap.size,0,none⟩)) (wq.alloc (.cells #[.int .i64 ((m:Int)+1)] 3))=m+1:=px7
     rw[px7']
     omega
  ·skip
   obtain⟨d0,d1,d2,d3,d4,d5⟩:=S.d
   have HS:=Hd S
   clear S
   have hAB:((m:Int)<len0)=False\/(((m:Int)<len0)=True/\((m:Int)<40)=False):=by
    rcases (show len0<=m\/(m<len0/\40<=m) by omega) with hA | hA
    ·exact .inl (by simp;omega)
    ·exact .inr ⟨by simp;omega,by simp;omega⟩
   apply meet_all
   ·intro hP
    have HP:=@Hd _ hP
    clear hP
    rcases hAB with hlt1 | ⟨hlt1,hlt2⟩
    ·go_wp2
     show wpOf _ _ _ _ _ _
     refine slots4 38 ?_
     simp only[List.setIfInBounds_toArray,List.set_cons_zero,List.set_cons_succ,Nat.reduceAdd]
     exact uh HP
    ·go_wp2
     show wpOf _ _ _ _ _ _
     refine slots4 38 ?_
     simp only[List.setIfInBounds_toArray,List.set_cons_zero,List.set_cons_succ,Nat.reduceAdd]
     exact uh HP
   ·intro s38 s39 s40 s41
    clear hAB
    have S:=uh HS
    have cL:wq.cell? ⟨n1+2,1,none⟩=some (.slice la L.length lc):=cOo S.br.o 1
    have hSL:Lf wq la lc L:=sl_of_row S.row pcl_one
    have ri:=S.t.ri
    have hL40:L.length<=40:=by have:=S.len;omega
    have HCL:=Hd (ai cL (ai hSL ri))
    clear S cL hSL ri
    refine wpOf_seq (wpOf_of_wp ?_)
    go_wp2
    show wpOf _ _ _ _ _ _
    refine wpOf_seq (wpOf_of_wp ?_)
    go_wp2
    show wpOf _ _ _ _ _ _
    refine wpOf_seq (wpOf_of_wp ?_)
    go_wp2_with fail
    go_loopw [17,18,19,20,21] (fun wv av atv inv iv wr=>∃(j:Nat),j<=L.length/\iv = .int .i64 j/\wr.ownsRow wq.heap.size 43 2 wv (wtP (L.take j) lo hi n).length (pcl (wtP (L.take j) lo hi n))/\wr.ownsRow wq.heap.size 43 2 av (geP lo (L.take j)).length (pcl (geP lo (L.take j)))/\(∀k,Value.ownBlock wv=some k->Value.ownBlock av≠some k)/\atv = .int .u64 (((getP (L.take j) key).getD 0:Nat):Int)/\inv = .bool (getP (L.take j) key).isSome/\St wq wr) (fun _ _ _ _ iv _=>L.length - (intOf iv).toNat)
    case atStart=>
     have e1:wtP (L.take 0) lo hi n = []:=by simp[wtP,geP]
     have e2:geP lo (L.take 0) = []:=by simp[geP]
     refine⟨0,Nat.zero_le _,rfl,?_,?_,(fun k hk=>by cases hk),by simp[getP],by simp[getP],Fr.refl _ _⟩
     ·rw[e1];exact World.ownsRow_nil _ _ _ _
     ·rw[e2];exact World.ownsRow_nil _ _ _ _
    case round=>
     obtain⟨j,hjl,rfl,rw1,ra1,dj,rfl,rfl,fr⟩:=hrel
     obtain⟨cL,hSL,ri⟩:=uh HCL
     replace cL:=fr.cell' cL id
     by_cases hlt:j<L.length
     ·skip
      obtain⟨p,hp⟩:∃p,L[j]? = some p:=⟨_,List.getElem?_eq_getElem (by omega)⟩
      obtain⟨b0,o0,rfl,k1,k2⟩:=hSL.pair hp
      replace k1:=fr.cell' k1 id
      replace k2:=fr.cell' k2 id
      have hlt':((j:Int)<L.length)=True:=by simp;omega
      have et:L.take (j+1)=L.take j ++ [p]:=by rw[List.take_add_one,hp];rfl
      have ri2:Rise (L.take j ++ [p]):=by rw[<-et];exact ri.sublist (List.take_sublist _ _)
      have gs:=getP_snoc (x:=key) ri2
      obtain⟨wa,wcp,ew⟩:∃va vc,u17 = .slice va (wtP (L.take j) lo hi n).length vc:=by
       rcases rowp_form rw1 with ⟨e,h0⟩ | ⟨gg,cap,e⟩
       ·exact⟨none,0,by rw[e,h0]⟩
       ·exact⟨_,cap,e⟩
      subst ew
      obtain⟨wl,hwl⟩:∃wl,(wtP (L.take j) lo hi n).length=wl:=⟨_,rfl⟩
      rw[hwl] at rw1 dj
      have wl40:wl<=40:=by rw[<-hwl];exact Nat.le_trans (wtP_len _ _ _ _) (by rw[List.length_take];omega)
      have HR:=Hd (ai rw1 (ai ra1 (ai dj fr)))
      have HP2:=Hd (ai et (ai gs hwl))
      clear rw1 ra1 dj fr et gs hSL ri ri2 hp
      rw[hwl]
      clear hwl
      go_upto_if 87 with fail
      go_cut [17,18] from 85 to 117 (fun s17 s18 wx=>wx.ownsRow wq.heap.size 43 2 s17 (wtP (L.take (j+1)) lo hi n).length (pcl (wtP (L.take (j+1)) lo hi n))/\wx.ownsRow wq.heap.size 43 2 s18 (geP lo (L.take (j+1))).length (pcl (geP lo (L.take (j+1))))/\(∀k,Value.ownBlock s17=some k->Value.ownBlock s18≠some k)/\St wq wx)
      case first=>
       have lx:=less_eq p.1 lo
       by_cases hge:ltK p.1 lo
       ·rw[decide_eq_true hge] at lx
        have HG:=Hd hge
        clear hge
        rw[lx,Bool.not_true]
        go_wp2
        go_meet
        case rel=>
         obtain⟨rw1,ra1,dj,fr⟩:=uh HR
         obtain⟨et,gs,hwl⟩:=uh HP2
         have e1:wtP (L.take (j+1)) lo hi n=wtP (L.take j) lo hi n:=by rw[et,wtP_snoc,if_neg (fun e=>e.1 (uh HG)),List.append_nil]
         have e2:geP lo (L.take (j+1))=geP lo (L.take j):=by rw[et,geP_snoc,if_pos (uh HG),List.append_nil]
         rw[e1,e2,hwl]
         exact⟨rw1,ra1,dj,fr⟩
       ·rw[decide_eq_false hge] at lx
        rw[lx,Bool.not_false]
        obtain⟨rw1,ra1,dj,fr⟩:=uh HR
        obtain⟨et,gs,hwl⟩:=uh HP2
        obtain⟨W1,hW1⟩:∃W1,wr.alloc (.cells #[.string p.1,.int .u64 (p.2:Nat)] 43)=W1:=⟨_,rfl⟩
        have f1:St wr W1:=hW1▸(Fr.refl _ wr).alloc _
        obtain⟨av,w2,hap,ra2,hgr,hloc⟩:=run_more elt_Q 33 (own_still ra1 f1) (sl_pair wr W1 p hW1) (by have:=ge_len lo (L.take j);rw[List.length_take] at this;omega) (Nat.le_trans fr.size f1.size)
        have f1w:St wq W1:=fr.trans' f1 nE
        have f2w:St wq w2:=f1w.grown hgr (fun k hk=>.inr (ra1.lt k hk).1)
        have e2:geP lo (L.take (j+1))=geP lo (L.take j) ++ [p]:=by rw[et,geP_snoc,if_neg hge]
        have rw2:w2.ownsRow wq.heap.size 43 2 (.slice wa wl wcp) wl (pcl (wtP (L.take j) lo hi n)):=row_kept (own_still rw1 f1) (((Fr.refl (fun k=>u18.ownBlock=some k) W1)).grown hgr (fun k hk=>.inl hk)) (fun k hk e=>dj k hk e)
        have ra3:w2.ownsRow wq.heap.size 43 2 av (geP lo (L.take (j+1))).length (pcl (geP lo (L.take (j+1)))):=by
         rw[e2,pcl_app,List.length_append];exact ra2
        have dj2:∀k,(Value.slice wa wl wcp).ownBlock=some k->av.ownBlock≠some k:=fun k hk e=>by
         rcases hloc with h | h
         ·exact dj k hk (h▸e)
         ·rw[h] at e
          cases e
          have:=(rw1.lt _ hk).2
          have:=f1.size
          omega
        have cL2:w2.cell? ⟨n1+2,1,none⟩=some (.slice (some ⟨b0,o0,none⟩) L.length lc):=f2w.cell' (uh HCL).1 id
        obtain⟨bb,oo,ee,m1,m2⟩:=(uh HCL).2.1.pair (show L[j]? = some p from by
         have:=congrArg (fun l=>l[j]?) et
         simpa [List.getElem?_append,List.getElem?_take,show min j L.length=j by omega] using this)
        cases ee
        replace m1:=f2w.cell' m1 id
        replace m2:=f2w.cell' m2 id
        have HAP:=Hd hap;have HW1:=Hd hW1
        have HZ:=Hd (ai rw2 (ai ra3 (ai dj2 (ai f2w hge))))
        clear rw1 ra1 dj fr et gs hwl f1 ra2 hgr hloc f1w f2w e2 rw2 ra3 dj2 hap hW1 hge
        obtain⟨av',ac',ea⟩:∃va vc,av = .slice va (geP lo (L.take (j+1))).length vc:=by
         rcases rowp_form (uh HZ).2.1 with ⟨e,h0⟩ | ⟨gg,cap,e⟩
         ·exact⟨none,0,by rw[e,h0]⟩
         ·exact⟨_,cap,e⟩
        subst ea
        generalize (geP lo (L.take (j+1))).length=al at *
        have lh:=less_eq p.1 hi
        have HLW:=Hd (ai lx lh)
        clear lx lh
        by_cases hc:hi.size=0\/ltK p.1 hi
        ·have hcs:hi.toList = []\/(hi.toList.isEmpty=false/\(hi.toList = [])=False/\Op.bytesLess p.1.toList hi.toList=true):=by
          by_cases h0:hi.size=0
          ·exact .inl (nil_of h0)
          ·refine .inr ⟨(not_nil h0).1,(not_nil h0).2,?_⟩
           rw[(uh HLW).2]
           exact decide_eq_true (hc.resolve_left h0)
         have HC:=Hd hc
         clear hc
         by_cases hd:(wl:Int)<max n 0
         ·have hd':((wl:Int)<max n 0)=True:=eq_true hd
          have HD:=Hd hd
          clear hd
          rcases hcs with hE | ⟨hE1,hE2,hE3⟩
          ·skip
           obtain⟨rw2,ra3,dj2,f2w,hge⟩:=uh HZ
           obtain⟨et,gs,hwl⟩:=uh HP2
           obtain⟨W3,hW3⟩:∃W3,w2.alloc (.cells #[.string p.1,.int .u64 (p.2:Nat)] 43)=W3:=⟨_,rfl⟩
           have f3:St w2 W3:=hW3▸(Fr.refl _ w2).alloc _
           obtain⟨wv',w4,hap2,rw3,hgr2,hloc2⟩:=run_more elt_Q 33 (own_still rw2 f3) (sl_pair w2 W3 p hW3) (by omega) (Nat.le_trans f2w.size f3.size)
           have f4w:St wq w4:=(f2w.trans' f3 nE).grown hgr2 (fun k hk=>.inr (rw2.lt k hk).1)
           have e1:wtP (L.take (j+1)) lo hi n=wtP (L.take j) lo hi n ++ [p]:=by rw[et,wtP_snoc,if_pos ⟨hge,decide_eq_true (uh HC),by rw[hwl];have:=uh HD;omega⟩]
           have HF:=Hd (show w4.ownsRow wq.heap.size 43 2 wv' (wtP (L.take (j+1)) lo hi n).length (pcl (wtP (L.take (j+1)) lo hi n))/\w4.ownsRow wq.heap.size 43 2 (.slice av' al ac') _ (pcl (geP lo (L.take (j+1))))/\(∀k,wv'.ownBlock=some k->(Value.slice av' al ac').ownBlock≠some k)/\St wq w4 from⟨by
            rw[e1,pcl_app,List.length_append,hwl];exact rw3,row_kept (own_still ra3 f3) (((Fr.refl (fun k=>(Value.slice wa wl wcp).ownBlock=some k) W3)).grown hgr2 (fun k hk=>.inl hk)) (fun k hk e=>dj2 k e hk),(fun k hk e=>by
            rcases hloc2 with h | h
            ·exact dj2 k (h▸hk) e
            ·rw[h] at hk
             cases hk
             have:=(ra3.lt _ e).2
             have:=f3.size
             omega),f4w⟩)
           have HAP2:=Hd hap2;have HW3:=Hd hW3
           clear rw2 ra3 dj2 f2w hge et gs hwl f3 hap2 rw3 hgr2 hloc2 f4w e1 hW3
           go_wp2_with (first | (at_builtin;rw[uh HW1];refine wpList_append_run rfl (.tmp 88) (.tmp 94) 33 rfl _ _ rfl rfl _ w2 (uh HAP) ?_) | (at_builtin;rw[uh HW3];refine wpList_append_run rfl (.tmp 110) (.tmp 116) 33 rfl _ _ rfl rfl wv' w4 (uh HAP2) ?_) | fail)
           go_meet
           case rel=>exact uh HF
          ·skip
           obtain⟨rw2,ra3,dj2,f2w,hge⟩:=uh HZ
           obtain⟨et,gs,hwl⟩:=uh HP2
           obtain⟨W3,hW3⟩:∃W3,w2.alloc (.cells #[.string p.1,.int .u64 (p.2:Nat)] 43)=W3:=⟨_,rfl⟩
           have f3:St w2 W3:=hW3▸(Fr.refl _ w2).alloc _
           obtain⟨wv',w4,hap2,rw3,hgr2,hloc2⟩:=run_more elt_Q 33 (own_still rw2 f3) (sl_pair w2 W3 p hW3) (by omega) (Nat.le_trans f2w.size f3.size)
           have f4w:St wq w4:=(f2w.trans' f3 nE).grown hgr2 (fun k hk=>.inr (rw2.lt k hk).1)
           have e1:wtP (L.take (j+1)) lo hi n=wtP (L.take j) lo hi n ++ [p]:=by rw[et,wtP_snoc,if_pos ⟨hge,decide_eq_true (uh HC),by rw[hwl];have:=uh HD;omega⟩]
           have HF:=Hd (show w4.ownsRow wq.heap.size 43 2 wv' (wtP (L.take (j+1)) lo hi n).length (pcl (wtP (L.take (j+1)) lo hi n))/\w4.ownsRow wq.heap.size 43 2 (.slice av' al ac') _ (pcl (geP lo (L.take (j+1))))/\(∀k,wv'.ownBlock=some k->(Value.slice av' al ac').ownBlock≠some k)/\St wq w4 from⟨by
            rw[e1,pcl_app,List.length_append,hwl];exact rw3,row_kept (own_still ra3 f3) (((Fr.refl (fun k=>(Value.slice wa wl wcp).ownBlock=some k) W3)).grown hgr2 (fun k hk=>.inl hk)) (fun k hk e=>dj2 k e hk),(fun k hk e=>by
            rcases hloc2 with h | h
            ·exact dj2 k (h▸hk) e
            ·rw[h] at hk
             cases hk
             have:=(ra3.lt _ e).2
             have:=f3.size
             omega),f4w⟩)
           have HAP2:=Hd hap2;have HW3:=Hd hW3
           clear rw2 ra3 dj2 f2w hge et gs hwl f3 hap2 rw3 hgr2 hloc2 f4w e1 hW3
           go_wp2_with (first | (at_builtin;rw[uh HW1];refine wpList_append_run rfl (.tmp 88) (.tmp 94) 33 rfl _ _ rfl rfl _ w2 (uh HAP) ?_) | (at_builtin;rw[uh HW3];refine wpList_append_run rfl (.tmp 110) (.tmp 116) 33 rfl _ _ rfl rfl wv' w4 (uh HAP2) ?_) | fail)
           go_meet
           case rel=>exact uh HF
         ·have hd':((wl:Int)<max n 0)=False:=eq_false hd
          have HNO:=Hd (show cHi hi p=true->¬((wl:Int)<max n 0) from fun _=>hd)
          clear hd
          rcases hcs with hE | ⟨hE1,hE2,hE3⟩
          ·skip
           go_wp2_with (first | (at_builtin;rw[uh HW1];refine wpList_append_run rfl (.tmp 88) (.tmp 94) 33 rfl _ _ rfl rfl _ w2 (uh HAP) ?_) | fail)
           go_meet
           case rel=>
            obtain⟨rw2,ra3,dj2,f2w,hge⟩:=uh HZ
            obtain⟨et,gs,hwl⟩:=uh HP2
            have e1:wtP (L.take (j+1)) lo hi n=wtP (L.take j) lo hi n:=by rw[et,wtP_snoc,if_neg (fun(e:¬ltK p.1 lo/\cHi hi p=true/\((wtP (L.take j) lo hi n).length:Int)<max n 0)=>by have q1:=uh HNO e.2.1;have q2:=e.2.2;rw[hwl] at q2;omega),List.append_nil]
            rw[e1,hwl]
            exact⟨rw2,ra3,dj2,f2w⟩
          ·skip
           go_wp2_with (first | (at_builtin;rw[uh HW1];refine wpList_append_run rfl (.tmp 88) (.tmp 94) 33 rfl _ _ rfl rfl _ w2 (uh HAP) ?_) | fail)
           go_meet
           case rel=>
            obtain⟨rw2,ra3,dj2,f2w,hge⟩:=uh HZ
            obtain⟨et,gs,hwl⟩:=uh HP2
            have e1:wtP (L.take (j+1)) lo hi n=wtP (L.take j) lo hi n:=by rw[et,wtP_snoc,if_neg (fun(e:¬ltK p.1 lo/\cHi hi p=true/\((wtP (L.take j) lo hi n).length:Int)<max n 0)=>by have q1:=uh HNO e.2.1;have q2:=e.2.2;rw[hwl] at q2;omega),List.append_nil]
            rw[e1,hwl]
            exact⟨rw2,ra3,dj2,f2w⟩
        ·have h0:hi.size≠0:=fun e=>hc (.inl e)
         have h1':¬ltK p.1 hi:=fun e=>hc (.inr e)
         have lh:=(uh HLW).2
         rw[decide_eq_false h1'] at lh
         obtain⟨hE1,hE2⟩:=not_nil h0
         have HNO:=Hd (show cHi hi p=true->¬((wl:Int)<max n 0) from fun e=>absurd (of_decide_eq_true e) hc)
         clear hc h0 h1'
         go_wp2_with (first | (at_builtin;rw[uh HW1];refine wpList_append_run rfl (.tmp 88) (.tmp 94) 33 rfl _ _ rfl rfl _ w2 (uh HAP) ?_) | fail)
         go_meet
         case rel=>
          obtain⟨rw2,ra3,dj2,f2w,hge⟩:=uh HZ
          obtain⟨et,gs,hwl⟩:=uh HP2
          have e1:wtP (L.take (j+1)) lo hi n=wtP (L.take j) lo hi n:=by rw[et,wtP_snoc,if_neg (fun(e:¬ltK p.1 lo/\cHi hi p=true/\((wtP (L.take j) lo hi n).length:Int)<max n 0)=>by have q1:=uh HNO e.2.1;have q2:=e.2.2;rw[hwl] at q2;omega),List.append_nil]
          rw[e1,hwl]
          exact⟨rw2,ra3,dj2,f2w⟩
      case rest=>
       obtain⟨rwF,raF,djF,frF⟩:=hcut
       have cL3:wc.cell? ⟨n1+2,1,none⟩=some (.slice (some ⟨b0,o0,none⟩) L.length lc):=frF.cell' (uh HCL).1 id
       have ep:L[j]? = some p:=by
        have:=congrArg (fun l=>l[j]?) (uh HP2).1
        simpa [List.getElem?_append,List.getElem?_take,show min j L.length=j by omega] using this
       obtain⟨bb,oo,ee,m1,m2⟩:=(uh HCL).2.1.pair ep
       cases ee
       replace m2:=frF.cell' m2 id
       have gs:=(uh HP2).2.1
       rw[<-(uh HP2).1] at gs
       have HF:=Hd (ai rwF (ai raF (ai djF frF)))
       clear rwF raF djF frF m1 ep
       by_cases he:p.1=key
       ·have hq:(p.1.toList == key.toList)=true:=by rw[he];simp
        rw[if_pos he] at gs
        have HGS:=Hd gs
        clear gs he
        go_wp2
        obtain⟨rwF,raF,djF,frF⟩:=uh HF
        refine⟨⟨j+1,by omega,by simp,rwF,raF,djF,?_,?_,frF⟩,by simp[intOf];omega⟩
        ·rw[uh HGS];rfl
        ·rw[uh HGS];rfl
       ·have hq:(p.1.toList == key.toList)=false:=by
         simp only[beq_eq_false_iff_ne,ne_eq,Lib.toList_data]
         exact fun e=>he (bytes_ext e)
        rw[if_neg he] at gs
        have HGS:=Hd gs
        clear gs he
        go_wp2
        obtain⟨rwF,raF,djF,frF⟩:=uh HF
        refine⟨⟨j+1,by omega,by simp,rwF,raF,djF,?_,?_,frF⟩,by simp[intOf];omega⟩
        ·rw[uh HGS]
        ·rw[uh HGS]
     ·skip
      have ej:j=L.length:=by omega
      subst ej
      rw[List.take_length] at rw1 ra1
      have hlt':((L.length:Int)<L.length)=False:=by simp
      obtain⟨wa,wcp,ew⟩:∃va vc,u17 = .slice va (wtP L lo hi n).length vc:=by
       rcases rowp_form rw1 with ⟨e,h0⟩ | ⟨gg,cap,e⟩
       ·exact⟨none,0,by rw[e,h0]⟩
       ·exact⟨_,cap,e⟩
      obtain⟨aa,acp,ea⟩:∃va vc,u18 = .slice va (geP lo L).length vc:=by
       rcases rowp_form ra1 with ⟨e,h0⟩ | ⟨gg,cap,e⟩
       ·exact⟨none,0,by rw[e,h0]⟩
       ·exact⟨_,cap,e⟩
      subst ew
      subst ea
      rw[wtP_is ri] at rw1 ⊢
      have HR:=Hd (ai rw1 (ai ra1 fr))
      simp only[List.take_length]
      clear rw1 ra1 dj fr hSL ri
      go_wp2
      show wpOf _ _ _ _ _ _
      clear cL hlt'
      obtain⟨rw1,ra1,fr⟩:=uh HR
      have S:=uh HS
      obtain⟨ng,hng⟩:∃ng,wr.heap.size=ng:=⟨_,rfl⟩
      obtain⟨Wg,hWg⟩:∃W,wr.alloc (.cells #[.slice none 0 0] 33)=W:=⟨_,rfl⟩
      obtain⟨W14,hW14⟩:∃W,Wg.alloc (.cells #[ptr sb] 23)=W:=⟨_,rfl⟩
      obtain⟨W15,hW15⟩:∃W,W14.alloc (.cells #[.int .u64 (r:Nat)] 27)=W:=⟨_,rfl⟩
      obtain⟨wD,hwD⟩:∃W,W15.alloc (.cells #[.string lo] 9)=W:=⟨_,rfl⟩
      have zg:Wg.heap.size=ng+1:=by rw[<-hWg];simp[hng]
      have z14:W14.heap.size=ng+2:=by rw[<-hW14];simp[zg]
      have z15:W15.heap.size=ng+3:=by rw[<-hW15];simp[z14]
      have zD:wD.heap.size=ng+4:=by rw[<-hwD];simp[z15]
      have fg:St wr Wg:=hWg▸(Fr.refl _ wr).alloc _
      have f15:St W15 wD:=hwD▸(Fr.refl _ W15).alloc _
      have f14:St W14 wD:=(hW15▸(Fr.refl _ W14).alloc _:St W14 W15).trans' f15 nE
      have fgD:St Wg wD:=(hW14▸(Fr.refl _ Wg).alloc _:St Wg W14).trans' f14 nE
      have og:wD.heap[ng]? = some (.cells #[.slice none 0 0] 33 (0,0)):=fgD.obj (by have:=heap_alloc_new wr (.cells #[.slice none 0 0] 33);rwa [hWg,hng] at this) id
      have o4:wD.heap[ng+1]? = some (.cells #[ptr sb] 23 (0,0)):=f14.obj (by have:=heap_alloc_new Wg (.cells #[ptr sb] 23);rwa [hW14,zg] at this) id
      have o5:wD.heap[ng+2]? = some (.cells #[.int .u64 (r:Nat)] 27 (0,0)):=f15.obj (by have:=heap_alloc_new W14 (.cells #[.int .u64 (r:Nat)] 27);rwa [hW15,z14] at this) id
      have o6:wD.heap[ng+3]? = some (.cells #[.string lo] 9 (0,0)):=by have:=heap_alloc_new W15 (.cells #[.string lo] 9);rwa [hwD,z15] at this
      have fgw:St wq Wg:=fr.trans' fg nE
      have fDw:St wq wD:=fgw.trans' fgD nE
      have lzq:wq.heap.size<=ng:=by rw[<-hng];exact fr.size
      have c2g:=fgw.cell' S.bs.c id
      have c3g:Wg.cell? ⟨n1+2,0,none⟩=some (.int .u64 (r:Nat)):=fgw.cell' (cOo S.br.o 0) id
      have HO:=Hd (ai og (ai o4 (ai o5 (ai o6 (ai fDw (fg.trans' fgD nE))))))
      have HWg:=Hd hWg;have HWD:=Hd (ai hW14 (ai hW15 hwD))
      clear og o4 o5 o6 fDw fgw fg fgD f14 f15 hWg hW14 hW15 hwD S rw1 ra1 fr
      refine wpOf_seq (wpOf_of_wp ?_)
      go_wp2
      rw[uh HWg]
      show wpOf _ _ _ _ _ _
      refine wpOf_seq (wpOf_seq (wpOf_of_wp ?_))
      go_wp2_with fail
      refine(y_Walk (ptr sb) r lo _ rfl).mono ?_
      rintro e w' ⟨rfl,rfl⟩
      go_wp2_with fail
      rw[(uh HWD).1,(uh HWD).2.1,(uh HWD).2.2]
      simp only[Nat.add_assoc,Nat.reduceAdd]
      clear c2g c3g z14 z15 HWD
      refine wpOf_named2 fun a9 ha9=>?_
      refine wpOf_block (range_okG (gf:=63) (lb:=#[ptr (ng+3),ptr (ng+1),ptr (ng+2)]) (N:=(geP lo L).length) (enc:=wkE (geP lo L)) (by rw[ha9];rfl) (fun _ _=>by kernel_rfl) ⟨_,Tryz.func6⟩ (fun k=>rfl) (Wkr hb sb b T (ng+3) (ng+1) (ng+2)) (WkR 1467 12176 hb sb b T A [] lo r (ng+3) (ng+1) (ng+2)) (fun k=>k=ng)
       (fun k G W=>TgJ ng (geP lo L) k G W)
       (fun k G V a' W=>TgJ ng (geP lo L) k G W/\Fr (pair (ng+4)) V W/\∃(p:Pr) (qb:Nat),(geP lo L)[k]? = some p/\V.heap.size<=qb/\ng+6<=qb/\¬G qb/\W.heap[qb]? = some (.cells #[.string p.1,.int .u64 (p.2:Nat)] 43 (0,0))/\a' = { tmps:=(a9.tmps.setIfInBounds 132 (.agg #[.string p.1,.int .u64 (p.2:Nat)])).setIfInBounds 24 (ptr qb),defers:=[] })
       (fun _ _=>False) (fun _ _=>False) ?hJ ?hJb ?hJO ?hJA ?hJr ?hseq ?h0 ?hG0 ?hS ?hassign ?hbody ?hdone ?hret (fun _ _ h _=>h.elim))
      case hJ=>intro k G W W' h f;rw[zD] at f;exact h.kept f h.nopair
      case hJb=>intro k G W h b hb;exact(h.out b hb).1
      case hJO=>intro k G O W W' h f ho;exact h.kept f (fun b hb hG=>ho b hb (.inl hG))
      case hJA=>
       rintro k G V a W W' ⟨h,fv,p,q,e1,e2,e3,e4,e5,rfl⟩ f
       rw[zD] at f
       exact⟨h.kept f h.nopair,fv.trans' f (fun k hk=>.inl hk),p,q,e1,e2,e3,e4,f.obj e5 (fun x=>by unfold pair at x;omega),rfl⟩
      case hJr=>rintro c W W' h _;exact h.elim
      case hret=>rintro c W h _ _;exact h.elim
      case hseq=>
       have S:=uh HS
       have sy:=S.hc.says []
       rw[homed_nil] at sy
       exact w_iter (by rw[sy];exact S.t.rt) S.t.ri S.t.pk lo (ng+3) (ng+1) (ng+2) (wD.heap.size+1)
      case h0=>
       intro ob1 ob2
       obtain⟨og,o4,o5,o6,fDw,_⟩:=uh HO
       have fo:St wD ((wD.alloc ob1).alloc ob2):=((Fr.refl _ wD).alloc ob1).alloc ob2
       have so:((wD.alloc ob1).alloc ob2).heap.size=ng+6:=by rw[World.size_alloc,World.size_alloc,zD]
       exact⟨⟨⟨_,fo.obj og id,World.ownsRow_nil _ _ _ _,fun b hb=>by cases hb⟩,rfl,fun b hb=>⟨by omega,.inl hb⟩,by omega⟩,(uh HS).hc.toHp.still (fDw.trans' fo nE),fo.cell' (cOo o6 0) id,fo.cell' (cOo o4 0) id,fo.cell' (cOo o5 0) id⟩
      case hG0=>
       intro k hk
       have S:=uh HS
       have hh:=S.hc.toHp.lth
       have h0:=S.hc.toHp.lt0
       have hk:k=ng:=hk
       refine⟨by omega,?_⟩
       rintro(e | e | e | e | e | e)
       ·have:=S.hc.hd.st.lt _ e;omega
       all_goals omega
      case hS=>
       have S:=uh HS
       have hh:=S.hc.toHp.lth
       have h0:=S.hc.toHp.lt0
       rintro k (e | e | e | e | e | e)
       ·have:=S.hc.hd.st.lt _ e;omega
       all_goals omega
      case hassign=>
       rintro l' k G W K h hk hK
       obtain⟨p,hp⟩:∃p,(geP lo L)[k]? = some p:=⟨_,List.getElem?_eq_getElem hk⟩
       have ce:wkE (geP lo L) k=#[.agg #[.string p.1,.int .u64 (p.2:Nat)]]:=by unfold wkE;simp only[List.getD,hp,Option.getD_some]
       rw[ce]
       have HJ:=Hd (ai h hp);have HHK:=@Hd _ hK
       clear h hp hK ce
       subst ha9
       simp only[List.zip_toArray,List.zip_cons_cons,List.zip_nil_right,List.foldl_toArray',List.size_toArray,List.length_cons,List.length_nil,List.foldl_cons,List.foldl_nil,List.setIfInBounds_toArray,List.set_cons_zero,List.set_cons_succ]
       have hwd:Fence.wide.depth=none:=rfl
       have hwf:∀f,Fence.wide.fn f:=fun _=>trivial
       gi_wp2
       obtain⟨h,hp⟩:=uh HJ
       have hsz:=h.sz
       refine uh HHK _ _ ⟨h.kept (O:=fun _=>False) ((Fr.refl _ W).alloc _) (fun _ h=>h.elim),(Fr.refl _ W).alloc _,p,W.heap.size,hp,Nat.le_refl _,hsz,fun hG=>by have:=(h.out _ hG).1;omega,heap_alloc_new W _,?_⟩ (Below.heap_alloc W _ _ (by omega)) (Below.heap_alloc W _ _ (by omega))
       simp only[List.setIfInBounds_toArray,List.set_cons_zero,List.set_cons_succ]
      case hbody=>
       rintro l' k G V a' W ⟨h,fv,p,q,hp,hq1,hq2,hq3,oq,rfl⟩ hk
       obtain⟨v,ov,row,hv⟩:=h.ex
       have hgl:=ge_len lo L
       have y0:W.cell? ⟨q,0,none⟩=some (.string p.1):=cOo oq 0
       have y1:W.cell? ⟨q,1,none⟩=some (.int .u64 (p.2:Nat)):=cOo oq 1
       have c11:W.cell? ⟨ng,0,none⟩=some v:=cOo ov 0
       have hqW:q<W.heap.size:=(Array.getElem?_eq_some_iff.1 oq).1
       have hsz:=h.sz
       have hvs:V.heap.size<=W.heap.size:=fv.size
       obtain⟨W1,hW1⟩:∃W1,W.alloc (.cells #[.string p.1,.int .u64 (p.2:Nat)] 43)=W1:=⟨_,rfl⟩
       have f1:St W W1:=hW1▸(Fr.refl _ W).alloc _
       obtain⟨v',w2,hap,hw2,hgr,hloc⟩:=run_more elt_Q 33 (own_still row f1) (sl_pair W W1 p hW1) (by omega) (by have:=f1.size;omega)
       have ht:pcl ((geP lo L).take (k+1))=pcl ((geP lo L).take k) ++ pcl [p]:=by
        rw[List.take_add_one,hp,pcl_app];rfl
       have hs1:=f1.size
       have fA:Fr (fun k=>v.ownBlock=some k) W w2:=(f1.mono nE).grown hgr (fun k hk=>.inl hk)
       have nA:∀k,k<ng+6->¬v.ownBlock=some k:=fun k hk e=>by have:=(row.lt _ e).1;omega
       have ov2:w2.heap[ng]? = some (.cells #[v] 33 (0,0)):=fA.obj ov (nA _ (by omega))
       have z2:w2.frozen? ⟨ng,0,none⟩=false:=by simp[World.frozen?,ov2]
       have d2:w2.cell? ⟨ng,0,none⟩=some v:=cOo ov2 0
       obtain⟨w3,hw3⟩:∃w3,w2.setCell ⟨ng,0,none⟩ v'=w3:=⟨_,rfl⟩
       have f3:Fr (fun k=>k=ng) w2 w3:=hw3▸(Fr.refl (fun k=>k=ng) w2).setCell (.inl rfl) _
       have ov3:w3.heap[ng]? = some (.cells #[v'] 33 (0,0)):=hw3▸heap_setCell_same w2 ng 0 _ _ v' ov2
       have row3:w3.ownsRow (ng+6) 43 2 v' (k+1) (pcl ((geP lo L).take (k+1))):=by
        rw[ht]
        exact owns_same hw2 (fun j hj=>f3.block j (hw2.lt j hj).2 (by have:=(hw2.lt j hj).1;omega))
       have fG3:Fr (fun b=>G b\/pair (ng+4) b) V w3:=(fv.mono (fun b hb=>.inl (.inr hb))).trans' ((fA.mono (G:=fun b=>G b) (fun b hb=>.inl (hv b hb))).trans' f3 (fun b hb=>.inl (hb▸h.inc))) (fun b hb=>.inl (.inl hb))
       have hs3:W.heap.size<=w3.heap.size:=Nat.le_trans fA.size f3.size
       have D0:w3.heap[wD.heap.size]? = W.heap[wD.heap.size]?:=by
        rw[zD]
        exact(f3.block _ (Nat.lt_of_lt_of_le (by omega) fA.size) (by omega)).trans (fA.block _ (by omega) (nA _ (by omega)))
       have D1:w3.heap[wD.heap.size+1]? = W.heap[wD.heap.size+1]?:=by
        rw[zD]
        exact(f3.block _ (Nat.lt_of_lt_of_le (by omega) fA.size) (by omega)).trans (fA.block _ (by omega) (nA _ (by omega)))
       have hv3:∀b,v'.ownBlock=some b->(G b\/V.heap.size<=b)/\b<w3.heap.size:=fun b hb=>by
        refine⟨?_,(row3.lt b hb).2⟩
        rcases hloc with e | e
        ·exact .inl (hv b (e▸hb))
        ·rw[e] at hb
         cases hb
         exact .inr (by omega)
       have HZ:=Hd (ai h (ai ov3 (ai row3 (ai fG3 (ai hs3 (ai D0 (ai D1 hv3)))))))
       have HAP:=Hd hap;have HW1:=Hd hW1;have HW3:=Hd hw3
       obtain⟨vg,vc,rfl⟩:∃vg vc,v' = .slice (some ⟨vg,0,none⟩) (k+1) vc:=by
        rcases row3.2 with ⟨_,h0⟩ | ⟨vg,vc,_,e,_⟩
        ·omega
        ·exact⟨vg,vc,e⟩
       clear h hap hw2 hgr hloc fA nA ov2 f3 ov3 row3 fG3 hs3 D0 D1 hv3 ht f1 hs1 hW1 hw3 hv ov row oq fv hsz hvs hqW hgl hp hq1 hq2 hq3
       subst ha9
       simp only[List.setIfInBounds_toArray,List.set_cons_zero,List.set_cons_succ]
       have hwd:Fence.wide.depth=none:=rfl
       have hwf:∀f,Fence.wide.fn f:=fun _=>trivial
       gi_wp2_with (first | (gi_at_builtin;rw[uh HW1];refine wpListIn_append_run rfl (.tmp 133) (.tmp 135) 33 rfl _ _ rfl rfl _ w2 (uh HAP) ?_) | fail)
       rw[uh HW3]
       obtain⟨h,ov3,row3,fG3,hs3,D0,D1,hv3⟩:=uh HZ
       have hsz:=h.sz
       refine⟨⟨D0,D1⟩,fun b=>G b\/(Value.slice (some ⟨vg,0,none⟩) (k+1) vc).ownBlock=some b,⟨⟨_,ov3,row3,fun b hb=>.inr hb⟩,.inl h.inc,fun b hb=>?_,by omega⟩,by rw[zD];exact fG3,fun b hb=>.inl hb,fun b hb=>?_⟩
       ·rcases hb with hb | hb
        ·exact⟨Nat.lt_of_lt_of_le (h.out b hb).1 hs3,(h.out b hb).2⟩
        ·exact⟨(row3.lt b hb).2,.inr (row3.lt b hb).1⟩
       ·rcases hb with hb | hb
        ·exact .inl hb
        ·exact(hv3 b hb).1
      case hdone=>
       intro G W h fr hDD
       obtain⟨rw1,ra1,fr1⟩:=uh HR
       obtain⟨og,o4,o5,o6,fDw,frD⟩:=uh HO
       have S:=uh HS
       have sy:=S.hc.says []
       rw[homed_nil] at sy
       obtain⟨v,ov,row,hv⟩:=h.ex
       rw[List.take_length] at row
       obtain⟨va,vc,rfl⟩:∃va vc,v = .slice va (geP lo L).length vc:=by
        rcases rowp_form row with ⟨e,h0⟩ | ⟨gg,cap,e⟩
        ·exact⟨none,0,by rw[e,h0]⟩
        ·exact⟨_,cap,e⟩
       have fW:St wq W:=fDw.trans' fr (fun k hk=>.inr (by have hk:k=ng:=hk;omega))
       have frW:St wr W:=frD.trans' fr (fun k hk=>.inr (by have hk:k=ng:=hk;omega))
       have hpW:=S.hc.toHp.still fW
       have rtW:Rt 1467 12176 (says [] A) r L Q:=by rw[sy];exact S.t.rt
       have GT:=y_Get hpW rtW S.t.ri key
       have hL5:L.length<=100000:=by omega
       have RG:∀w2,St W w2->Calls Tryz.prog 14 #[ptr sb,.int .u64 (r:Nat),.string lo,.string hi,.int .i64 n] w2 _:=fun w2 f2=>y_RangeA (hpW.still f2) rtW S.t.ri S.t.pk lo hi n hL5
       have hrl:(rgP L lo hi n).length<=100000:=by rw[<-wtP_is S.t.ri];have:=wtP_len L lo hi n;omega
       have hgl:=ge_len lo L
       have SM1:∀w3 xa xc,St W w3->Lf w3 xa xc (rgP L lo hi n)->Calls Tryz.prog 32 #[.slice xa (rgP L lo hi n).length xc,.slice wa (rgP L lo hi n).length wcp] w3 _:=fun w3 xa xc f3 hx=>l11_same xa wa xc wcp (rgP L lo hi n) w3 hx ((sl_of_row rw1 pcl_one).still (frW.trans' f3 nE)) hrl
       have SM2:∀w3,St W w3->Calls Tryz.prog 32 #[.slice va (geP lo L).length vc,.slice aa (geP lo L).length acp] w3 _:=fun w3 f3=>l11_same va aa vc acp (geP lo L) w3 ((sl_of_row row pcl_one).still f3) ((sl_of_row ra1 pcl_one).still (frW.trans' f3 nE)) (by omega)
       have fwW:St w W:=S.hc.hd.fr.trans' fW nE
       have AW:∀w4,St W w4->Calls Tryz.prog 22 #[] w4 _:=fun w4 f4=>l11_awake w4 (fun j hj=>(fwW.trans' f4 nE).cell' (uh HT j hj) id)
       have x1:=fW.cell' S.bs.c id
       have x2:W.cell? ⟨n1+2,0,none⟩=some (.int .u64 (r:Nat)):=fW.cell' (cOo S.br.o 0) id
       have x3:W.cell? ⟨ng,0,none⟩=some (.slice va (geP lo L).length vc):=cOo ov 0
       have HGT:=Hd GT;have HRG:=@Hd _ RG;have HSM1:=@Hd _ SM1;have HSM2:=@Hd _ SM2;have HAW:=@Hd _ AW
       have HF:=Hd (ai fwW (ai hDD h.sz))
       clear GT RG SM1 SM2 AW rw1 ra1 fr1 og o4 o5 o6 fDw frD S sy ov row hv fW frW hpW rtW fwW hDD h fr hrl hgl
       subst ha9
       show wpOf _ _ _ _ _ _
       refine wpOf_seq (wpOf_of_wp ?_)
       go_wp2_with fail
       refine(uh HGT).mono ?_
       clear HGT
       rintro e wG ⟨rfl,fG⟩
       have y1:=fG.cell' x1 id
       have y2:=fG.cell' x2 id
       have HFG:=Hd fG
       clear x1 x2 fG
       go_wp2
       show wpOf _ _ _ _ _ _
       refine wpOf_of_wp ?_
       go_wp2_with fail
       refine(uh HRG wG (uh HFG)).mono ?_
       rintro e w3 ⟨xa,xc,rfl,hx,f3⟩
       have f03:St W w3:=(uh HFG).trans' f3 nE
       have K1:=Hd (uh HSM1 w3 xa xc f03 hx)
       have HF3:=Hd f03
       clear hx f3 f03 y1 y2 HRG HSM1
       go_wp2_with fail
       refine(uh K1).mono ?_
       clear K1
       rintro e w4 ⟨rfl,f4⟩
       have f04:St W w4:=(uh HF3).trans' f4 nE
       have y3:=f04.cell' x3 id
       have K2:=Hd (uh HSM2 w4 f04)
       have HF4:=Hd f04
       clear f4 f04 HSM2 x3
       go_wp2_with fail
       refine(uh K2).mono ?_
       clear K2
       rintro e w5 ⟨rfl,f5⟩
       have f05:St W w5:=(uh HF4).trans' f5 nE
       have K3:=Hd (uh HAW w5 f05)
       have HF5:=Hd f05
       clear f5 f05 HAW y3
       go_wp2_with fail
       refine(uh K3).mono ?_
       clear K3
       rintro e w9 ⟨rfl,f9⟩
       have HF9:=Hd f9
       clear f9
       go_wp2
       obtain⟨fwW,hDD,hsz⟩:=uh HF
       have f59:St W w9:=(uh HF5).trans' (uh HF9) nE
       have hD9:w9.heap[ng+4]? = some (.deferred (some [])):=by
        rw[zD] at hDD
        exact(f59.block _ (by omega) id).trans hDD
       have hwz:=(uh HS).hc.hd.fr.size
       have f:=(fwW.trans' f59 nE).trans' ((Fr.refl (fun j=>j=ng+4) w9).putObj (.inl rfl) (.deferred none)) (fun k hk=>.inr (by have hk:k=ng+4:=hk;omega))
       refine⟨by simp,.inl ⟨_,_,rfl,run_takeDeferred hD9,⟨.bool true,results_tmp Tryz.results6 _ _ _,rfl,?_⟩⟩⟩
       exact⟨f.os,f.tape,f.output,f.size,fun k hk=>f.block k (by omega) id⟩
end Go.Proofs.YtbiopjmpdhcjgaaGreatDoor
