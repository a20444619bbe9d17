/- Joined: Dg Dh. -/
import Derived.Test.YtbiopjmpdhcjgaaGreatDoorS33
namespace Go.Proofs.YtbiopjmpdhcjgaaGreatDoor
open Go.RowKit
set_option maxHeartbeats 4000000

section
section
variable {nu sz:Nat} {w w0:World} {hb sb b cb m h:Nat} {T T0:Tay} {A:Ab} {P:List (Int×Int)} {tv:Value}
set_option maxRecDepth 100000 in
theorem y_lessL (c:Cg nu sz w0 hb sb b T0 A cb w T P tv m) (hh:Nat) (ba:Option Addr) (nb bc:Nat) (ka:Option Addr) (nk kc i:Nat) (lv:Value) (q lam sn:Nat) (ln:List Pr) (hi:i<nk) (hnk:2<=nk) (hn5:nk<=500) (_hq5:q<=500) (hs5:sn<=500)
  (IT:∀w1,St w w1->Calls Tryz.prog 233 #[lv] w1 fun e w'=>∃ia ic,e = .returned (.slice ia q ic)/\St w1 w')
  (LE:∀w1,Calls Tryz.prog 235 #[lv] w1 fun e w'=>e = .returned (.int .i64 (lam:Nat))/\St w1 w')
  (SZ:∀w1,St w w1->Calls Tryz.prog 137 #[.iface 100 lv] w1 fun e w'=>e = .returned (.int .i64 (sn:Nat))/\St w1 w')
  (WO:q=0->∀w1,St w w1->Calls Tryz.prog 149 #[brV hh ba nb bc ka nk kc,.int .i64 i] w1 fun e w'=>Lss nu sz w0 hb sb b T0 A cb w1 T P tv m h hh ln w' e)
  (RP:lam<=q->q≠0->∀w1,St w w1->Calls Tryz.prog 93 #[ptr cb,brV hh ba nb bc ka nk kc,.int .i64 i,.int .i64 ((i:Int)+1),.iface 100 lv] w1 fun e w'=>Lss nu sz w0 hb sb b T0 A cb w1 T P tv m h hh ln w' e)
  (s16:16<sn->lam<=q)
  (BO:∀left,(left=i\/left+1=i)->left+1<nk->q≠0->∀w1,St w w1->Calls Tryz.prog 150 #[ptr cb,brV hh ba nb bc ka nk kc,.int .i64 (left:Nat),.int .i64 i,.iface 100 lv] w1 fun e w'=>∃nj sj,e = .returned nj/\St w1 w'/\sj<=5000/\(∀w2,St w' w2->Calls Tryz.prog 137 #[nj] w2 fun e w3=>e = .returned (.int .i64 (sj:Nat))/\St w2 w3)/\((sj<=32\/q<lam)->∀w2,St w' w2->Calls Tryz.prog 93 #[ptr cb,brV hh ba nb bc ka nk kc,.int .i64 (left:Nat),.int .i64 ((left:Int)+2),nj] w2 fun e w3=>Lss nu sz w0 hb sb b T0 A cb w2 T P tv m h hh ln w3 e)) :
  Calls Tryz.prog 102 #[ptr cb,brV hh ba nb bc ka nk kc,.int .i64 i,.iface 100 lv] w fun e w'=>Lss nu sz w0 hb sb b T0 A cb w T P tv m h hh ln w' e:=by
 have h0:=c.on.fr.size
 obtain⟨g,hg⟩:∃g,w.heap.size=g:=⟨_,rfl⟩
 obtain⟨W,hW⟩:∃W,(w.alloc (.cells #[.int .i64 hh,.slice ba nb bc,.slice ka nk kc] 96)).alloc (.cells #[.int .i64 0,.slice none 0 0,.slice none 0 0] 96)=W:=⟨_,rfl⟩
 have fW:St w W:=hW▸((Fr.refl _ w).alloc _).alloc _
 have zW:W.heap.size=g+2:=by rw[<-hW];simp[hg]
 have oA:W.heap[g]? = some (.cells #[.int .i64 hh,.slice ba nb bc,.slice ka nk kc] 96 (0,0)):=by
  have:=heap_alloc_new w (.cells #[.int .i64 hh,.slice ba nb bc,.slice ka nk kc] 96)
  rw[hg] at this
  rw[<-hW]
  exact((Fr.refl (fun _=>False) _).alloc _).obj this id
 have oR:W.heap[g+1]? = some (.cells #[.int .i64 0,.slice none 0 0,.slice none 0 0] 96 (0,0)):=by
  have:=heap_alloc_new (w.alloc (.cells #[.int .i64 hh,.slice ba nb bc,.slice ka nk kc] 96)) (.cells #[.int .i64 0,.slice none 0 0,.slice none 0 0] 96)
  rw[hW] at this
  simpa [hg] using this
 have ofR:Off sb b T cb tv W (g+1):=c.fresh (by omega) (by omega)
 have wi1:IntKind.i64.wrap ((i:Int)+1)=(i:Int)+1:=(wrap_small _ (by omega) (by omega)).1
 have FIN:=@Hd _ (fun(w1 w2:World) (e:Ending) (f1:St W w1) (L:Lss nu sz w0 hb sb b T0 A cb w1 T P tv m h hh ln w2 e)=>L.done (g1:=g+1) (ofR.still f1).2 (f1.obj oR id) (fW.trans' f1 nE) (by omega) (by omega))
 have HIT:=@Hd _ IT;have HLE:=@Hd _ LE;have HSZ:=@Hd _ SZ;have HWO:=@Hd _ WO;have HRP:=@Hd _ RP;have HBO:=@Hd _ BO;have HS16:=@Hd _ s16;have HW:=Hd hW;have HFW:=Hd fW
 have HCE:=@Hd _ (fun(w1:World) (f1:St W w1)=>show w1.cell? ⟨g,0,none⟩=some (.int .i64 hh)/\w1.cell? ⟨g,1,none⟩=some (.slice ba nb bc)/\w1.cell? ⟨g,2,none⟩=some (.slice ka nk kc) from⟨cOo (f1.obj oA id) 0,cOo (f1.obj oA id) 1,cOo (f1.obj oA id) 2⟩)
 clear IT LE SZ WO RP BO s16 hW fW zW oA oR ofR c h0
 go_enter Tryz.func102,Tryz.ntmps102
 go_wp2_with fail
 rw[uh HW]
 refine(uh HIT W (uh HFW)).mono ?_
 rintro e w1 ⟨ia,ic,rfl,f1⟩
 by_cases hq0:q=0
 ·have hqe:((q:Int) == 0)=true:=by simp;omega
  have K:=Hd (uh HWO hq0 w1 ((uh HFW).trans' f1 nE))
  obtain⟨d0,d1,d2⟩:=uh HCE w1 f1
  have HF1:=Hd f1
  clear f1
  go_wp2_with fail
  refine(uh K).mono ?_
  clear K d0 d1 d2
  intro e w2 L
  obtain⟨va,nb',vc,ua,nk',uc,rfl,o5,FN⟩:=uh FIN _ w2 e (uh HF1) L
  clear L
  have r0:w2.cell? ⟨g+1,0,none⟩=some (.int .i64 0):=cOo o5 0
  have r1:w2.cell? ⟨g+1,1,none⟩=some (.slice none 0 0):=cOo o5 1
  have r2:w2.cell? ⟨g+1,2,none⟩=some (.slice none 0 0):=cOo o5 2
  have rz:∀o,w2.frozen? ⟨g+1,o,none⟩=false:=fun o=>by simp[World.frozen?,o5]
  have HFN:=@Hd _ FN;have HO5:=Hd o5
  clear FN o5 HBO HRP HWO HIT HLE HSZ HCE FIN
  go_wp2_with fail
  have o5:=uh HO5
  have oF:=heap_setCell_same _ (g+1) 2 _ _ (.slice ua nk' uc) (heap_setCell_same _ (g+1) 1 _ _ (.slice va nb' vc) (heap_setCell_same w2 (g+1) 0 _ _ (.int .i64 (hh:Nat)) o5))
  obtain⟨w3,hw3⟩:∃w3,((w2.setCell ⟨g+1,0,none⟩ (.int .i64 (hh:Nat))).setCell ⟨g+1,1,none⟩ (.slice va nb' vc)).setCell ⟨g+1,2,none⟩ (.slice ua nk' uc)=w3:=⟨_,rfl⟩
  have f6:Fr (fun k=>k=g+1) w2 w3:=hw3▸(((Fr.refl (fun k=>k=g+1) w2).setCell (.inl rfl) _).setCell (.inl rfl) _).setCell (.inl rfl) _
  rw[hw3] at oF
  refine bodyPost_ret (results_cell_row Tryz.results102 _ _ (g+1) 96 #[.int .i64 hh,.slice va nb' vc,.slice ua nk' uc] (0,0) _ (by rfl) (by rw[hw3];exact oF) Tryz.underlying96 rfl (by kernel_rfl)) rfl ?_
  rw[hw3]
  exact uh HFN w3 f6
 ·have hqe:((q:Int) == 0)=false:=by simp;omega
  have K:=Hd (uh HSZ w1 ((uh HFW).trans' f1 nE))
  have HF1:=Hd f1
  clear f1
  go_wp2_with fail
  refine(uh K).mono ?_
  clear K
  rintro e w2 ⟨rfl,f2⟩
  have f02:St W w2:=(uh HF1).trans' f2 nE
  have HF2:=Hd f02
  clear f2 f02
  by_cases h16:16<sn
  ·have h16':((16:Int)<sn)=True:=by simp;omega
   have K:=Hd (uh HRP (uh HS16 h16) hq0 w2 ((uh HFW).trans' (uh HF2) nE))
   obtain⟨d0,d1,d2⟩:=uh HCE w2 (uh HF2)
   go_wp2_with fail
   refine(uh K).mono ?_
   clear K d0 d1 d2
   intro e w2 L
   obtain⟨va,nb',vc,ua,nk',uc,rfl,o5,FN⟩:=uh FIN _ w2 e (uh HF2) L
   clear L
   have r0:w2.cell? ⟨g+1,0,none⟩=some (.int .i64 0):=cOo o5 0
   have r1:w2.cell? ⟨g+1,1,none⟩=some (.slice none 0 0):=cOo o5 1
   have r2:w2.cell? ⟨g+1,2,none⟩=some (.slice none 0 0):=cOo o5 2
   have rz:∀o,w2.frozen? ⟨g+1,o,none⟩=false:=fun o=>by simp[World.frozen?,o5]
   have HFN:=@Hd _ FN;have HO5:=Hd o5
   clear FN o5 HBO HRP HWO HIT HLE HSZ HCE FIN
   go_wp2_with fail
   have o5:=uh HO5
   have oF:=heap_setCell_same _ (g+1) 2 _ _ (.slice ua nk' uc) (heap_setCell_same _ (g+1) 1 _ _ (.slice va nb' vc) (heap_setCell_same w2 (g+1) 0 _ _ (.int .i64 (hh:Nat)) o5))
   obtain⟨w3,hw3⟩:∃w3,((w2.setCell ⟨g+1,0,none⟩ (.int .i64 (hh:Nat))).setCell ⟨g+1,1,none⟩ (.slice va nb' vc)).setCell ⟨g+1,2,none⟩ (.slice ua nk' uc)=w3:=⟨_,rfl⟩
   have f6:Fr (fun k=>k=g+1) w2 w3:=hw3▸(((Fr.refl (fun k=>k=g+1) w2).setCell (.inl rfl) _).setCell (.inl rfl) _).setCell (.inl rfl) _
   rw[hw3] at oF
   refine bodyPost_ret (results_cell_row Tryz.results102 _ _ (g+1) 96 #[.int .i64 hh,.slice va nb' vc,.slice ua nk' uc] (0,0) _ (by rfl) (by rw[hw3];exact oF) Tryz.underlying96 rfl (by kernel_rfl)) rfl ?_
   rw[hw3]
   exact uh HFN w3 f6
  ·have h16':((16:Int)<sn)=False:=by simp;omega
   go_wp2_with fail
   go_loopw [9] (fun l9 wr=>∃left:Nat,l9 = .int .i64 left/\(left=i - 1\/(i - 1<=left/\left<=i+1/\lam<=q))/\St W wr) (fun l9 _=>i+2 - (intOf l9).toNat)
   case atStart=>exact⟨i - 1,by rw[show max ((i:Int) - 1) 0=((i - 1:Nat):Int) by omega],.inl rfl,uh HF2⟩
   case round=>
    obtain⟨left,rfl,hleft,fr⟩:=hrel
    generalize wr=wq at *
    clear wr
    have wl1:IntKind.i64.wrap ((left:Int)+1)=(left:Int)+1:=(wrap_small _ (by omega) (by omega)).1
    have wl2:IntKind.i64.wrap ((left:Int)+2)=(left:Int)+2:=(wrap_small _ (by omega) (by omega)).1
    obtain⟨d0,d1,d2⟩:=uh HCE wq fr
    by_cases hA:left<=i/\left+1<nk
    ·have hA1:((left:Int)<=i)=True:=by simp;omega
     have hA2:((left:Int)+1<nk)=True:=by simp;omega
     have K:=Hd (uh HBO left (by omega) hA.2 hq0 wq ((uh HFW).trans' fr nE))
     have HFR:=Hd fr
     clear fr
     go_wp2_with fail
     refine(uh K).mono ?_
     clear K d0 d1 d2
     rintro e w3 ⟨nj,sj,rfl,f3,hs3,SJ,RJ⟩
     have f03:St W w3:=(uh HFR).trans' f3 nE
     have K:=Hd (SJ w3 (Fr.refl _ _))
     have HF3:=Hd f03;have HRJ:=@Hd _ RJ
     clear SJ RJ f3 f03
     go_wp2_with fail
     refine(uh K).mono ?_
     clear K
     rintro e w4 ⟨rfl,f4⟩
     have f04:St W w4:=(uh HF3).trans' f4 nE
     by_cases h32:sj<=32
     ·have h32':((sj:Int)<=32)=True:=by simp;omega
      have K:=Hd (uh HRJ (.inl h32) w4 f4)
      obtain⟨d0,d1,d2⟩:=uh HCE w4 f04
      have HF4:=Hd f04
      clear f4 f04
      go_wp2_with fail
      refine(uh K).mono ?_
      clear K d0 d1 d2
      intro e w2 L
      obtain⟨va,nb',vc,ua,nk',uc,rfl,o5,FN⟩:=uh FIN _ w2 e (uh HF4) L
      clear L
      have r0:w2.cell? ⟨g+1,0,none⟩=some (.int .i64 0):=cOo o5 0
      have r1:w2.cell? ⟨g+1,1,none⟩=some (.slice none 0 0):=cOo o5 1
      have r2:w2.cell? ⟨g+1,2,none⟩=some (.slice none 0 0):=cOo o5 2
      have rz:∀o,w2.frozen? ⟨g+1,o,none⟩=false:=fun o=>by simp[World.frozen?,o5]
      have HFN:=@Hd _ FN;have HO5:=Hd o5
      clear FN o5 HBO HRP HWO HIT HLE HSZ HCE FIN
      go_wp2_with fail
      have o5:=uh HO5
      have oF:=heap_setCell_same _ (g+1) 2 _ _ (.slice ua nk' uc) (heap_setCell_same _ (g+1) 1 _ _ (.slice va nb' vc) (heap_setCell_same w2 (g+1) 0 _ _ (.int .i64 (hh:Nat)) o5))
      obtain⟨w3,hw3⟩:∃w3,((w2.setCell ⟨g+1,0,none⟩ (.int .i64 (hh:Nat))).setCell ⟨g+1,1,none⟩ (.slice va nb' vc)).setCell ⟨g+1,2,none⟩ (.slice ua nk' uc)=w3:=⟨_,rfl⟩
      have f6:Fr (fun k=>k=g+1) w2 w3:=hw3▸(((Fr.refl (fun k=>k=g+1) w2).setCell (.inl rfl) _).setCell (.inl rfl) _).setCell (.inl rfl) _
      rw[hw3] at oF
      refine bodyPost_ret (results_cell_row Tryz.results102 _ _ (g+1) 96 #[.int .i64 hh,.slice va nb' vc,.slice ua nk' uc] (0,0) _ (by rfl) (by rw[hw3];exact oF) Tryz.underlying96 rfl (by kernel_rfl)) rfl ?_
      rw[hw3]
      exact uh HFN w3 f6
     ·have h32':((sj:Int)<=32)=False:=by simp;omega
      have K:=Hd (uh HIT w4 ((uh HFW).trans' f04 nE))
      have HF4:=Hd (ai f4 f04)
      clear f4 f04
      go_wp2_with fail
      refine(uh K).mono ?_
      clear K
      rintro e w5 ⟨ja,jc,rfl,f5⟩
      have K:=Hd (uh HLE w5)
      have HF5:=Hd f5
      clear f5
      go_wp2_with fail
      refine(uh K).mono ?_
      clear K
      rintro e w6 ⟨rfl,f6⟩
      have f46:St w4 w6:=(uh HF5).trans' f6 nE
      have f06:St W w6:=(uh HF4).2.trans' f46 nE
      by_cases hql:q<lam
      ·have hql':((q:Int)<lam)=True:=by simp;omega
       have K:=Hd (uh HRJ (.inr hql) w6 ((uh HF4).1.trans' f46 nE))
       obtain⟨d0,d1,d2⟩:=uh HCE w6 f06
       have HF6:=Hd f06
       clear f6 f46 f06
       go_wp2_with fail
       refine(uh K).mono ?_
       clear K d0 d1 d2
       intro e w2 L
       obtain⟨va,nb',vc,ua,nk',uc,rfl,o5,FN⟩:=uh FIN _ w2 e (uh HF6) L
       clear L
       have r0:w2.cell? ⟨g+1,0,none⟩=some (.int .i64 0):=cOo o5 0
       have r1:w2.cell? ⟨g+1,1,none⟩=some (.slice none 0 0):=cOo o5 1
       have r2:w2.cell? ⟨g+1,2,none⟩=some (.slice none 0 0):=cOo o5 2
       have rz:∀o,w2.frozen? ⟨g+1,o,none⟩=false:=fun o=>by simp[World.frozen?,o5]
       have HFN:=@Hd _ FN;have HO5:=Hd o5
       clear FN o5 HBO HRP HWO HIT HLE HSZ HCE FIN
       go_wp2_with fail
       have o5:=uh HO5
       have oF:=heap_setCell_same _ (g+1) 2 _ _ (.slice ua nk' uc) (heap_setCell_same _ (g+1) 1 _ _ (.slice va nb' vc) (heap_setCell_same w2 (g+1) 0 _ _ (.int .i64 (hh:Nat)) o5))
       obtain⟨w3,hw3⟩:∃w3,((w2.setCell ⟨g+1,0,none⟩ (.int .i64 (hh:Nat))).setCell ⟨g+1,1,none⟩ (.slice va nb' vc)).setCell ⟨g+1,2,none⟩ (.slice ua nk' uc)=w3:=⟨_,rfl⟩
       have f6:Fr (fun k=>k=g+1) w2 w3:=hw3▸(((Fr.refl (fun k=>k=g+1) w2).setCell (.inl rfl) _).setCell (.inl rfl) _).setCell (.inl rfl) _
       rw[hw3] at oF
       refine bodyPost_ret (results_cell_row Tryz.results102 _ _ (g+1) 96 #[.int .i64 hh,.slice va nb' vc,.slice ua nk' uc] (0,0) _ (by rfl) (by rw[hw3];exact oF) Tryz.underlying96 rfl (by kernel_rfl)) rfl ?_
       rw[hw3]
       exact uh HFN w3 f6
      ·have hql':((q:Int)<lam)=False:=by simp;omega
       have HF6:=Hd f06
       clear f6 f46 f06
       go_wp2_with fail
       exact⟨⟨left+1,by simp,.inr ⟨by omega,by omega,by omega⟩,uh HF6⟩,by simp[intOf];omega⟩
    ·have hlam:lam<=q:=by omega
     have K:=Hd (uh HRP hlam hq0 wq ((uh HFW).trans' fr nE))
     have HFR:=Hd fr
     clear fr
     rcases (show i<left\/(left<=i/\nk<=left+1) by omega) with hB | hB
     ·have hA1:((left:Int)<=i)=False:=by simp;omega
      go_wp2_with fail
      refine(uh K).mono ?_
      clear K d0 d1 d2
      intro e w2 L
      obtain⟨va,nb',vc,ua,nk',uc,rfl,o5,FN⟩:=uh FIN _ w2 e (uh HFR) L
      clear L
      have r0:w2.cell? ⟨g+1,0,none⟩=some (.int .i64 0):=cOo o5 0
      have r1:w2.cell? ⟨g+1,1,none⟩=some (.slice none 0 0):=cOo o5 1
      have r2:w2.cell? ⟨g+1,2,none⟩=some (.slice none 0 0):=cOo o5 2
      have rz:∀o,w2.frozen? ⟨g+1,o,none⟩=false:=fun o=>by simp[World.frozen?,o5]
      have HFN:=@Hd _ FN;have HO5:=Hd o5
      clear FN o5 HBO HRP HWO HIT HLE HSZ HCE FIN
      go_wp2_with fail
      have o5:=uh HO5
      have oF:=heap_setCell_same _ (g+1) 2 _ _ (.slice ua nk' uc) (heap_setCell_same _ (g+1) 1 _ _ (.slice va nb' vc) (heap_setCell_same w2 (g+1) 0 _ _ (.int .i64 (hh:Nat)) o5))
      obtain⟨w3,hw3⟩:∃w3,((w2.setCell ⟨g+1,0,none⟩ (.int .i64 (hh:Nat))).setCell ⟨g+1,1,none⟩ (.slice va nb' vc)).setCell ⟨g+1,2,none⟩ (.slice ua nk' uc)=w3:=⟨_,rfl⟩
      have f6:Fr (fun k=>k=g+1) w2 w3:=hw3▸(((Fr.refl (fun k=>k=g+1) w2).setCell (.inl rfl) _).setCell (.inl rfl) _).setCell (.inl rfl) _
      rw[hw3] at oF
      refine bodyPost_ret (results_cell_row Tryz.results102 _ _ (g+1) 96 #[.int .i64 hh,.slice va nb' vc,.slice ua nk' uc] (0,0) _ (by rfl) (by rw[hw3];exact oF) Tryz.underlying96 rfl (by kernel_rfl)) rfl ?_
      rw[hw3]
      exact uh HFN w3 f6
     ·have hA1:((left:Int)<=i)=True:=by simp;omega
      have hA2:((left:Int)+1<nk)=False:=by simp;omega
      go_wp2_with fail
      refine(uh K).mono ?_
      clear K d0 d1 d2
      intro e w2 L
      obtain⟨va,nb',vc,ua,nk',uc,rfl,o5,FN⟩:=uh FIN _ w2 e (uh HFR) L
      clear L
      have r0:w2.cell? ⟨g+1,0,none⟩=some (.int .i64 0):=cOo o5 0
      have r1:w2.cell? ⟨g+1,1,none⟩=some (.slice none 0 0):=cOo o5 1
      have r2:w2.cell? ⟨g+1,2,none⟩=some (.slice none 0 0):=cOo o5 2
      have rz:∀o,w2.frozen? ⟨g+1,o,none⟩=false:=fun o=>by simp[World.frozen?,o5]
      have HFN:=@Hd _ FN;have HO5:=Hd o5
      clear FN o5 HBO HRP HWO HIT HLE HSZ HCE FIN
      go_wp2_with fail
      have o5:=uh HO5
      have oF:=heap_setCell_same _ (g+1) 2 _ _ (.slice ua nk' uc) (heap_setCell_same _ (g+1) 1 _ _ (.slice va nb' vc) (heap_setCell_same w2 (g+1) 0 _ _ (.int .i64 (hh:Nat)) o5))
      obtain⟨w3,hw3⟩:∃w3,((w2.setCell ⟨g+1,0,none⟩ (.int .i64 (hh:Nat))).setCell ⟨g+1,1,none⟩ (.slice va nb' vc)).setCell ⟨g+1,2,none⟩ (.slice ua nk' uc)=w3:=⟨_,rfl⟩
      have f6:Fr (fun k=>k=g+1) w2 w3:=hw3▸(((Fr.refl (fun k=>k=g+1) w2).setCell (.inl rfl) _).setCell (.inl rfl) _).setCell (.inl rfl) _
      rw[hw3] at oF
      refine bodyPost_ret (results_cell_row Tryz.results102 _ _ (g+1) 96 #[.int .i64 hh,.slice va nb' vc,.slice ua nk' uc] (0,0) _ (by rfl) (by rw[hw3];exact oF) Tryz.underlying96 rfl (by kernel_rfl)) rfl ?_
      rw[hw3]
      exact uh HFN w3 f6
set_option maxRecDepth 100000 in
theorem y_lessB (c:Cg nu sz w0 hb sb b T0 A cb w T P tv m) (hh:Nat) (ba:Option Addr) (nb bc:Nat) (ka:Option Addr) (nk kc i:Nat) (lv:Value) (q lam sn:Nat) (ln:List Pr) (hi:i<nk) (hnk:2<=nk) (hn5:nk<=500) (_hq5:q<=500) (hs5:sn<=500)
  (IT:∀w1,St w w1->Calls Tryz.prog 227 #[lv] w1 fun e w'=>∃ia ic,e = .returned (.slice ia q ic)/\St w1 w')
  (LE:∀w1,Calls Tryz.prog 229 #[lv] w1 fun e w'=>e = .returned (.int .i64 (lam:Nat))/\St w1 w')
  (SZ:∀w1,St w w1->Calls Tryz.prog 137 #[.iface 96 lv] w1 fun e w'=>e = .returned (.int .i64 (sn:Nat))/\St w1 w')
  (WO:q=0->∀w1,St w w1->Calls Tryz.prog 149 #[brV hh ba nb bc ka nk kc,.int .i64 i] w1 fun e w'=>Lss nu sz w0 hb sb b T0 A cb w1 T P tv m h hh ln w' e)
  (RP:lam<=q->q≠0->∀w1,St w w1->Calls Tryz.prog 93 #[ptr cb,brV hh ba nb bc ka nk kc,.int .i64 i,.int .i64 ((i:Int)+1),.iface 96 lv] w1 fun e w'=>Lss nu sz w0 hb sb b T0 A cb w1 T P tv m h hh ln w' e)
  (s16:16<sn->lam<=q)
  (BO:∀left,(left=i\/left+1=i)->left+1<nk->q≠0->∀w1,St w w1->Calls Tryz.prog 150 #[ptr cb,brV hh ba nb bc ka nk kc,.int .i64 (left:Nat),.int .i64 i,.iface 96 lv] w1 fun e w'=>∃nj sj,e = .returned nj/\St w1 w'/\sj<=5000/\(∀w2,St w' w2->Calls Tryz.prog 137 #[nj] w2 fun e w3=>e = .returned (.int .i64 (sj:Nat))/\St w2 w3)/\((sj<=32\/q<lam)->∀w2,St w' w2->Calls Tryz.prog 93 #[ptr cb,brV hh ba nb bc ka nk kc,.int .i64 (left:Nat),.int .i64 ((left:Int)+2),nj] w2 fun e w3=>Lss nu sz w0 hb sb b T0 A cb w2 T P tv m h hh ln w3 e)) :
  Calls Tryz.prog 102 #[ptr cb,brV hh ba nb bc ka nk kc,.int .i64 i,.iface 96 lv] w fun e w'=>Lss nu sz w0 hb sb b T0 A cb w T P tv m h hh ln w' e:=by
 have h0:=c.on.fr.size
 obtain⟨g,hg⟩:∃g,w.heap.size=g:=⟨_,rfl⟩
 obtain⟨W,hW⟩:∃W,(w.alloc (.cells #[.int .i64 hh,.slice ba nb bc,.slice ka nk kc] 96)).alloc (.cells #[.int .i64 0,.slice none 0 0,.slice none 0 0] 96)=W:=⟨_,rfl⟩
 have fW:St w W:=hW▸((Fr.refl _ w).alloc _).alloc _
 have zW:W.heap.size=g+2:=by rw[<-hW];simp[hg]
 have oA:W.heap[g]? = some (.cells #[.int .i64 hh,.slice ba nb bc,.slice ka nk kc] 96 (0,0)):=by
  have:=heap_alloc_new w (.cells #[.int .i64 hh,.slice ba nb bc,.slice ka nk kc] 96)
  rw[hg] at this
  rw[<-hW]
  exact((Fr.refl (fun _=>False) _).alloc _).obj this id
 have oR:W.heap[g+1]? = some (.cells #[.int .i64 0,.slice none 0 0,.slice none 0 0] 96 (0,0)):=by
  have:=heap_alloc_new (w.alloc (.cells #[.int .i64 hh,.slice ba nb bc,.slice ka nk kc] 96)) (.cells #[.int .i64 0,.slice none 0 0,.slice none 0 0] 96)
  rw[hW] at this
  simpa [hg] using this
 have ofR:Off sb b T cb tv W (g+1):=c.fresh (by omega) (by omega)
 have wi1:IntKind.i64.wrap ((i:Int)+1)=(i:Int)+1:=(wrap_small _ (by omega) (by omega)).1
 have FIN:=@Hd _ (fun(w1 w2:World) (e:Ending) (f1:St W w1) (L:Lss nu sz w0 hb sb b T0 A cb w1 T P tv m h hh ln w2 e)=>L.done (g1:=g+1) (ofR.still f1).2 (f1.obj oR id) (fW.trans' f1 nE) (by omega) (by omega))
 have HIT:=@Hd _ IT;have HLE:=@Hd _ LE;have HSZ:=@Hd _ SZ;have HWO:=@Hd _ WO;have HRP:=@Hd _ RP;have HBO:=@Hd _ BO;have HS16:=@Hd _ s16;have HW:=Hd hW;have HFW:=Hd fW
 have HCE:=@Hd _ (fun(w1:World) (f1:St W w1)=>show w1.cell? ⟨g,0,none⟩=some (.int .i64 hh)/\w1.cell? ⟨g,1,none⟩=some (.slice ba nb bc)/\w1.cell? ⟨g,2,none⟩=some (.slice ka nk kc) from⟨cOo (f1.obj oA id) 0,cOo (f1.obj oA id) 1,cOo (f1.obj oA id) 2⟩)
 clear IT LE SZ WO RP BO s16 hW fW zW oA oR ofR c h0
 go_enter Tryz.func102,Tryz.ntmps102
 go_wp2_with fail
 rw[uh HW]
 refine(uh HIT W (uh HFW)).mono ?_
 rintro e w1 ⟨ia,ic,rfl,f1⟩
 by_cases hq0:q=0
 ·have hqe:((q:Int) == 0)=true:=by simp;omega
  have K:=Hd (uh HWO hq0 w1 ((uh HFW).trans' f1 nE))
  obtain⟨d0,d1,d2⟩:=uh HCE w1 f1
  have HF1:=Hd f1
  clear f1
  go_wp2_with fail
  refine(uh K).mono ?_
  clear K d0 d1 d2
  intro e w2 L
  obtain⟨va,nb',vc,ua,nk',uc,rfl,o5,FN⟩:=uh FIN _ w2 e (uh HF1) L
  clear L
  have r0:w2.cell? ⟨g+1,0,none⟩=some (.int .i64 0):=cOo o5 0
  have r1:w2.cell? ⟨g+1,1,none⟩=some (.slice none 0 0):=cOo o5 1
  have r2:w2.cell? ⟨g+1,2,none⟩=some (.slice none 0 0):=cOo o5 2
  have rz:∀o,w2.frozen? ⟨g+1,o,none⟩=false:=fun o=>by simp[World.frozen?,o5]
  have HFN:=@Hd _ FN;have HO5:=Hd o5
  clear FN o5 HBO HRP HWO HIT HLE HSZ HCE FIN
  go_wp2_with fail
  have o5:=uh HO5
  have oF:=heap_setCell_same _ (g+1) 2 _ _ (.slice ua nk' uc) (heap_setCell_same _ (g+1) 1 _ _ (.slice va nb' vc) (heap_setCell_same w2 (g+1) 0 _ _ (.int .i64 (hh:Nat)) o5))
  obtain⟨w3,hw3⟩:∃w3,((w2.setCell ⟨g+1,0,none⟩ (.int .i64 (hh:Nat))).setCell ⟨g+1,1,none⟩ (.slice va nb' vc)).setCell ⟨g+1,2,none⟩ (.slice ua nk' uc)=w3:=⟨_,rfl⟩
  have f6:Fr (fun k=>k=g+1) w2 w3:=hw3▸(((Fr.refl (fun k=>k=g+1) w2).setCell (.inl rfl) _).setCell (.inl rfl) _).setCell (.inl rfl) _
  rw[hw3] at oF
  refine bodyPost_ret (results_cell_row Tryz.results102 _ _ (g+1) 96 #[.int .i64 hh,.slice va nb' vc,.slice ua nk' uc] (0,0) _ (by rfl) (by rw[hw3];exact oF) Tryz.underlying96 rfl (by kernel_rfl)) rfl ?_
  rw[hw3]
  exact uh HFN w3 f6
 ·have hqe:((q:Int) == 0)=false:=by simp;omega
  have K:=Hd (uh HSZ w1 ((uh HFW).trans' f1 nE))
  have HF1:=Hd f1
  clear f1
  go_wp2_with fail
  refine(uh K).mono ?_
  clear K
  rintro e w2 ⟨rfl,f2⟩
  have f02:St W w2:=(uh HF1).trans' f2 nE
  have HF2:=Hd f02
  clear f2 f02
  by_cases h16:16<sn
  ·have h16':((16:Int)<sn)=True:=by simp;omega
   have K:=Hd (uh HRP (uh HS16 h16) hq0 w2 ((uh HFW).trans' (uh HF2) nE))
   obtain⟨d0,d1,d2⟩:=uh HCE w2 (uh HF2)
   go_wp2_with fail
   refine(uh K).mono ?_
   clear K d0 d1 d2
   intro e w2 L
   obtain⟨va,nb',vc,ua,nk',uc,rfl,o5,FN⟩:=uh FIN _ w2 e (uh HF2) L
   clear L
   have r0:w2.cell? ⟨g+1,0,none⟩=some (.int .i64 0):=cOo o5 0
   have r1:w2.cell? ⟨g+1,1,none⟩=some (.slice none 0 0):=cOo o5 1
   have r2:w2.cell? ⟨g+1,2,none⟩=some (.slice none 0 0):=cOo o5 2
   have rz:∀o,w2.frozen? ⟨g+1,o,none⟩=false:=fun o=>by simp[World.frozen?,o5]
   have HFN:=@Hd _ FN;have HO5:=Hd o5
   clear FN o5 HBO HRP HWO HIT HLE HSZ HCE FIN
   go_wp2_with fail
   have o5:=uh HO5
   have oF:=heap_setCell_same _ (g+1) 2 _ _ (.slice ua nk' uc) (heap_setCell_same _ (g+1) 1 _ _ (.slice va nb' vc) (heap_setCell_same w2 (g+1) 0 _ _ (.int .i64 (hh:Nat)) o5))
   obtain⟨w3,hw3⟩:∃w3,((w2.setCell ⟨g+1,0,none⟩ (.int .i64 (hh:Nat))).setCell ⟨g+1,1,none⟩ (.slice va nb' vc)).setCell ⟨g+1,2,none⟩ (.slice ua nk' uc)=w3:=⟨_,rfl⟩
   have f6:Fr (fun k=>k=g+1) w2 w3:=hw3▸(((Fr.refl (fun k=>k=g+1) w2).setCell (.inl rfl) _).setCell (.inl rfl) _).setCell (.inl rfl) _
   rw[hw3] at oF
   refine bodyPost_ret (results_cell_row Tryz.results102 _ _ (g+1) 96 #[.int .i64 hh,.slice va nb' vc,.slice ua nk' uc] (0,0) _ (by rfl) (by rw[hw3];exact oF) Tryz.underlying96 rfl (by kernel_rfl)) rfl ?_
   rw[hw3]
   exact uh HFN w3 f6
  ·have h16':((16:Int)<sn)=False:=by simp;omega
   go_wp2_with fail
   go_loopw [9] (fun l9 wr=>∃left:Nat,l9 = .int .i64 left/\(left=i - 1\/(i - 1<=left/\left<=i+1/\lam<=q))/\St W wr) (fun l9 _=>i+2 - (intOf l9).toNat)
   case atStart=>exact⟨i - 1,by rw[show max ((i:Int) - 1) 0=((i - 1:Nat):Int) by omega],.inl rfl,uh HF2⟩
   case round=>
    obtain⟨left,rfl,hleft,fr⟩:=hrel
    generalize wr=wq at *
    clear wr
    have wl1:IntKind.i64.wrap ((left:Int)+1)=(left:Int)+1:=(wrap_small _ (by omega) (by omega)).1
    have wl2:IntKind.i64.wrap ((left:Int)+2)=(left:Int)+2:=(wrap_small _ (by omega) (by omega)).1
    obtain⟨d0,d1,d2⟩:=uh HCE wq fr
    by_cases hA:left<=i/\left+1<nk
    ·have hA1:((left:Int)<=i)=True:=by simp;omega
     have hA2:((left:Int)+1<nk)=True:=by simp;omega
     have K:=Hd (uh HBO left (by omega) hA.2 hq0 wq ((uh HFW).trans' fr nE))
     have HFR:=Hd fr
     clear fr
     go_wp2_with fail
     refine(uh K).mono ?_
     clear K d0 d1 d2
     rintro e w3 ⟨nj,sj,rfl,f3,hs3,SJ,RJ⟩
     have f03:St W w3:=(uh HFR).trans' f3 nE
     have K:=Hd (SJ w3 (Fr.refl _ _))
     have HF3:=Hd f03;have HRJ:=@Hd _ RJ
     clear SJ RJ f3 f03
     go_wp2_with fail
     refine(uh K).mono ?_
     clear K
     rintro e w4 ⟨rfl,f4⟩
     have f04:St W w4:=(uh HF3).trans' f4 nE
     by_cases h32:sj<=32
     ·have h32':((sj:Int)<=32)=True:=by simp;omega
      have K:=Hd (uh HRJ (.inl h32) w4 f4)
      obtain⟨d0,d1,d2⟩:=uh HCE w4 f04
      have HF4:=Hd f04
      clear f4 f04
      go_wp2_with fail
      refine(uh K).mono ?_
      clear K d0 d1 d2
      intro e w2 L
      obtain⟨va,nb',vc,ua,nk',uc,rfl,o5,FN⟩:=uh FIN _ w2 e (uh HF4) L
      clear L
      have r0:w2.cell? ⟨g+1,0,none⟩=some (.int .i64 0):=cOo o5 0
      have r1:w2.cell? ⟨g+1,1,none⟩=some (.slice none 0 0):=cOo o5 1
      have r2:w2.cell? ⟨g+1,2,none⟩=some (.slice none 0 0):=cOo o5 2
      have rz:∀o,w2.frozen? ⟨g+1,o,none⟩=false:=fun o=>by simp[World.frozen?,o5]
      have HFN:=@Hd _ FN;have HO5:=Hd o5
      clear FN o5 HBO HRP HWO HIT HLE HSZ HCE FIN
      go_wp2_with fail
      have o5:=uh HO5
      have oF:=heap_setCell_same _ (g+1) 2 _ _ (.slice ua nk' uc) (heap_setCell_same _ (g+1) 1 _ _ (.slice va nb' vc) (heap_setCell_same w2 (g+1) 0 _ _ (.int .i64 (hh:Nat)) o5))
      obtain⟨w3,hw3⟩:∃w3,((w2.setCell ⟨g+1,0,none⟩ (.int .i64 (hh:Nat))).setCell ⟨g+1,1,none⟩ (.slice va nb' vc)).setCell ⟨g+1,2,none⟩ (.slice ua nk' uc)=w3:=⟨_,rfl⟩
      have f6:Fr (fun k=>k=g+1) w2 w3:=hw3▸(((Fr.refl (fun k=>k=g+1) w2).setCell (.inl rfl) _).setCell (.inl rfl) _).setCell (.inl rfl) _
      rw[hw3] at oF
      refine bodyPost_ret (results_cell_row Tryz.results102 _ _ (g+1) 96 #[.int .i64 hh,.slice va nb' vc,.slice ua nk' uc] (0,0) _ (by rfl) (by rw[hw3];exact oF) Tryz.underlying96 rfl (by kernel_rfl)) rfl ?_
      rw[hw3]
      exact uh HFN w3 f6
     ·have h32':((sj:Int)<=32)=False:=by simp;omega
      have K:=Hd (uh HIT w4 ((uh HFW).trans' f04 nE))
      have HF4:=Hd (ai f4 f04)
      clear f4 f04
      go_wp2_with fail
      refine(uh K).mono ?_
      clear K
      rintro e w5 ⟨ja,jc,rfl,f5⟩
      have K:=Hd (uh HLE w5)
      have HF5:=Hd f5
      clear f5
      go_wp2_with fail
      refine(uh K).mono ?_
      clear K
      rintro e w6 ⟨rfl,f6⟩
      have f46:St w4 w6:=(uh HF5).trans' f6 nE
      have f06:St W w6:=(uh HF4).2.trans' f46 nE
      by_cases hql:q<lam
      ·have hql':((q:Int)<lam)=True:=by simp;omega
       have K:=Hd (uh HRJ (.inr hql) w6 ((uh HF4).1.trans' f46 nE))
       obtain⟨d0,d1,d2⟩:=uh HCE w6 f06
       have HF6:=Hd f06
       clear f6 f46 f06
       go_wp2_with fail
       refine(uh K).mono ?_
       clear K d0 d1 d2
       intro e w2 L
       obtain⟨va,nb',vc,ua,nk',uc,rfl,o5,FN⟩:=uh FIN _ w2 e (uh HF6) L
       clear L
       have r0:w2.cell? ⟨g+1,0,none⟩=some (.int .i64 0):=cOo o5 0
       have r1:w2.cell? ⟨g+1,1,none⟩=some (.slice none 0 0):=cOo o5 1
       have r2:w2.cell? ⟨g+1,2,none⟩=some (.slice none 0 0):=cOo o5 2
       have rz:∀o,w2.frozen? ⟨g+1,o,none⟩=false:=fun o=>by simp[World.frozen?,o5]
       have HFN:=@Hd _ FN;have HO5:=Hd o5
       clear FN o5 HBO HRP HWO HIT HLE HSZ HCE FIN
       go_wp2_with fail
       have o5:=uh HO5
       have oF:=heap_setCell_same _ (g+1) 2 _ _ (.slice ua nk' uc) (heap_setCell_same _ (g+1) 1 _ _ (.slice va nb' vc) (heap_setCell_same w2 (g+1) 0 _ _ (.int .i64 (hh:Nat)) o5))
       obtain⟨w3,hw3⟩:∃w3,((w2.setCell ⟨g+1,0,none⟩ (.int .i64 (hh:Nat))).setCell ⟨g+1,1,none⟩ (.slice va nb' vc)).setCell ⟨g+1,2,none⟩ (.slice ua nk' uc)=w3:=⟨_,rfl⟩
       have f6:Fr (fun k=>k=g+1) w2 w3:=hw3▸(((Fr.refl (fun k=>k=g+1) w2).setCell (.inl rfl) _).setCell (.inl rfl) _).setCell (.inl rfl) _
       rw[hw3] at oF
       refine bodyPost_ret (results_cell_row Tryz.results102 _ _ (g+1) 96 #[.int .i64 hh,.slice va nb' vc,.slice ua nk' uc] (0,0) _ (by rfl) (by rw[hw3];exact oF) Tryz.underlying96 rfl (by kernel_rfl)) rfl ?_
       rw[hw3]
       exact uh HFN w3 f6
      ·have hql':((q:Int)<lam)=False:=by simp;omega
       have HF6:=Hd f06
       clear f6 f46 f06
       go_wp2_with fail
       exact⟨⟨left+1,by simp,.inr ⟨by omega,by omega,by omega⟩,uh HF6⟩,by simp[intOf];omega⟩
    ·have hlam:lam<=q:=by omega
     have K:=Hd (uh HRP hlam hq0 wq ((uh HFW).trans' fr nE))
     have HFR:=Hd fr
     clear fr
     rcases (show i<left\/(left<=i/\nk<=left+1) by omega) with hB | hB
     ·have hA1:((left:Int)<=i)=False:=by simp;omega
      go_wp2_with fail
      refine(uh K).mono ?_
      clear K d0 d1 d2
      intro e w2 L
      obtain⟨va,nb',vc,ua,nk',uc,rfl,o5,FN⟩:=uh FIN _ w2 e (uh HFR) L
      clear L
      have r0:w2.cell? ⟨g+1,0,none⟩=some (.int .i64 0):=cOo o5 0
      have r1:w2.cell? ⟨g+1,1,none⟩=some (.slice none 0 0):=cOo o5 1
      have r2:w2.cell? ⟨g+1,2,none⟩=some (.slice none 0 0):=cOo o5 2
      have rz:∀o,w2.frozen? ⟨g+1,o,none⟩=false:=fun o=>by simp[World.frozen?,o5]
      have HFN:=@Hd _ FN;have HO5:=Hd o5
      clear FN o5 HBO HRP HWO HIT HLE HSZ HCE FIN
      go_wp2_with fail
      have o5:=uh HO5
      have oF:=heap_setCell_same _ (g+1) 2 _ _ (.slice ua nk' uc) (heap_setCell_same _ (g+1) 1 _ _ (.slice va nb' vc) (heap_setCell_same w2 (g+1) 0 _ _ (.int .i64 (hh:Nat)) o5))
      obtain⟨w3,hw3⟩:∃w3,((w2.setCell ⟨g+1,0,none⟩ (.int .i64 (hh:Nat))).setCell ⟨g+1,1,none⟩ (.slice va nb' vc)).setCell ⟨g+1,2,none⟩ (.slice ua nk' uc)=w3:=⟨_,rfl⟩
      have f6:Fr (fun k=>k=g+1) w2 w3:=hw3▸(((Fr.refl (fun k=>k=g+1) w2).setCell (.inl rfl) _).setCell (.inl rfl) _).setCell (.inl rfl) _
      rw[hw3] at oF
      refine bodyPost_ret (results_cell_row Tryz.results102 _ _ (g+1) 96 #[.int .i64 hh,.slice va nb' vc,.slice ua nk' uc] (0,0) _ (by rfl) (by rw[hw3];exact oF) Tryz.underlying96 rfl (by kernel_rfl)) rfl ?_
      rw[hw3]
      exact uh HFN w3 f6
     ·have hA1:((left:Int)<=i)=True:=by simp;omega
      have hA2:((left:Int)+1<nk)=False:=by simp;omega
      go_wp2_with fail
      refine(uh K).mono ?_
      clear K d0 d1 d2
      intro e w2 L
      obtain⟨va,nb',vc,ua,nk',uc,rfl,o5,FN⟩:=uh FIN _ w2 e (uh HFR) L
      clear L
      have r0:w2.cell? ⟨g+1,0,none⟩=some (.int .i64 0):=cOo o5 0
      have r1:w2.cell? ⟨g+1,1,none⟩=some (.slice none 0 0):=cOo o5 1
      have r2:w2.cell? ⟨g+1,2,none⟩=some (.slice none 0 0):=cOo o5 2
      have rz:∀o,w2.frozen? ⟨g+1,o,none⟩=false:=fun o=>by simp[World.frozen?,o5]
      have HFN:=@Hd _ FN;have HO5:=Hd o5
      clear FN o5 HBO HRP HWO HIT HLE HSZ HCE FIN
      go_wp2_with fail
      have o5:=uh HO5
      have oF:=heap_setCell_same _ (g+1) 2 _ _ (.slice ua nk' uc) (heap_setCell_same _ (g+1) 1 _ _ (.slice va nb' vc) (heap_setCell_same w2 (g+1) 0 _ _ (.int .i64 (hh:Nat)) o5))
      obtain⟨w3,hw3⟩:∃w3,((w2.setCell ⟨g+1,0,none⟩ (.int .i64 (hh:Nat))).setCell ⟨g+1,1,none⟩ (.slice va nb' vc)).setCell ⟨g+1,2,none⟩ (.slice ua nk' uc)=w3:=⟨_,rfl⟩
      have f6:Fr (fun k=>k=g+1) w2 w3:=hw3▸(((Fr.refl (fun k=>k=g+1) w2).setCell (.inl rfl) _).setCell (.inl rfl) _).setCell (.inl rfl) _
      rw[hw3] at oF
      refine bodyPost_ret (results_cell_row Tryz.results102 _ _ (g+1) 96 #[.int .i64 hh,.slice va nb' vc,.slice ua nk' uc] (0,0) _ (by rfl) (by rw[hw3];exact oF) Tryz.underlying96 rfl (by kernel_rfl)) rfl ?_
      rw[hw3]
      exact uh HFN w3 f6
end
end

section
def jnN (n:Nd) (x:ByteArray) (k:Nd):Nd:=match n,k with
 | ⟨.inl l1⟩,⟨.inl l2⟩=>.lf (l1 ++ l2)
 | ⟨.inr (h,B,ks)⟩,⟨.inr (_,B2,ks2)⟩=>.br h (B ++ x :: B2) (ks ++ ks2)
 | n,_=>n
def Twin (n k:Nd):Prop:=(∃l1 l2,n = .lf l1/\k = .lf l2)\/∃h1 B1 k1 h2 B2 k2,n = .br h1 B1 k1/\k = .br h2 B2 k2
theorem y_join {F G:Nat->Prop} {w:World} {vA vB:Value} {nA nB:Nd} (x:ByteArray) (hA:NdO F w vA nA) (hB:NdO G w vB nB) (tw:Twin nA nB) (i1:nA.items.length<=400) (i2:nB.items.length<=400) (k1:nA.keys.length<=400) (k2:nB.keys.length<=400) :
  Calls Tryz.prog 186 #[vA,.string x,vB] w fun e w'=>∃nv,e = .returned nv/\NdO (fun k=>w.heap.size<=k/\k<w'.heap.size) w' nv (jnN nA x nB)/\St w w':=by
 rcases tw with ⟨l1,l2,rfl,rfl⟩ | ⟨h1,B1,K1,h2,B2,K2,rfl,rfl⟩
 ·obtain⟨a1,c1,rfl,L1,_⟩:=hA
  obtain⟨a2,c2,rfl,L2,_⟩:=hB
  simp only[Nd.items,List.length_map] at i1 i2
  exact y_joinL a1 a2 c1 c2 l1 l2 x w L1 L2 (by omega) (by omega)
 ·obtain⟨ba,bc,ka,kc,rfl,a1,a2,_,_⟩:=hA
  obtain⟨ba2,bc2,ka2,kc2,rfl,b1,b2,_,_⟩:=hB
  simp only[Nd.items,Nd.keys,List.length_map] at i1 i2 k1 k2
  exact y_joinB h1 h2 ba bc B1 ka kc K1 ba2 bc2 B2 ka2 kc2 K2 x w a1 a2 b1 b2 (by omega) (by omega) (by omega) (by omega)
section
variable {nu sz h:Nat} {f:Nat->Int} {nA nB:Nd} {lA lB:List Pr} {QA QB:List Nat} {x:ByteArray}
theorem Un.twin {hh:Nat} {T T':Nat->List Pr->List Nat->Prop} (a:Un nu T hh nA lA QA) (b:Un nu T' hh nB lB QB):Twin nA nB:=by
 rcases a with ⟨e,rfl,_⟩ | ⟨e,B,ks,rfl,_⟩
 ·rcases b with ⟨_,rfl,_⟩ | ⟨e2,_⟩
  ·exact .inl ⟨_,_,rfl,rfl⟩
  ·omega
 ·rcases b with ⟨e2,_⟩ | ⟨_,B2,ks2,rfl,_⟩
  ·omega
  ·exact .inr ⟨_,_,_,_,_,_,rfl,rfl⟩
theorem Un.join (a:Un nu (Tr nu sz f h) (h+1) nA lA QA) (b:Un nu (Tr nu sz f h) (h+1) nB lB QB) (hb:Blw lA x) (hn:Nbl lB x) (hx:1<=x.size/\x.size<=80):Un nu (Tr nu sz f h) (h+1) (jnN nA x nB) (lA ++ lB) (QA ++ QB)/\(jnN nA x nB).items.length=nA.items.length+nB.items.length:=by
 rcases a with ⟨e,rfl,h1,rfl⟩ | ⟨e,B,ks,rfl,F⟩
 ·rcases b with ⟨_,rfl,h2,rfl⟩ | ⟨e2,_⟩
  ·exact⟨.inl ⟨e,rfl,by simp[h1],rfl⟩,by simp[jnN,Nd.items]⟩
  ·omega
 ·rcases b with ⟨e2,_⟩ | ⟨_,B2,ks2,rfl,F2⟩
  ·omega
  ·refine⟨.inr ⟨e,_,ks ++ ks2,?_,F.join F2 hb hn hx⟩,by simp[jnN,Nd.items]⟩
   simp[jnN]
theorem Un.one (a:Un nu (Tr nu sz f h) (h+1) nA lA QA) (h1:1<=h) (hi:nA.items.length<2):nA.items.length=1/\nA.keys = []:=by
 rcases a with ⟨e,_⟩ | ⟨_,B,ks,rfl,F⟩
 ·omega
 ·have hl:=F.2.2.2.1.len
  simp only[Nd.items,Nd.keys,List.length_map] at *
  exact⟨by omega,List.length_eq_zero_iff.1 (by omega)⟩
theorem jn_size (tw:Twin nA nB) (hk:∃B ks h,nA = .br h B ks) (hx:x.size<=80) (hh:(nA.items.length=1/\nA.keys = [])\/(nB.items.length=1/\nB.keys = [])) (s1:nA.size<=32) (s2:nB.size<=32):(jnN nA x nB).size<=46:=by
 rcases tw with ⟨l1,l2,rfl,rfl⟩ | ⟨h1,B1,K1,h2,B2,K2,rfl,rfl⟩
 ·obtain⟨_,_,_,e⟩:=hk;cases e
 ·show(Nd.br h1 (B1 ++ x :: B2) (K1 ++ K2)).size<=46
  rw[br_size] at s1 s2 ⊢
  simp only[Nd.items,Nd.keys,List.length_map] at hh
  rw[List.length_append]
  exact join_size hx hh s1 s2
theorem Un.few (a:Un nu (Tr nu sz f h) (h+1) nA lA QA) (s:nA.size<=46):nA.items.length<=46/\nA.keys.length<=46:=by
 have e:nA.size=hsz nA.items.length (kb nA.keys):=rfl
 unfold hsz need at e
 rcases a with ⟨_,rfl,_⟩ | ⟨_,B,ks,rfl,F⟩
 ·simp only[Nd.items,Nd.keys,List.length_map] at *;omega
 ·have hl:=F.2.2.2.1.len
  simp only[Nd.items,Nd.keys,List.length_map] at *
  omega
end
end
end Go.Proofs.YtbiopjmpdhcjgaaGreatDoor
