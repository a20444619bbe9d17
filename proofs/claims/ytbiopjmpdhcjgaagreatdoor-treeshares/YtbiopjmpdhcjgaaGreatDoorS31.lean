/- Joined: Kr Ku Kz Da. -/
import Derived.Test.YtbiopjmpdhcjgaaGreatDoorS22
import Derived.Test.YtbiopjmpdhcjgaaGreatDoorS25
import Derived.Test.YtbiopjmpdhcjgaaGreatDoorS29
import Derived.Test.YtbiopjmpdhcjgaaGreatDoorS30
namespace Go.Proofs.YtbiopjmpdhcjgaaGreatDoor
open Go.RowKit
set_option maxHeartbeats 4000000
def wthL (l:List Pr) (k j:Nat) (x:ByteArray) (v:Nat) (gone:Bool):List Pr:=l.take k ++ ((if gone then [] else [(x,v)]) ++ l.drop j)
set_option maxRecDepth 100000 in
theorem l11_with (a:Option Addr) (c:Nat) (l:List Pr) (x:ByteArray) (v k j:Nat) (gone:Bool) (w:World) (h:Lf w a c l) (hl:l.length<=500) (hk:k<=l.length) (h1:∀t,t<k->ltK (l.getD t default).1 x) (h2:k<l.length->¬ltK (l.getD k default).1 x)
  (hj:j=if k<l.length/\(l.getD k default).1=x then k+1 else k) :
  Calls Tryz.prog 31 #[.slice a l.length c,.agg #[.string x,.int .u64 (v:Nat)],.bool gone] w fun e w'=>∃u,e = .returned u/\w'.ownsRow w.heap.size 43 2 u (wthL l k j x v gone).length (pcl (wthL l k j x v gone))/\St w w':=by
 obtain⟨g,hg⟩:∃g,w.heap.size=g:=⟨_,rfl⟩
 obtain⟨W0,hW0⟩:∃W0,w.alloc (.cells #[.string x,.int .u64 (v:Nat)] 43)=W0:=⟨_,rfl⟩
 have f0:St w W0:=hW0▸(Fr.refl _ w).alloc _
 have z0:W0.heap.size=g+1:=by rw[<-hW0];simp[hg]
 have o0:W0.heap[g]? = some (.cells #[.string x,.int .u64 (v:Nat)] 43 (0,0)):=by rw[<-hg,<-hW0];exact heap_alloc_new w _
 have hjn:j<=l.length/\k<=j:=by rw[hj];split <;> omega
 have hcap:=h.cap
 have sf:=fun w=>slice_fromZ elt_Q (by kernel_rfl) a l.length c j w hjn.1
 have HX:=Hd (ai (h.still f0) (ai f0 (ai o0 (ai h1 (ai h2 hj)))));have HW0:=Hd hW0
 clear h f0 hW0 h1 h2 hj o0
 have e1:∀gone,(wthL l k j x v gone).length=(if gone then k else k+1)+(l.length - j):=fun gone=>by
  cases gone <;> simp[wthL] <;> omega
 have e2:∀gone,pcl (wthL l k j x v gone)=pcl (l.take k ++ (if gone then [] else [(x,v)])) ++ pcl (l.drop j):=fun gone=>by
  rw[<-pcl_app];unfold wthL;rw[List.append_assoc]
 have HE:=Hd (ai e1 e2)
 clear e1 e2
 cases gone
 ·go_enter Tryz.func31,Tryz.ntmps31
  go_wp2_with fail
  rw[uh HW0]
  go_loopw [7,8] (fun u iv wr=>∃r:Nat,r<=k/\iv = .int .i64 r/\wr.ownsRow (g+1) 43 2 u r (pcl (l.take r))/\St W0 wr) (fun _ iv _=>l.length - (intOf iv).toNat)
  case atStart=>exact⟨0,by omega,rfl,World.ownsRow_nil _ _ _ _,Fr.refl _ _⟩
  case round=>
   obtain⟨r,hrk,rfl,hrow,fr⟩:=hrel
   generalize wr=wq at *
   clear wr
   obtain⟨h,f0,o0,h1,h2,hj⟩:=uh HX
   have c0:wq.cell? ⟨g,0,none⟩=some (.string x):=fr.cell' (cOo o0 0) id
   have c00:wq.cell? ⟨g,1,none⟩=some (.int .u64 (v:Nat)):=fr.cell' (cOo o0 1) id
   by_cases hlt:r<k
   ·skip
    obtain⟨p,hp⟩:∃p,l[r]? = some p:=⟨_,List.getElem?_eq_getElem (by omega)⟩
    obtain⟨b,o,rfl,c1,c2⟩:=h.pair hp
    replace c1:=fr.cell' c1 id
    replace c2:=fr.cell' c2 id
    have lx:Op.bytesLess p.1.toList x.toList=true:=by
     rw[less_eq]
     exact decide_eq_true (by have:=h1 r hlt;simpa [List.getD,hp] using this)
    have hlt':((r:Int)<l.length)=True:=by simp;omega
    have HF:=Hd (ai hrow (ai fr hp))
    clear h f0 o0 h1 h2 hj hrow fr hp
    go_wp2_with fail
    refine region_tailP 13 (by kernel_rfl) (by kernel_rfl) ?_
    simp only[List.take_succ_cons,List.take_zero,List.drop_succ_cons,List.drop_zero]
    repeat (go_big_quiet_step (fail))
    refine wpQuiet_nil ?_
    rintro _ ⟨nq,rfl⟩
    obtain⟨hrow,fr,hp⟩:=uh HF
    obtain⟨Wd,hWd⟩:∃Wd,wq.drewN nq=Wd:=⟨_,rfl⟩
    have fd:St wq Wd:=hWd▸(Fr.refl _ wq).drewN nq
    rw[hWd]
    replace c1:=fd.cell' c1 id
    replace c2:=fd.cell' c2 id
    obtain⟨W1,hW1⟩:∃W1,Wd.alloc (.cells #[.string p.1,.int .u64 (p.2:Nat)] 43)=W1:=⟨_,rfl⟩
    have f1:St Wd W1:=hW1▸(Fr.refl _ Wd).alloc _
    obtain⟨u',w2,hap,hw2,hgr,hloc⟩:=run_more elt_Q 33 (own_still (own_still hrow fd) f1) (sl_pair Wd W1 p hW1) (by omega) (by have:=fr.size;have:=fd.size;have:=f1.size;omega)
    have ht:pcl (l.take (r+1))=pcl (l.take r) ++ pcl [p]:=by
     rw[List.take_add_one,hp,pcl_app];rfl
    have HZ:=Hd (show w2.ownsRow (g+1) 43 2 u' (r+1) (pcl (l.take (r+1)))/\St W0 w2 from⟨by rw[ht];exact hw2,((fr.trans' fd nE).trans' f1 nE).grown hgr (fun k hk=>.inr (by have:=(hrow.lt k hk).1;omega))⟩)
    have HAP:=Hd hap;have HW1:=Hd hW1
    clear hap hw2 hgr hloc ht f1 hW1 fd hWd hrow fr hp c0 c00 lx
    go_wp2_with (first | (at_builtin;rw[uh HW1];refine wpList_append_run rfl (.tmp 23) (.tmp 28) 33 rfl _ _ rfl rfl u' w2 (uh HAP) ?_) | fail)
    obtain⟨hw2,f2⟩:=uh HZ
    exact⟨⟨r+1,by omega,by simp,hw2,f2⟩,by simp[intOf];omega⟩
   ·skip
    have erk:r=k:=by omega
    subst erk
    by_cases hkl:r<l.length
    ·obtain⟨p,hp⟩:∃p,l[r]? = some p:=⟨_,List.getElem?_eq_getElem (by omega)⟩
     have ep:l.getD r default=p:=by simp[List.getD,hp]
     rw[ep] at hj
     have hnl:=h2 hkl
     rw[ep] at hnl
     have lx:Op.bytesLess p.1.toList x.toList=false:=by rw[less_eq];exact decide_eq_false hnl
     have hlt':((r:Int)<l.length)=True:=by simp;omega
     obtain⟨b,o,rfl,k1,k2⟩:=h.pair hp
     have c1:=fr.cell' k1 id
     by_cases hx:p.1=x
     ·have hj':j=r+1:=by rw[hj,if_pos ⟨hkl,hx⟩]
      subst hj'
      have sl:=fun w=>(show(Instr.slice 33 (.slice (some ⟨b,o,none⟩) l.length c) (some (.int .i64 ((r:Int)+1))) none none).run Tryz.prog w=_ from sf w)
      have hq:(p.1.toList == x.toList)=true:=by rw[hx];simp
      clear hp ep hnl hx k2 sf
      have HF:=Hd (ai hrow (ai fr (ai h o0)))
      clear h f0 o0 h1 h2 hj hrow fr
      go_wp2_with fail
      refine region_tailP 13 (by kernel_rfl) (by kernel_rfl) ?_
      simp only[List.take_succ_cons,List.take_zero,List.drop_succ_cons,List.drop_zero]
      repeat (go_big_quiet_step (fail))
      refine wpQuiet_nil ?_
      rintro _ ⟨nq,rfl⟩
      obtain⟨hrow,fr,h,o0⟩:=uh HF
      obtain⟨Wd,hWd⟩:∃Wd,wq.drewN nq=Wd:=⟨_,rfl⟩
      have fd:St wq Wd:=hWd▸(Fr.refl _ wq).drewN nq
      rw[hWd]
      have fWd:St W0 Wd:=fr.trans' fd nE
      replace c0:=fd.cell' c0 id
      replace c00:=fd.cell' c00 id
      obtain⟨W1,hW1⟩:∃W1,Wd.alloc (.cells #[.string x,.int .u64 (v:Nat)] 43)=W1:=⟨_,rfl⟩
      have f1:St Wd W1:=hW1▸(Fr.refl _ Wd).alloc _
      obtain⟨u',w2,hap,hw2,hgr,hloc⟩:=run_more elt_Q 33 (own_still (own_still hrow fd) f1) (sl_pair Wd W1 (x,v) hW1) (by omega) (by have:=fWd.size;have:=f1.size;omega)
      have fw2:St W0 w2:=(fWd.trans' f1 nE).grown hgr (fun k hk=>.inr (by have:=(hrow.lt k hk).1;omega))
      have HM:=Hd (show w2.ownsRow (g+1) 43 2 u' (r+1) (pcl (l.take r ++ [(x,v)]))/\St W0 w2/\Lf W0 _ c l from⟨by rw[pcl_app];exact hw2,fw2,h⟩)
      have c1':=fw2.cell' k1 id
      have c0':=fw2.cell' (cOo o0 0) id
      have HAP:=Hd hap;have HW1:=Hd hW1
      clear hap hw2 hgr hloc f1 fw2 hW1 fd fWd hWd hrow fr h o0 HF
      go_wp2_with (first | (at_builtin;rw[uh HW1];refine wpList_append_run rfl (.tmp 34) (.tmp 36) 33 rfl _ _ rfl rfl u' w2 (uh HAP) ?_) | fail)
      refine region_tailP 13 (by kernel_rfl) (by kernel_rfl) ?_
      simp only[List.take_succ_cons,List.take_zero,List.drop_succ_cons,List.drop_zero]
      repeat (go_big_quiet_step (fail))
      refine wpQuiet_nil ?_
      rintro _ ⟨nq2,rfl⟩
      obtain⟨Wx,hWx⟩:∃Wx,w2.drewN nq2=Wx:=⟨_,rfl⟩
      have fx:St w2 Wx:=hWx▸(Fr.refl _ w2).drewN nq2
      rw[hWx]
      obtain⟨hrm0,fm0,S⟩:=uh HM
      have hrm:=own_still hrm0 fx
      have fm:=fm0.trans' fx nE
      have Sd:=(S.still fm).drop _ hjn.1
      rw[pcl_drop] at Sd
      obtain⟨u3,w3,hap3,hw3,hgr3,hloc3⟩:=run_more elt_Q 33 hrm Sd (by omega) (by have:=fm.size;omega)
      have HAP3:=Hd hap3
      have HZ:=Hd (show w3.ownsRow g 43 2 u3 _ _/\St W0 w3 from⟨own_lo hw3 (by omega),fm.grown hgr3 (fun k hk=>.inr (by have:=(hrm.lt k hk).1;omega))⟩)
      clear hrm hrm0 fm fm0 S Sd hap3 hw3 hgr3 hloc3 HM fx hWx
      go_wp2_with (first | (at_builtin;refine wpList_append_run rfl (.tmp 54) (.tmp 57) 33 rfl _ _ rfl rfl u3 w3 (uh HAP3) ?_) | fail)
      go_ret
      obtain⟨hw3,f3⟩:=uh HZ
      obtain⟨e1,e2⟩:=uh HE
      refine⟨_,rfl,?_,(uh HX).2.1.trans' f3 nE⟩
      rw[e1,e2,hg]
      exact hw3
     ·have hj':r=j:=by rw[hj,if_neg (fun e=>hx e.2)]
      subst hj'
      have hq:(p.1.toList == x.toList)=false:=by
       simp only[beq_eq_false_iff_ne,ne_eq,Lib.toList_data]
       exact fun e=>hx (bytes_ext e)
      clear hp ep hnl hx k2
      have HF:=Hd (ai hrow (ai fr (ai h o0)))
      clear h f0 o0 h1 h2 hj hrow fr
      go_wp2_with fail
      refine region_tailP 13 (by kernel_rfl) (by kernel_rfl) ?_
      simp only[List.take_succ_cons,List.take_zero,List.drop_succ_cons,List.drop_zero]
      repeat (go_big_quiet_step (fail))
      refine wpQuiet_nil ?_
      rintro _ ⟨nq,rfl⟩
      obtain⟨hrow,fr,h,o0⟩:=uh HF
      obtain⟨Wd,hWd⟩:∃Wd,wq.drewN nq=Wd:=⟨_,rfl⟩
      have fd:St wq Wd:=hWd▸(Fr.refl _ wq).drewN nq
      rw[hWd]
      have fWd:St W0 Wd:=fr.trans' fd nE
      replace c0:=fd.cell' c0 id
      replace c00:=fd.cell' c00 id
      obtain⟨W1,hW1⟩:∃W1,Wd.alloc (.cells #[.string x,.int .u64 (v:Nat)] 43)=W1:=⟨_,rfl⟩
      have f1:St Wd W1:=hW1▸(Fr.refl _ Wd).alloc _
      obtain⟨u',w2,hap,hw2,hgr,hloc⟩:=run_more elt_Q 33 (own_still (own_still hrow fd) f1) (sl_pair Wd W1 (x,v) hW1) (by omega) (by have:=fWd.size;have:=f1.size;omega)
      have fw2:St W0 w2:=(fWd.trans' f1 nE).grown hgr (fun k hk=>.inr (by have:=(hrow.lt k hk).1;omega))
      have HM:=Hd (show w2.ownsRow (g+1) 43 2 u' (r+1) (pcl (l.take r ++ [(x,v)]))/\St W0 w2/\Lf W0 _ c l from⟨by rw[pcl_app];exact hw2,fw2,h⟩)
      have c1':=fw2.cell' k1 id
      have c0':=fw2.cell' (cOo o0 0) id
      have HAP:=Hd hap;have HW1:=Hd hW1
      clear hap hw2 hgr hloc f1 fw2 hW1 fd fWd hWd hrow fr h o0 HF
      go_wp2_with (first | (at_builtin;rw[uh HW1];refine wpList_append_run rfl (.tmp 34) (.tmp 36) 33 rfl _ _ rfl rfl u' w2 (uh HAP) ?_) | fail)
      refine region_tailP 13 (by kernel_rfl) (by kernel_rfl) ?_
      simp only[List.take_succ_cons,List.take_zero,List.drop_succ_cons,List.drop_zero]
      repeat (go_big_quiet_step (fail))
      refine wpQuiet_nil ?_
      rintro _ ⟨nq2,rfl⟩
      obtain⟨Wx,hWx⟩:∃Wx,w2.drewN nq2=Wx:=⟨_,rfl⟩
      have fx:St w2 Wx:=hWx▸(Fr.refl _ w2).drewN nq2
      rw[hWx]
      obtain⟨hrm0,fm0,S⟩:=uh HM
      have hrm:=own_still hrm0 fx
      have fm:=fm0.trans' fx nE
      have Sd:=(S.still fm).drop _ hjn.1
      rw[pcl_drop] at Sd
      obtain⟨u3,w3,hap3,hw3,hgr3,hloc3⟩:=run_more elt_Q 33 hrm Sd (by omega) (by have:=fm.size;omega)
      have HAP3:=Hd hap3
      have HZ:=Hd (show w3.ownsRow g 43 2 u3 _ _/\St W0 w3 from⟨own_lo hw3 (by omega),fm.grown hgr3 (fun k hk=>.inr (by have:=(hrm.lt k hk).1;omega))⟩)
      clear hrm hrm0 fm fm0 S Sd hap3 hw3 hgr3 hloc3 HM fx hWx
      go_wp2_with (first | (at_builtin;refine wpList_append_run rfl (.tmp 54) (.tmp 57) 33 rfl _ _ rfl rfl u3 w3 (uh HAP3) ?_) | fail)
      go_ret
      obtain⟨hw3,f3⟩:=uh HZ
      obtain⟨e1,e2⟩:=uh HE
      refine⟨_,rfl,?_,(uh HX).2.1.trans' f3 nE⟩
      rw[e1,e2,hg]
      exact hw3
    ·have hj':r=j:=by rw[hj,if_neg (fun e=>hkl e.1)]
     subst hj'
     have hlt':((r:Int)<l.length)=False:=by simp;omega
     have HF:=Hd (ai hrow (ai fr (ai h o0)))
     clear h f0 o0 h1 h2 hj hrow fr
     go_wp2_with fail
     refine region_tailP 13 (by kernel_rfl) (by kernel_rfl) ?_
     simp only[List.take_succ_cons,List.take_zero,List.drop_succ_cons,List.drop_zero]
     repeat (go_big_quiet_step (fail))
     refine wpQuiet_nil ?_
     rintro _ ⟨nq,rfl⟩
     obtain⟨hrow,fr,h,o0⟩:=uh HF
     obtain⟨Wd,hWd⟩:∃Wd,wq.drewN nq=Wd:=⟨_,rfl⟩
     have fd:St wq Wd:=hWd▸(Fr.refl _ wq).drewN nq
     rw[hWd]
     have fWd:St W0 Wd:=fr.trans' fd nE
     replace c0:=fd.cell' c0 id
     replace c00:=fd.cell' c00 id
     obtain⟨W1,hW1⟩:∃W1,Wd.alloc (.cells #[.string x,.int .u64 (v:Nat)] 43)=W1:=⟨_,rfl⟩
     have f1:St Wd W1:=hW1▸(Fr.refl _ Wd).alloc _
     obtain⟨u',w2,hap,hw2,hgr,hloc⟩:=run_more elt_Q 33 (own_still (own_still hrow fd) f1) (sl_pair Wd W1 (x,v) hW1) (by omega) (by have:=fWd.size;have:=f1.size;omega)
     have fw2:St W0 w2:=(fWd.trans' f1 nE).grown hgr (fun k hk=>.inr (by have:=(hrow.lt k hk).1;omega))
     have HM:=Hd (show w2.ownsRow (g+1) 43 2 u' (r+1) (pcl (l.take r ++ [(x,v)]))/\St W0 w2/\Lf W0 _ c l from⟨by rw[pcl_app];exact hw2,fw2,h⟩)
     skip
     have c0':=fw2.cell' (cOo o0 0) id
     have HAP:=Hd hap;have HW1:=Hd hW1
     clear hap hw2 hgr hloc f1 fw2 hW1 fd fWd hWd hrow fr h o0 HF
     go_wp2_with (first | (at_builtin;rw[uh HW1];refine wpList_append_run rfl (.tmp 34) (.tmp 36) 33 rfl _ _ rfl rfl u' w2 (uh HAP) ?_) | fail)
     refine region_tailP 13 (by kernel_rfl) (by kernel_rfl) ?_
     simp only[List.take_succ_cons,List.take_zero,List.drop_succ_cons,List.drop_zero]
     repeat (go_big_quiet_step (fail))
     refine wpQuiet_nil ?_
     rintro _ ⟨nq2,rfl⟩
     obtain⟨Wx,hWx⟩:∃Wx,w2.drewN nq2=Wx:=⟨_,rfl⟩
     have fx:St w2 Wx:=hWx▸(Fr.refl _ w2).drewN nq2
     rw[hWx]
     obtain⟨hrm0,fm0,S⟩:=uh HM
     have hrm:=own_still hrm0 fx
     have fm:=fm0.trans' fx nE
     have Sd:=(S.still fm).drop _ hjn.1
     rw[pcl_drop] at Sd
     obtain⟨u3,w3,hap3,hw3,hgr3,hloc3⟩:=run_more elt_Q 33 hrm Sd (by omega) (by have:=fm.size;omega)
     have HAP3:=Hd hap3
     have HZ:=Hd (show w3.ownsRow g 43 2 u3 _ _/\St W0 w3 from⟨own_lo hw3 (by omega),fm.grown hgr3 (fun k hk=>.inr (by have:=(hrm.lt k hk).1;omega))⟩)
     clear hrm hrm0 fm fm0 S Sd hap3 hw3 hgr3 hloc3 HM fx hWx
     go_wp2_with (first | (at_builtin;refine wpList_append_run rfl (.tmp 54) (.tmp 57) 33 rfl _ _ rfl rfl u3 w3 (uh HAP3) ?_) | fail)
     go_ret
     obtain⟨hw3,f3⟩:=uh HZ
     obtain⟨e1,e2⟩:=uh HE
     refine⟨_,rfl,?_,(uh HX).2.1.trans' f3 nE⟩
     rw[e1,e2,hg]
     exact hw3
 ·go_enter Tryz.func31,Tryz.ntmps31
  go_wp2_with fail
  rw[uh HW0]
  go_loopw [7,8] (fun u iv wr=>∃r:Nat,r<=k/\iv = .int .i64 r/\wr.ownsRow (g+1) 43 2 u r (pcl (l.take r))/\St W0 wr) (fun _ iv _=>l.length - (intOf iv).toNat)
  case atStart=>exact⟨0,by omega,rfl,World.ownsRow_nil _ _ _ _,Fr.refl _ _⟩
  case round=>
   obtain⟨r,hrk,rfl,hrow,fr⟩:=hrel
   generalize wr=wq at *
   clear wr
   obtain⟨h,f0,o0,h1,h2,hj⟩:=uh HX
   have c0:wq.cell? ⟨g,0,none⟩=some (.string x):=fr.cell' (cOo o0 0) id
   have c00:wq.cell? ⟨g,1,none⟩=some (.int .u64 (v:Nat)):=fr.cell' (cOo o0 1) id
   by_cases hlt:r<k
   ·skip
    obtain⟨p,hp⟩:∃p,l[r]? = some p:=⟨_,List.getElem?_eq_getElem (by omega)⟩
    obtain⟨b,o,rfl,c1,c2⟩:=h.pair hp
    replace c1:=fr.cell' c1 id
    replace c2:=fr.cell' c2 id
    have lx:Op.bytesLess p.1.toList x.toList=true:=by
     rw[less_eq]
     exact decide_eq_true (by have:=h1 r hlt;simpa [List.getD,hp] using this)
    have hlt':((r:Int)<l.length)=True:=by simp;omega
    have HF:=Hd (ai hrow (ai fr hp))
    clear h f0 o0 h1 h2 hj hrow fr hp
    go_wp2_with fail
    refine region_tailP 13 (by kernel_rfl) (by kernel_rfl) ?_
    simp only[List.take_succ_cons,List.take_zero,List.drop_succ_cons,List.drop_zero]
    repeat (go_big_quiet_step (fail))
    refine wpQuiet_nil ?_
    rintro _ ⟨nq,rfl⟩
    obtain⟨hrow,fr,hp⟩:=uh HF
    obtain⟨Wd,hWd⟩:∃Wd,wq.drewN nq=Wd:=⟨_,rfl⟩
    have fd:St wq Wd:=hWd▸(Fr.refl _ wq).drewN nq
    rw[hWd]
    replace c1:=fd.cell' c1 id
    replace c2:=fd.cell' c2 id
    obtain⟨W1,hW1⟩:∃W1,Wd.alloc (.cells #[.string p.1,.int .u64 (p.2:Nat)] 43)=W1:=⟨_,rfl⟩
    have f1:St Wd W1:=hW1▸(Fr.refl _ Wd).alloc _
    obtain⟨u',w2,hap,hw2,hgr,hloc⟩:=run_more elt_Q 33 (own_still (own_still hrow fd) f1) (sl_pair Wd W1 p hW1) (by omega) (by have:=fr.size;have:=fd.size;have:=f1.size;omega)
    have ht:pcl (l.take (r+1))=pcl (l.take r) ++ pcl [p]:=by
     rw[List.take_add_one,hp,pcl_app];rfl
    have HZ:=Hd (show w2.ownsRow (g+1) 43 2 u' (r+1) (pcl (l.take (r+1)))/\St W0 w2 from⟨by rw[ht];exact hw2,((fr.trans' fd nE).trans' f1 nE).grown hgr (fun k hk=>.inr (by have:=(hrow.lt k hk).1;omega))⟩)
    have HAP:=Hd hap;have HW1:=Hd hW1
    clear hap hw2 hgr hloc ht f1 hW1 fd hWd hrow fr hp c0 c00 lx
    go_wp2_with (first | (at_builtin;rw[uh HW1];refine wpList_append_run rfl (.tmp 23) (.tmp 28) 33 rfl _ _ rfl rfl u' w2 (uh HAP) ?_) | fail)
    obtain⟨hw2,f2⟩:=uh HZ
    exact⟨⟨r+1,by omega,by simp,hw2,f2⟩,by simp[intOf];omega⟩
   ·skip
    have erk:r=k:=by omega
    subst erk
    by_cases hkl:r<l.length
    ·obtain⟨p,hp⟩:∃p,l[r]? = some p:=⟨_,List.getElem?_eq_getElem (by omega)⟩
     have ep:l.getD r default=p:=by simp[List.getD,hp]
     rw[ep] at hj
     have hnl:=h2 hkl
     rw[ep] at hnl
     have lx:Op.bytesLess p.1.toList x.toList=false:=by rw[less_eq];exact decide_eq_false hnl
     have hlt':((r:Int)<l.length)=True:=by simp;omega
     obtain⟨b,o,rfl,k1,k2⟩:=h.pair hp
     have c1:=fr.cell' k1 id
     by_cases hx:p.1=x
     ·have hj':j=r+1:=by rw[hj,if_pos ⟨hkl,hx⟩]
      subst hj'
      have sl:=fun w=>(show(Instr.slice 33 (.slice (some ⟨b,o,none⟩) l.length c) (some (.int .i64 ((r:Int)+1))) none none).run Tryz.prog w=_ from sf w)
      have hq:(p.1.toList == x.toList)=true:=by rw[hx];simp
      clear hp ep hnl hx k2 sf
      have HF:=Hd (ai hrow (ai fr (ai h o0)))
      clear h f0 o0 h1 h2 hj hrow fr
      go_wp2_with fail
      refine region_tailP 13 (by kernel_rfl) (by kernel_rfl) ?_
      simp only[List.take_succ_cons,List.take_zero,List.drop_succ_cons,List.drop_zero]
      repeat (go_big_quiet_step (fail))
      refine wpQuiet_nil ?_
      rintro _ ⟨nq,rfl⟩
      obtain⟨hrow,fr,h,o0⟩:=uh HF
      obtain⟨Wd,hWd⟩:∃Wd,wq.drewN nq=Wd:=⟨_,rfl⟩
      have fd:St wq Wd:=hWd▸(Fr.refl _ wq).drewN nq
      rw[hWd]
      have fWd:St W0 Wd:=fr.trans' fd nE
      have HM:=Hd (show Wd.ownsRow (g+1) 43 2 _ r (pcl (l.take r ++ []))/\St W0 Wd/\Lf W0 _ c l from⟨by rw[List.append_nil];exact own_still hrow fd,fWd,h⟩)
      have c1':=fWd.cell' k1 id
      have c0':=fWd.cell' (cOo o0 0) id
      clear fd fWd hWd hrow fr h o0 HF c00
      go_wp2_with fail
      refine region_tailP 13 (by kernel_rfl) (by kernel_rfl) ?_
      simp only[List.take_succ_cons,List.take_zero,List.drop_succ_cons,List.drop_zero]
      repeat (go_big_quiet_step (fail))
      refine wpQuiet_nil ?_
      rintro _ ⟨nq2,rfl⟩
      obtain⟨Wx,hWx⟩:∃Wx,Wd.drewN nq2=Wx:=⟨_,rfl⟩
      have fx:St Wd Wx:=hWx▸(Fr.refl _ Wd).drewN nq2
      rw[hWx]
      obtain⟨hrm0,fm0,S⟩:=uh HM
      have hrm:=own_still hrm0 fx
      have fm:=fm0.trans' fx nE
      have Sd:=(S.still fm).drop _ hjn.1
      rw[pcl_drop] at Sd
      obtain⟨u3,w3,hap3,hw3,hgr3,hloc3⟩:=run_more elt_Q 33 hrm Sd (by omega) (by have:=fm.size;omega)
      have HAP3:=Hd hap3
      have HZ:=Hd (show w3.ownsRow g 43 2 u3 _ _/\St W0 w3 from⟨own_lo hw3 (by omega),fm.grown hgr3 (fun k hk=>.inr (by have:=(hrm.lt k hk).1;omega))⟩)
      clear hrm hrm0 fm fm0 S Sd hap3 hw3 hgr3 hloc3 HM fx hWx
      go_wp2_with (first | (at_builtin;refine wpList_append_run rfl (.tmp 54) (.tmp 57) 33 rfl _ _ rfl rfl u3 w3 (uh HAP3) ?_) | fail)
      go_ret
      obtain⟨hw3,f3⟩:=uh HZ
      obtain⟨e1,e2⟩:=uh HE
      refine⟨_,rfl,?_,(uh HX).2.1.trans' f3 nE⟩
      rw[e1,e2,hg]
      exact hw3
     ·have hj':r=j:=by rw[hj,if_neg (fun e=>hx e.2)]
      subst hj'
      have hq:(p.1.toList == x.toList)=false:=by
       simp only[beq_eq_false_iff_ne,ne_eq,Lib.toList_data]
       exact fun e=>hx (bytes_ext e)
      clear hp ep hnl hx k2
      have HF:=Hd (ai hrow (ai fr (ai h o0)))
      clear h f0 o0 h1 h2 hj hrow fr
      go_wp2_with fail
      refine region_tailP 13 (by kernel_rfl) (by kernel_rfl) ?_
      simp only[List.take_succ_cons,List.take_zero,List.drop_succ_cons,List.drop_zero]
      repeat (go_big_quiet_step (fail))
      refine wpQuiet_nil ?_
      rintro _ ⟨nq,rfl⟩
      obtain⟨hrow,fr,h,o0⟩:=uh HF
      obtain⟨Wd,hWd⟩:∃Wd,wq.drewN nq=Wd:=⟨_,rfl⟩
      have fd:St wq Wd:=hWd▸(Fr.refl _ wq).drewN nq
      rw[hWd]
      have fWd:St W0 Wd:=fr.trans' fd nE
      have HM:=Hd (show Wd.ownsRow (g+1) 43 2 _ r (pcl (l.take r ++ []))/\St W0 Wd/\Lf W0 _ c l from⟨by rw[List.append_nil];exact own_still hrow fd,fWd,h⟩)
      have c1':=fWd.cell' k1 id
      have c0':=fWd.cell' (cOo o0 0) id
      clear fd fWd hWd hrow fr h o0 HF c00
      go_wp2_with fail
      refine region_tailP 13 (by kernel_rfl) (by kernel_rfl) ?_
      simp only[List.take_succ_cons,List.take_zero,List.drop_succ_cons,List.drop_zero]
      repeat (go_big_quiet_step (fail))
      refine wpQuiet_nil ?_
      rintro _ ⟨nq2,rfl⟩
      obtain⟨Wx,hWx⟩:∃Wx,Wd.drewN nq2=Wx:=⟨_,rfl⟩
      have fx:St Wd Wx:=hWx▸(Fr.refl _ Wd).drewN nq2
      rw[hWx]
      obtain⟨hrm0,fm0,S⟩:=uh HM
      have hrm:=own_still hrm0 fx
      have fm:=fm0.trans' fx nE
      have Sd:=(S.still fm).drop _ hjn.1
      rw[pcl_drop] at Sd
      obtain⟨u3,w3,hap3,hw3,hgr3,hloc3⟩:=run_more elt_Q 33 hrm Sd (by omega) (by have:=fm.size;omega)
      have HAP3:=Hd hap3
      have HZ:=Hd (show w3.ownsRow g 43 2 u3 _ _/\St W0 w3 from⟨own_lo hw3 (by omega),fm.grown hgr3 (fun k hk=>.inr (by have:=(hrm.lt k hk).1;omega))⟩)
      clear hrm hrm0 fm fm0 S Sd hap3 hw3 hgr3 hloc3 HM fx hWx
      go_wp2_with (first | (at_builtin;refine wpList_append_run rfl (.tmp 54) (.tmp 57) 33 rfl _ _ rfl rfl u3 w3 (uh HAP3) ?_) | fail)
      go_ret
      obtain⟨hw3,f3⟩:=uh HZ
      obtain⟨e1,e2⟩:=uh HE
      refine⟨_,rfl,?_,(uh HX).2.1.trans' f3 nE⟩
      rw[e1,e2,hg]
      exact hw3
    ·have hj':r=j:=by rw[hj,if_neg (fun e=>hkl e.1)]
     subst hj'
     have hlt':((r:Int)<l.length)=False:=by simp;omega
     have HF:=Hd (ai hrow (ai fr (ai h o0)))
     clear h f0 o0 h1 h2 hj hrow fr
     go_wp2_with fail
     refine region_tailP 13 (by kernel_rfl) (by kernel_rfl) ?_
     simp only[List.take_succ_cons,List.take_zero,List.drop_succ_cons,List.drop_zero]
     repeat (go_big_quiet_step (fail))
     refine wpQuiet_nil ?_
     rintro _ ⟨nq,rfl⟩
     obtain⟨hrow,fr,h,o0⟩:=uh HF
     obtain⟨Wd,hWd⟩:∃Wd,wq.drewN nq=Wd:=⟨_,rfl⟩
     have fd:St wq Wd:=hWd▸(Fr.refl _ wq).drewN nq
     rw[hWd]
     have fWd:St W0 Wd:=fr.trans' fd nE
     have HM:=Hd (show Wd.ownsRow (g+1) 43 2 _ r (pcl (l.take r ++ []))/\St W0 Wd/\Lf W0 _ c l from⟨by rw[List.append_nil];exact own_still hrow fd,fWd,h⟩)
     skip
     have c0':=fWd.cell' (cOo o0 0) id
     clear fd fWd hWd hrow fr h o0 HF c00
     go_wp2_with fail
     refine region_tailP 13 (by kernel_rfl) (by kernel_rfl) ?_
     simp only[List.take_succ_cons,List.take_zero,List.drop_succ_cons,List.drop_zero]
     repeat (go_big_quiet_step (fail))
     refine wpQuiet_nil ?_
     rintro _ ⟨nq2,rfl⟩
     obtain⟨Wx,hWx⟩:∃Wx,Wd.drewN nq2=Wx:=⟨_,rfl⟩
     have fx:St Wd Wx:=hWx▸(Fr.refl _ Wd).drewN nq2
     rw[hWx]
     obtain⟨hrm0,fm0,S⟩:=uh HM
     have hrm:=own_still hrm0 fx
     have fm:=fm0.trans' fx nE
     have Sd:=(S.still fm).drop _ hjn.1
     rw[pcl_drop] at Sd
     obtain⟨u3,w3,hap3,hw3,hgr3,hloc3⟩:=run_more elt_Q 33 hrm Sd (by omega) (by have:=fm.size;omega)
     have HAP3:=Hd hap3
     have HZ:=Hd (show w3.ownsRow g 43 2 u3 _ _/\St W0 w3 from⟨own_lo hw3 (by omega),fm.grown hgr3 (fun k hk=>.inr (by have:=(hrm.lt k hk).1;omega))⟩)
     clear hrm hrm0 fm fm0 S Sd hap3 hw3 hgr3 hloc3 HM fx hWx
     go_wp2_with (first | (at_builtin;refine wpList_append_run rfl (.tmp 54) (.tmp 57) 33 rfl _ _ rfl rfl u3 w3 (uh HAP3) ?_) | fail)
     go_ret
     obtain⟨hw3,f3⟩:=uh HZ
     obtain⟨e1,e2⟩:=uh HE
     refine⟨_,rfl,?_,(uh HX).2.1.trans' f3 nE⟩
     rw[e1,e2,hg]
     exact hw3
set_option maxRecDepth 100000 in
theorem l11_same (a b:Option Addr) (c d:Nat) (l:List Pr) (w:World) (h:Lf w a c l) (h':Lf w b d l) (hl:l.length<=100000) :
  Calls Tryz.prog 32 #[.slice a l.length c,.slice b l.length d] w fun e w'=>e = .returned (.bool true)/\St w w':=by
 have e2:=ne_self
 have HX:=Hd (ai h h')
 clear h h'
 go_enter Tryz.func32,Tryz.ntmps32
 go_wp2_with fail
 go_loopw [5] (fun iv wr=>∃r:Nat,r<=l.length/\iv = .int .i64 r/\St w wr) (fun iv _=>l.length - (intOf iv).toNat)
 case atStart=>exact⟨0,by omega,rfl,Fr.refl _ _⟩
 case round=>
  obtain⟨r,hrk,rfl,fr⟩:=hrel
  generalize wr=wq at *
  clear wr
  obtain⟨h,h'⟩:=uh HX
  by_cases hlt:r<l.length
  ·obtain⟨p,hp⟩:∃p,l[r]? = some p:=⟨_,List.getElem?_eq_getElem (by omega)⟩
   obtain⟨b1,o1,rfl,c1,c2⟩:=h.pair hp
   obtain⟨b2,o2,rfl,d1,d2⟩:=h'.pair hp
   replace c1:=fr.cell' c1 id
   replace c2:=fr.cell' c2 id
   replace d1:=fr.cell' d1 id
   replace d2:=fr.cell' d2 id
   have hlt':((r:Int)<l.length)=True:=by simp;omega
   have HF:=Hd fr
   clear h h' fr hp
   go_wp2_with fail
   go_quiet (fail)
   go_wp2_with fail
   exact⟨⟨r+1,by omega,by simp,(uh HF).drewN _⟩,by simp[intOf];omega⟩
  ·have e:r=l.length:=by omega
   subst e
   have hlt':((l.length:Int)<l.length)=False:=by simp
   clear h h'
   go_wp2_with fail
   go_ret
   exact⟨rfl,fr⟩
theorem rgP_none (L:List Pr) (x hi:ByteArray) (n:Int) (h:n<1):rgP L x hi n = []:=by
 unfold rgP
 rw[show n.toNat=0 by omega,List.take_zero]
attribute [local go_sem] Oper.semAt_some
set_option maxRecDepth 100000 in
theorem y_Range0 (sb r:Nat) (x hi:ByteArray) (n:Int) (hn:n<1) (w:World) :
  Calls Tryz.prog 14 #[ptr sb,.int .u64 (r:Nat),.string x,.string hi,.int .i64 n] w fun e w'=>e = .returned (.slice none 0 0)/\St w w':=by
 have hn1:(n<1)=True:=by simp;omega
 refine calls_of_wpOf Tryz.func14 rfl ?_
 simp only[Tryz.ntmps14,List.size_toArray,List.length_cons,List.length_nil,Nat.reduceAdd,Nat.reduceSub,Array.replicate_succ,Array.replicate_zero,List.push_toArray,List.append_toArray,List.nil_append,List.cons_append]
 refine wpOf_seq (wpOf_of_wp ?_)
 go_wp2
 show wpOf _ _ _ _ _ _
 refine wpOf_seq (wpOf_of_wp ?_)
 go_wp2
 exact⟨.slice none 0 0,results_tmp Tryz.results14 _ _ _,rfl,((Fr.refl _ w).alloc _).alloc _⟩
theorem y_RangeA {nu sz:Nat} {hb sb b:Nat} {T:Tay} {A:Ab} {P:List (Int×Int)} {w:World} (h:Hp nu sz w hb sb b T A P) {r:Nat} {L:List Pr} {Q:List Nat} (rt:Rt nu sz (says P A) r L Q) (ri:Rise L) (pk:Pok L) (x hi:ByteArray) (n:Int) (hL:L.length<=100000) :
  Calls Tryz.prog 14 #[ptr sb,.int .u64 (r:Nat),.string x,.string hi,.int .i64 n] w fun e w'=>∃va vc,e = .returned (.slice va (rgP L x hi n).length vc)/\Lf w' va vc (rgP L x hi n)/\St w w':=by
 by_cases hn:n<1
 ·refine(y_Range0 sb r x hi n hn w).mono ?_
  rintro e w' ⟨rfl,f⟩
  rw[rgP_none L x hi n hn]
  exact⟨none,0,rfl,sl_of_row (World.ownsRow_nil _ 0 43 _) pcl_one,f⟩
 ·refine(y_Range h rt ri pk x hi n (by omega) hL).mono ?_
  rintro e w' ⟨v,rfl,row,f⟩
  obtain⟨va,vc,rfl⟩:∃va vc,v = .slice va (rgP L x hi n).length vc:=by
   rcases row.2 with ⟨e,h0⟩ | ⟨gg,cap,_,e,_⟩
   ·exact⟨none,0,by rw[e,h0]⟩
   ·exact⟨_,cap,e⟩
  exact⟨va,vc,rfl,sl_of_row row pcl_one,f⟩
theorem cat2g_P (W:World) (g:Nat) (a1 a2:Option Addr) (n1 n2 c1 c2:Nat) (X1 X2:List Value) (oR:W.heap[g]? = some (.cells #[.slice a1 n1 c1,.slice a2 n2 c2] 100 (0,0))) (S1:Sl W 2 a1 n1 c1 X1) (S2:Sl W 2 a2 n2 c2 X2) (hl:n1+n2<=1000000) :
  Calls Tryz.prog 141 #[.slice (some ⟨g,0,none⟩) 2 2] W fun e w'=>∃v,e = .returned v/\w'.ownsRow W.heap.size 43 2 v (n1+n2) (X1 ++ X2)/\St W w':=by
 have K:=cat_P (some ⟨g,0,none⟩) 2 2 (fun t=>if t=0 then a1 else a2) (fun t=>if t=0 then n1 else n2) (fun t=>if t=0 then c1 else c2) (fun t=>if t=0 then X1 else X2) W (fun i hi=>by
  rcases (show i=0\/i=1 by omega) with rfl | rfl
  ·exact⟨⟨g,0,rfl,show W.cell? ⟨g,0,none⟩=some (.slice a1 n1 c1) from cOo oR 0⟩,S1⟩
  ·exact⟨⟨g,0,rfl,show W.cell? ⟨g,1,none⟩=some (.slice a2 n2 c2) from cOo oR 1⟩,S2⟩) (by omega) (by simp[offN];omega)
 refine K.mono ?_
 rintro e w' ⟨u,rfl,hu,f3⟩
 refine⟨u,rfl,?_,f3⟩
 have e1:offN (fun t=>if t=0 then n1 else n2) 2=n1+n2:=by simp[offN]
 have e2:catX (fun t=>if t=0 then X1 else X2) 2=X1 ++ X2:=by simp[catX]
 rw[e1,e2] at hu
 exact hu
theorem cat2g_S (W:World) (g:Nat) (a1 a2:Option Addr) (n1 n2 c1 c2:Nat) (X1 X2:List Value) (oR:W.heap[g]? = some (.cells #[.slice a1 n1 c1,.slice a2 n2 c2] 93 (0,0))) (S1:Sl W 1 a1 n1 c1 X1) (S2:Sl W 1 a2 n2 c2 X2) (hl:n1+n2<=1000000) :
  Calls Tryz.prog 180 #[.slice (some ⟨g,0,none⟩) 2 2] W fun e w'=>∃v,e = .returned v/\w'.ownsRow W.heap.size 9 1 v (n1+n2) (X1 ++ X2)/\St W w':=by
 have K:=cat_S (some ⟨g,0,none⟩) 2 2 (fun t=>if t=0 then a1 else a2) (fun t=>if t=0 then n1 else n2) (fun t=>if t=0 then c1 else c2) (fun t=>if t=0 then X1 else X2) W (fun i hi=>by
  rcases (show i=0\/i=1 by omega) with rfl | rfl
  ·exact⟨⟨g,0,rfl,show W.cell? ⟨g,0,none⟩=some (.slice a1 n1 c1) from cOo oR 0⟩,S1⟩
  ·exact⟨⟨g,0,rfl,show W.cell? ⟨g,1,none⟩=some (.slice a2 n2 c2) from cOo oR 1⟩,S2⟩) (by omega) (by simp[offN];omega)
 refine K.mono ?_
 rintro e w' ⟨u,rfl,hu,f3⟩
 refine⟨u,rfl,?_,f3⟩
 have e1:offN (fun t=>if t=0 then n1 else n2) 2=n1+n2:=by simp[offN]
 have e2:catX (fun t=>if t=0 then X1 else X2) 2=X1 ++ X2:=by simp[catX]
 rw[e1,e2] at hu
 exact hu
theorem cat2g_K (W:World) (g:Nat) (a1 a2:Option Addr) (n1 n2 c1 c2:Nat) (X1 X2:List Value) (oR:W.heap[g]? = some (.cells #[.slice a1 n1 c1,.slice a2 n2 c2] 94 (0,0))) (S1:Sl W 2 a1 n1 c1 X1) (S2:Sl W 2 a2 n2 c2 X2) (hl:n1+n2<=1000000) :
  Calls Tryz.prog 181 #[.slice (some ⟨g,0,none⟩) 2 2] W fun e w'=>∃v,e = .returned v/\w'.ownsRow W.heap.size 123 2 v (n1+n2) (X1 ++ X2)/\St W w':=by
 have K:=cat_K (some ⟨g,0,none⟩) 2 2 (fun t=>if t=0 then a1 else a2) (fun t=>if t=0 then n1 else n2) (fun t=>if t=0 then c1 else c2) (fun t=>if t=0 then X1 else X2) W (fun i hi=>by
  rcases (show i=0\/i=1 by omega) with rfl | rfl
  ·exact⟨⟨g,0,rfl,show W.cell? ⟨g,0,none⟩=some (.slice a1 n1 c1) from cOo oR 0⟩,S1⟩
  ·exact⟨⟨g,0,rfl,show W.cell? ⟨g,1,none⟩=some (.slice a2 n2 c2) from cOo oR 1⟩,S2⟩) (by omega) (by simp[offN];omega)
 refine K.mono ?_
 rintro e w' ⟨u,rfl,hu,f3⟩
 refine⟨u,rfl,?_,f3⟩
 have e1:offN (fun t=>if t=0 then n1 else n2) 2=n1+n2:=by simp[offN]
 have e2:catX (fun t=>if t=0 then X1 else X2) 2=X1 ++ X2:=by simp[catX]
 rw[e1,e2] at hu
 exact hu
set_option maxRecDepth 100000 in
theorem l_without (a:Option Addr) (c:Nat) (l:List Pr) (x:ByteArray) (k:Nat) (w:World) (h:Lf w a c l) (hl:l.length<=500) (hk:k<l.length) (h1:∀t,t<k->ltK (l.getD t default).1 x) (h2:∀t,k<=t->t<l.length->¬ltK (l.getD t default).1 x) (he:(l.getD k default).1=x) :
  Calls Tryz.prog 101 #[.slice a l.length c,.string x] w fun e w'=>∃u,e = .returned u/\w'.ownsRow w.heap.size 43 2 u (l.take k ++ l.drop (k+1)).length (pcl (l.take k ++ l.drop (k+1)))/\St w w':=by
 have FD:=l_find a l.length c (fun t=>(l.getD t default).1) (fun t=>(l.getD t default).2) x k w (fun i hi=>h.pair (p:=l.getD i default) (by simp[List.getD,List.getElem?_eq_getElem hi])) (by omega) (by omega) h1 h2
 rw[decide_eq_true ⟨hk,he⟩] at FD
 have hc:=h.cap
 have s1:=fun w=>slice_toZ elt_P elem_leaf a l.length c k w (by omega)
 have s2:=fun w=>(show(Instr.slice 100 (.slice a l.length c) (some (.int .i64 ((k:Int)+1))) none none).run Tryz.prog w=_ from slice_fromZ elt_P elem_leaf a l.length c (k+1) w (by omega))
 have S1:=h.take (k:=k) (by omega)
 have S2:=h.drop (k+1) (by omega)
 rw[pcl_take] at S1
 rw[pcl_drop] at S2
 have MB:=fun w=>y_must w
 have HL:(l.take k ++ l.drop (k+1)).length=k+(l.length - (k+1)):=by simp;omega
 have HP:pcl (l.take k ++ l.drop (k+1))=pcl (l.take k) ++ pcl (l.drop (k+1)):=pcl_app _ _
 rw[HL,HP]
 have CT:∀w1,St w w1->Calls Tryz.prog 141 #[.slice (some ⟨w1.heap.size,0,none⟩) 2 2] (w1.alloc (.cells #[.slice a k c,.slice (cutZ 2 a c (k+1)) (l.length - (k+1)) (c - (k+1))] 100)) fun e w'=>∃u,e = .returned u/\w'.ownsRow w.heap.size 43 2 u (k+(l.length - (k+1))) (pcl (l.take k) ++ pcl (l.drop (k+1)))/\St w w':=by
  intro w1 f1
  obtain⟨W,hW⟩:∃W,w1.alloc (.cells #[.slice a k c,.slice (cutZ 2 a c (k+1)) (l.length - (k+1)) (c - (k+1))] 100)=W:=⟨_,rfl⟩
  have fW:St w1 W:=hW▸(Fr.refl _ w1).alloc _
  have f2:St w W:=f1.trans' fW nE
  rw[hW]
  refine(cat2g_P W w1.heap.size a _ k _ c _ _ _ (hW▸heap_alloc_new w1 _) (S1.still f2) (S2.still f2) (by omega)).mono ?_
  rintro e w' ⟨u,rfl,hu,f3⟩
  exact⟨u,rfl,own_lo hu f2.size,f2.trans' f3 nE⟩
 have HCT:=@Hd _ CT;have HFD:=Hd FD;have HMB:=@Hd _ MB
 have wk:IntKind.i64.wrap ((k:Int)+1)=(k:Int)+1:=by rw[IntKind.wrap_i64];omega
 clear CT S1 S2 HP HL h FD MB h1 h2 he hl hc hk
 go_enter Tryz.func101,Tryz.ntmps101
 go_wp2_with fail
 refine(uh HFD).mono ?_
 rintro e w1 ⟨rfl,f1⟩
 go_wp2_with fail
 refine(uh HMB w1).mono ?_
 rintro e w2 ⟨rfl,rfl⟩
 clear HFD HMB
 go_wp2_with fail
 refine wp_region_held_drew (S:=fun _=>True) (by kernel_rfl) trivial (fun hHeld=>?_)
 refine tkO 0 ?_ hHeld rfl ?_ ?_
 rotate_left
 ·intro w q;go_simp;try with_reducible rfl
 simp only[apt,List.set]
 refine tkO 1 ?_ hHeld rfl ?_ ?_
 rotate_left
 ·intro w q;go_simp;try with_reducible rfl
 simp only[apt,List.set]
 refine tkO 2 (.slice a k c) hHeld rfl ?_ ?_
 ·(intro w q;go_simp;first | done | (rw[s1 w];rfl) | (simp[s1 w]))
 simp only[apt,List.set]
 refine tkO 3 ?_ hHeld rfl ?_ ?_
 rotate_left
 ·intro w q;go_simp;try with_reducible rfl
 simp only[apt,List.set]
 refine tkO 4 ?_ hHeld rfl ?_ ?_
 rotate_left
 ·intro w q;go_simp;try with_reducible rfl
 simp only[apt,List.set]
 refine tkO 5 ?_ hHeld rfl ?_ ?_
 rotate_left
 ·intro w q;go_simp;try with_reducible rfl
 simp only[apt,List.set]
 refine tkO 6 (.slice (cutZ 2 a c (k+1)) (l.length - (k+1)) (c - (k+1))) hHeld rfl ?_ ?_
 ·(intro w q;go_simp;first | done | (rw[s2 w];rfl) | (simp[s2 w];try rfl))
 simp only[apt,List.set]
 refine rdO 7 rfl (fun K hK=>?_)
 go_simp
 refine hK.out _ _ trivial (fun _=>?_)
 clear hK K
 refine rdO 8 rfl (fun K hK=>?_)
 go_simp
 go_wp2_with fail
 have f1':St w w2.drew:=f1.drewN 1
 refine(uh HCT w2.drew f1').mono ?_
 clear HCT
 rintro e w3 ⟨u,rfl,hu,f3⟩
 refine hK.out _ _ trivial (fun _=>?_)
 clear hK K
 refine rdO 9 rfl (fun K hK=>?_)
 go_simp
 refine hK.out _ _ trivial (fun _=>?_)
 clear hK K
 refine wpAnyH_done (by kernel_rfl) ?_ _
 go_wp2
 go_ret
 exact⟨u,rfl,hu,f3⟩
end Go.Proofs.YtbiopjmpdhcjgaaGreatDoor
