/- Joined: Dp Dq Ja Jb. -/
import Derived.Test.YtbiopjmpdhcjgaaGreatDoorZ28
import Derived.Test.YtbiopjmpdhcjgaaGreatDoorZ29
import Derived.Test.YtbiopjmpdhcjgaaGreatDoorZ31
import Derived.Test.YtbiopjmpdhcjgaaGreatDoorZ34
namespace Go.Proofs.YtbiopjmpdhcjgaaGreatDoor
open Go.RowKit
set_option maxHeartbeats 4000000

section
set_option maxRecDepth 100000 in
theorem clone_S (b o c:Nat) (B:List ByteArray) (w:World) (hB:Kys w (some ⟨b,o,none⟩) c B) (hl:B.length<=500) :
  Calls Tryz.prog 96 #[.slice (some ⟨b,o,none⟩) B.length c] w fun e w'=>∃v,e = .returned v/\w'.ownsRow w.heap.size 9 1 v B.length (B.map Value.string)/\St w w':=by
 have h1:∀w,(binOp .eql 93 (.slice (some ⟨b,o,none⟩) B.length c) (.slice none 0 0)).run Tryz.prog w = .ok (.bool false) w:=fun w=>by
  generalize B.length=n
  kernel_rfl
 obtain⟨W1,hW1⟩:∃W1,w.alloc (.cells #[] 9)=W1:=⟨_,rfl⟩
 have f1:St w W1:=hW1▸(Fr.refl _ w).alloc _
 have row:W1.ownsRow w.heap.size 9 1 (.slice (some ⟨w.heap.size,0,none⟩) 0 0) 0 []:=⟨rfl,.inr ⟨w.heap.size,0,#[],rfl,Nat.le_refl _,hW1▸heap_alloc_new w _,Nat.le_refl _,Nat.zero_le _,rfl,rfl⟩⟩
 obtain⟨v',w2,hap,hw2,hgr,hloc⟩:=run_more elt_S 93 row (hB.still f1) (by omega) f1.size
 have HZ:=Hd (show w2.ownsRow w.heap.size 9 1 v' B.length (B.map Value.string)/\St w w2 from⟨by rw[Nat.zero_add,List.nil_append] at hw2;exact hw2,f1.grown hgr (fun k hk=>.inr (row.lt k hk).1)⟩)
 have HAP:=Hd hap;have HW1:=Hd hW1
 clear hB hap hw2 hgr hloc row f1 hW1
 go_enter Tryz.func96,Tryz.ntmps96
 go_wp2_with (first | (at_builtin;rw[uh HW1];refine wpList_append_run rfl (.tmp 5) (.tmp 6) 93 rfl _ _ rfl rfl v' w2 (uh HAP) ?_) | fail)
 go_ret
 obtain⟨hw2,f2⟩:=uh HZ
 exact⟨_,rfl,hw2,f2⟩
def highAt (B:List ByteArray) (hi:ByteArray) (j:Nat):ByteArray:=if j<B.length then B.getD j default else hi
def lowAt (B:List ByteArray) (lo hi:ByteArray) (j:Nat):ByteArray:=if j=0 then lo else highAt B hi (j - 1)
theorem high_at (B:List ByteArray) (hi:ByteArray) (j:Nat) (hj:j<=B.length):(B ++ [hi])[j]? = some (highAt B hi j):=by
 unfold highAt
 by_cases h:j<B.length
 ·rw[if_pos h,List.getElem?_append_left h]
  simp[List.getD,List.getElem?_eq_getElem h]
 ·rw[if_neg h,show j=B.length by omega]
  simp
section
variable {nu sz:Nat} {T:Nat->List Pr->List Nat->Prop} {B:List ByteArray} {ks:List (Nat×List Pr×List Nat)} {l:List Pr} {Q:List Nat} {lo hi:ByteArray}
theorem For.win (F:For T B ks l Q) (win:Win l lo hi) {j:Nat} {k:Nat×List Pr×List Nat} (hk:ks[j]? = some k):Win k.2.1 (lowAt B lo hi j) (highAt B hi j):=fun p hp=>by
 have hlen:ks.length=B.length+1:=by have:=F.2.2.2.1.len;simpa using this
 have hj:=(List.getElem?_eq_some_iff.1 hk).1
 have hw:=win p ((F.sub (List.mem_of_getElem? hk)).1.subset hp)
 have ek:(ks.map (·.2.1)).getD j []=k.2.1:=by simp[List.getD,hk]
 refine⟨?_,?_⟩
 ·unfold lowAt
  by_cases h0:j=0
  ·rw[if_pos h0];exact hw.1
  ·rw[if_neg h0]
   unfold highAt
   rw[if_pos (by omega)]
   have:=(sep_near (q:=j - 1) F.2.2.2.1 (by omega)).2
   rw[show j - 1+1=j by omega,ek] at this
   exact this p hp
 ·unfold highAt
  by_cases h:j<B.length
  ·rw[if_pos h]
   have:=(sep_near (q:=j) F.2.2.2.1 h).1
   rw[ek] at this
   exact .inr (this p hp)
  ·rw[if_neg h];exact hw.2
theorem For.ends (F:For T B ks l Q) (win:Win l lo hi) (h1:1<=B.length):¬ltK (B.getD 0 default) lo/\(hi.size=0\/ltK (B.getD (B.length - 1) default) hi):=by
 have hlen:(ks.map (·.2.1)).length=B.length+1:=F.2.2.2.1.len
 have some:∀j,j<B.length+1->∃p,p∈(ks.map (·.2.1)).getD j []/\p∈l:=fun j hj=>by
  have e:(ks.map (·.2.1)).getD j []=(ks.map (·.2.1))[j]'(by omega):=by simp only[List.getD,List.getElem?_eq_getElem (show j<(ks.map (·.2.1)).length by omega),Option.getD_some]
  have hm:(ks.map (·.2.1)).getD j []∈ks.map (·.2.1):=by rw[e];exact List.getElem_mem _
  obtain⟨p,hp⟩:=List.exists_mem_of_ne_nil _ (F.2.2.2.1.ne _ hm)
  exact⟨p,hp,by rw[F.2.1];exact List.mem_flatten.2 ⟨_,hm,hp⟩⟩
 refine⟨fun hlt=>?_,?_⟩
 ·obtain⟨p,hp,hl⟩:=some 0 (by omega)
  exact(win p hl).1 (ltK_trans ((sep_near (q:=0) F.2.2.2.1 (by omega)).1 p hp) hlt)
 ·obtain⟨p,hp,hl⟩:=some B.length (by omega)
  have hn:=(sep_near (q:=B.length - 1) F.2.2.2.1 (by omega)).2
  rw[show B.length - 1+1=B.length by omega] at hn
  exact(win p hl).2.imp id fun h=>ltK_le_trans (hn p hp) h
end
section
variable {nu sz:Nat} {w w' w0:World} {hb sb b:Nat} {T:Tay} {A:Ab} {P:List (Int×Int)}
set_option maxRecDepth 100000 in
theorem y_check:∀(h:Nat) {w:World} {F:Nat->Prop} {nv:Value} {n:Nd} {l:List Pr} {Q:List Nat} (lo hi:ByteArray),Hp nu sz w hb sb b T A P->NdO F w nv n->Un nu (Tr nu sz (says P A) h) (h+1) n l Q->n.Ok->n.size<=32->l.length<900000->Win l lo hi->
  Calls Tryz.prog 52 #[ptr sb,nv,.string lo,.string hi] w fun e w'=>e = .returned (.tuple #[])/\St w w':=by
 intro h
 induction h with
 | zero=>
  intro w F nv n l Q lo hi hp nd un ok le hl win
  rcases un with ⟨_,rfl,hne,rfl⟩ | ⟨h2,_⟩
  ·obtain⟨a,cc,rfl,hL,hF⟩:=nd
   have hl1:l.length<=100:=by rw[lf_size] at le;unfold hsz need at le;omega
   exact y_check_leaf (ptr sb) a cc l lo hi w hL hl1 win
  ·omega
 | succ h ih=>
  intro w F nv n l Q lo hi hp nd un ok le hl win
  rcases un with ⟨h1,_⟩ | ⟨h2,B,ks,rfl,fo⟩
  ·omega
  ·obtain⟨ba,bc,ka,kc,rfl,hB,hK,oB,oK⟩:=nd
   have hform:=ok.form
   have hmk:(ks.map (kidN nu)).length=ks.length:=List.length_map _
   have hlen:ks.length=B.length+1:=by have:=fo.2.2.2.1.len;simpa using this
   have hks:ks.length<=32:=by rw[br_size,hmk] at le;unfold hsz need at le;omega
   have h2k:2<=ks.length:=by have:=hform.2.2.1;rw[hmk] at this;exact this
   obtain⟨en1,en2⟩:=fo.ends win (by omega)
   obtain⟨b1,o1,e1,c1⟩:=hB.cells 0 (.string (B.getD 0 default)) (by rw[List.getElem?_map];simp[List.getD,List.getElem?_eq_getElem (show 0<B.length by omega)])
   obtain⟨b2,o2,e2,c2⟩:=hB.cells (B.length - 1) (.string (B.getD (B.length - 1) default)) (by rw[List.getElem?_map];simp[List.getD,List.getElem?_eq_getElem (show B.length - 1<B.length by omega)])
   rw[e1] at e2
   cases e2
   subst e1
   rw[Nat.add_zero] at c1
   have lx:Op.bytesLess (B.getD 0 default).toList lo.toList=false:=by rw[less_eq];exact decide_eq_false en1
   have cs:=hi_cs en2
   obtain⟨nb,hnb⟩:∃nb,B.length=nb:=⟨_,rfl⟩
   obtain⟨nk,hnk⟩:∃nk,ks.length=nk:=⟨_,rfl⟩
   rw[hnb] at hlen c2
   rw[hnb] at cs
   rw[hnk] at hks h2k hlen
   have hne:((nb:Int) == 0)=false:=by simp;omega
   have wn:IntKind.i64.wrap ((nb:Int) - 1)=((nb - 1:Nat):Int):=by rw[IntKind.wrap_i64];omega
   have hlt:(((nb - 1:Nat):Int)<nb)=True:=by simp;omega
   have h0':((0:Int)<nb)=True:=by simp;omega
   have h0n:0<nb:=by omega
   have KY:=b_keys (h+2) (some ⟨b1,o1,none⟩) nb bc ka nk kc w
   have MB:=fun w=>y_must w
   have CL:∀w1,St w w1->Calls Tryz.prog 96 #[.slice (some ⟨b1,o1,none⟩) nb bc] w1 fun e w'=>∃v,e = .returned v/\w'.ownsRow w1.heap.size 9 1 v nb (B.map Value.string)/\St w1 w':=fun w1 f1=>by
    have:=clone_S b1 o1 bc B w1 (hB.still f1) (by omega)
    rw[hnb] at this
    exact this
   have HMB:=@Hd _ MB;have HCL:=@Hd _ CL;have HKY:=Hd KY
   have HX:=Hd (ai hp (ai hK (ai fo (ai hnb (ai hnk (ai hl (ai win (ai hB (show nk=nb+1/\nk<=32/\2<=nk from⟨hlen,hks,h2k⟩)))))))))
   have HIH:=@Hd _ @ih
   rw[hmk,hnk,hnb,show h+1+1=h+2 from rfl]
   clear KY MB CL hp hB hK fo hform en1 en2 hnb hnk hl win oB oK ok le hmk hlen hks h2k h2 ih
   obtain⟨hq,hhq⟩:∃hq,h+2=hq:=⟨_,rfl⟩
   rw[hhq] at HKY ⊢
   have HQ:=Hd hhq
   clear hhq
   have t1:=fun w=>taB_br (brV hq (some ⟨b1,o1,none⟩) nb bc ka nk kc) w
   generalize B.getD 0 default=s0 at *
   generalize B.getD (nb - 1) default=s1 at *
   generalize nb - 1=nbm at *
   go_enter Tryz.func52,Tryz.ntmps52
   go_wp2_with fail
   refine(uh HKY).mono ?_
   clear HKY
   rintro e w1 ⟨rfl,f1⟩
   replace c1:=f1.cell' c1 id
   replace c2:=f1.cell' c2 id
   have HF1:=Hd f1
   clear f1
   go_upto_region 1 with fail
   go_cut [] from 17 to 41 (fun wx=>wx=w1)
   case first=>
    rcases cs with hE | ⟨hE1,hE2,hE3⟩
    ·go_wp2_with fail
     refine(uh HMB w1).mono ?_
     rintro e w2 ⟨rfl,rfl⟩
     go_wp2
     go_meet
     case rel=>rfl
    ·go_wp2_with fail
     refine(uh HMB w1).mono ?_
     rintro e w2 ⟨rfl,rfl⟩
     go_wp2
     go_meet
     case rel=>rfl
   case rest=>
    obtain rfl:w1=wc:=hcut.symm
    clear c1 c2 lx cs hne wn hlt h0' h0n HMB
    obtain⟨g,hg⟩:∃g,w1.heap.size=g:=⟨_,rfl⟩
    obtain⟨W2,hW2⟩:∃W,w1.alloc (.cells #[.int .i64 hq,.slice (some ⟨b1,o1,none⟩) nb bc,.slice ka nk kc] 96)=W:=⟨_,rfl⟩
    have f2:St w1 W2:=hW2▸(Fr.refl _ w1).alloc _
    have o2:W2.heap[g]? = some (.cells #[.int .i64 hq,.slice (some ⟨b1,o1,none⟩) nb bc,.slice ka nk kc] 96 (0,0)):=by rw[<-hg,<-hW2];exact heap_alloc_new w1 _
    have f02:St w W2:=(uh HF1).trans' f2 nE
    have K:=Hd (uh HCL W2 f02)
    have d1:W2.cell? ⟨g,1,none⟩=some (.slice (some ⟨b1,o1,none⟩) nb bc):=cOo o2 1
    have HO:=Hd (ai o2 f02);have HW2:=Hd hW2
    rw[<-hW2] at d1
    clear o2 f02 hW2 f2 HCL
    go_wp2_with fail
    rw[uh HW2]
    refine(uh K).mono ?_
    clear K d1 t1 HW2
    rintro e w3 ⟨v,rfl,row,f3⟩
    obtain⟨W4,hW4⟩:∃W,w3.alloc (.cells #[.string hi] 9)=W:=⟨_,rfl⟩
    have f4:St w3 W4:=hW4▸(Fr.refl _ w3).alloc _
    have HX':=uh HX
    obtain⟨v5,w5,hap,row5,hgr,hloc⟩:=run_more elt_S 93 (own_still row f4) (sl_str1 w3 W4 hi hW4) (by have:=HX'.2.2.2.2.2.2.2.2;omega) (Nat.le_trans f3.size f4.size)
    clear HX'
    have f35:St W2 w5:=(f3.trans' f4 nE).grown hgr (fun k hk=>.inr (row.lt k hk).1)
    rw[<-List.map_append] at row5
    obtain⟨v5a,v5c,ev⟩:∃va vc,v5 = .slice va (nb+1) vc:=by
     rcases row5.2 with ⟨_,h0⟩ | ⟨gg,cap,_,e,_⟩
     ·omega
     ·exact⟨_,cap,e⟩
    subst ev
    have S5:Sl w5 1 v5a (nb+1) v5c ((B ++ [hi]).map Value.string):=sl_of_row row5 (str_one _)
    have HAP:=Hd hap;have HW4:=Hd hW4
    have d2:w5.cell? ⟨g,2,none⟩=some (.slice ka nk kc):=cOo (f35.obj (uh HO).1 id) 2
    have H5:=Hd (ai S5 ((uh HO).2.trans' f35 nE))
    have H5b:=Hd (f35.obj (uh HO).1 id)
    clear row f3 f4 hap row5 hgr hloc f35 S5 hW4 HO
    go_wp2_with (first | (at_builtin;rw[uh HW4];refine wpList_append_run rfl (.tmp 51) (.tmp 53) 93 rfl _ _ rfl rfl _ w5 (uh HAP) ?_) | fail)
    clear d2 HAP HW4
    go_loopw [2,58] (fun l2 iv wr=>∃j:Nat,j<=nk/\iv = .int .i64 j/\l2 = .string (lowAt B lo hi j)/\St w5 wr) (fun _ iv _=>nk - (intOf iv).toNat)
    case atStart=>exact⟨0,Nat.zero_le _,rfl,rfl,Fr.refl _ _⟩
    case round=>
     obtain⟨j,hj,rfl,rfl,fr⟩:=hrel
     generalize wr=wq at *
     clear wr
     by_cases hjl:j<nk
     ·have hjn:((j:Int)<nk)=True:=by simp;omega
      obtain⟨hp,hK,fo,hnb,hnk,hl,win,hB,hd⟩:=uh HX
      have wj:wrap64 ((j:Int)+1)=(j:Int)+1:=small_w64 (by omega)
      obtain⟨S5,f05⟩:=uh H5
      obtain⟨kk,hkk⟩:∃kk,ks[j]? = some kk:=⟨_,List.getElem?_eq_getElem (by omega)⟩
      have hkm:=List.mem_of_getElem? hkk
      obtain⟨n1,Q1,st1,un1,_⟩:=fo.1 kk hkm
      have hk2:(ks.map (kidN nu))[j]? = some (fi nu+8 * kk.1,kk.2.1.length):=by rw[List.getElem?_map,hkk];rfl
      have f0q:St w wq:=f05.trans' fr nE
      obtain⟨kb,ko,eka,p1,p2⟩:=(hK.still f0q).kid hk2
      subst eka
      have hh1:hq=n1.high+1:=by
       have:=uh HQ
       rcases un1 with ⟨e,rfl,_⟩ | ⟨_,B1,ks1,rfl,_⟩
       ·show hq=1+1;omega
       ·show hq=h+1+1;omega
      have hlk:=(fo.sub hkm).1.length_le
      obtain⟨np,hnp⟩:∃np,kk.2.1.length=np:=⟨_,rfl⟩
      obtain⟨pz,hpz⟩:∃pz,fi nu+8 * kk.1=pz:=⟨_,rfl⟩
      obtain⟨gk,hgk⟩:∃gk,wq.heap.size=gk:=⟨_,rfl⟩
      obtain⟨Wk,hWk⟩:∃W,wq.alloc (.cells #[.int .u64 (pz:Nat),.int .i64 (np:Nat)] 123)=W:=⟨_,rfl⟩
      have fk:St wq Wk:=hWk▸(Fr.refl _ wq).alloc _
      have ok':Wk.heap[gk]? = some (.cells #[.int .u64 (pz:Nat),.int .i64 (np:Nat)] 123 (0,0)):=by rw[<-hgk,<-hWk];exact heap_alloc_new wq _
      have f5k:St w5 Wk:=fr.trans' fk nE
      have f0k:St w Wk:=f0q.trans' fk nE
      have og:=f5k.obj (uh H5b) id
      have d0:Wk.cell? ⟨g,0,none⟩=some (.int .i64 (hq:Nat)):=cOo og 0
      have d1:Wk.cell? ⟨g,1,none⟩=some (.slice (some ⟨b1,o1,none⟩) nb bc):=cOo og 1
      have d2:Wk.cell? ⟨g,2,none⟩=some (.slice (some ⟨kb,ko,none⟩) nk kc):=cOo og 2
      have KD:=b_kid (hp.still f0k) hq (some ⟨b1,o1,none⟩) nb bc (some ⟨kb,ko,none⟩) kc (ks.map (kidN nu)) j kk.1 n1 (hK.still f0k) (by rw[List.length_map];omega) kk.2.1.length hk2 st1 hh1
      rw[List.length_map,hnk] at KD
      obtain⟨hx,hxe⟩:∃hx,hx=highAt B hi j:=⟨_,rfl⟩
      obtain⟨hb5,ho5,e5,c5⟩:=S5.cells j (.string hx) (by rw[List.getElem?_map,high_at B hi j (by omega),hxe];rfl)
      subst e5
      replace c5:=f5k.cell' c5 id
      have hjn5:((j:Int)<((nb:Int)+1))=True:=by simp;omega
      have IH:∀w4 nv1 F1,St Wk w4->NdO F1 w4 nv1 n1->Calls Tryz.prog 52 #[ptr sb,nv1,.string (lowAt B lo hi j),.string hx] w4 _:=fun w4 nv1 F1 f4 nd1=>uh HIH (lowAt B lo hi j) hx (hp.still (f0k.trans' f4 nE)) nd1 un1 st1.ok st1.le (by omega) (by rw[hxe];exact fo.win win hkk)
      have elow:lowAt B lo hi (j+1)=hx:=by rw[hxe];unfold lowAt;rw[if_neg (by omega)];rfl
      have pc:Wk.cell? ⟨gk,1,none⟩=some (.int .i64 (np:Nat)):=cOo ok' 1
      rw[hpz] at p1
      rw[hnp] at p2
      have HKD:=Hd KD;have HIH2:=@Hd _ IH;have HW:=Hd hWk
      have HZ:=Hd (ai un1 (ai st1 (ai hnp (ai elow (show j<=32/\np<900000 from⟨by omega,by omega⟩)))))
      have HF:=Hd f5k
      rw[<-hWk] at d0 d1 d2
      clear hp hK fo hnb hnk hl win hB hd S5 f05 hkk hkm hk2 f0q hlk fk ok' f5k f0k og KD IH elow hWk hh1 st1 un1 hnp hpz hxe
      go_wp2_with fail
      rw[uh HW]
      refine(uh HKD).mono ?_
      clear HKD d0 d1 d2 p1 p2
      rintro e w6 ⟨nv1,rfl,nd1,f6⟩
      replace pc:=f6.cell' pc id
      replace c5:=f6.cell' c5 id
      have HMB:=@Hd _ (fun w=>y_must w)
      have HF6:=Hd ((uh HF).trans' f6 nE)
      have IH:=fun w7 (f7:St w6 w7)=>uh HIH2 w7 nv1 (fun _=>True) (f6.trans' f7 nE) (nd1.kept fun k hk=>⟨f7.block k hk.2 id,trivial⟩)
      have HIH3:=@Hd _ IH
      have hnn:((np:Int) == (np:Int))=true:=by simp
      clear IH f6 HIH2 HF
      cases n1 using Nd.cs with
      | lf l1=>
       obtain⟨a1,cc1,rfl,hL1,hF1⟩:=nd1
       have hl1:l1.length=np:=by
        obtain⟨un1,_,hnp,_⟩:=uh HZ
        have:=un1.pairs
        rw[<-hnp,<-this];rfl
       have HPR:=@Hd _ (fun(w7:World) (_:St w6 w7)=>show Calls Tryz.prog 236 #[.slice a1 l1.length cc1] w7 fun e w'=>e = .returned (.int .i64 (np:Nat))/\St w7 w' from(l_pairs a1 l1.length cc1 w7).mono (by rintro e w' ⟨rfl,rfl⟩;exact⟨by rw[hl1],Fr.refl _ _⟩))
       clear hL1 hF1
       rw[hl1] at HPR HIH3 ⊢
       clear hl1
       go_wp2_with fail
       have fD:St w6 w6.drew:=(Fr.refl _ w6).drewN 1
       refine wp_region_held_drew (S:=fun w'=>w'.cell? ⟨gk,1,none⟩=some (.int .i64 (np:Nat))) (by kernel_rfl) (fD.cell' pc id) (fun hHeld=>?_)
       clear hHeld
       have hHeld:=fD.cell' pc id
       refine tkO 0 ?_ hHeld rfl ?_ ?_
       rotate_left
       ·intro w q;go_simp;try with_reducible rfl
       simp only[apt,List.set]
       refine tkO 2 ?_ hHeld rfl ?_ ?_
       rotate_left
       ·intro w q;go_simp;try with_reducible rfl
       simp only[apt,List.set]
       refine tkO 3 (.int .i64 (np:Nat)) hHeld rfl ?_ ?_
       ·intro w q;go_simp;try with_reducible rfl
       simp only[apt,List.set]
       refine rdO 1 rfl (fun K hK=>?_)
       go_simp
       go_wp2_with fail
       refine(uh HPR _ fD).mono ?_
       rintro e w8 ⟨rfl,f8⟩
       have f68:St w6 w8:=fD.trans' f8 nE
       refine hK.out _ _ (f68.cell' pc id) (fun _=>?_)
       clear hK K hHeld
       refine rdO 4 rfl (fun K hK=>?_)
       go_simp
       refine hK.out _ _ (f68.cell' pc id) (fun _=>?_)
       clear hK K
       refine rdO 5 rfl (fun K hK=>?_)
       go_simp
       go_wp2_with fail
       refine(uh HMB _).mono ?_
       rintro e w9 ⟨rfl,rfl⟩
       refine hK.out _ _ (f68.cell' pc id) (fun _=>?_)
       clear hK K
       refine wpAnyH_done (by kernel_rfl) ?_ _
       have c9:=f68.cell' c5 id
       have K2:=Hd (uh HIH3 w9 f68)
       have HF9:=Hd ((uh HF6).trans' f68 nE)
       clear f8 f68 fD c5 pc HIH3 HPR HMB HF6
       go_wp2_with fail
       refine(uh K2).mono ?_
       rintro e w10 ⟨rfl,f10⟩
       have c10:=f10.cell' c9 id
       have HF10:=Hd ((uh HF9).trans' f10 nE)
       clear K2 f10 c9
       go_wp2_with fail
       obtain⟨_,_,_,elow,_⟩:=uh HZ
       rw[wj]
       refine⟨⟨j+1,by omega,by simp,by rw[elow],uh HF10⟩,by simp[intOf];omega⟩
      | br h1 B1 k1=>
       obtain⟨ba1,bc1,ka1,kc1,rfl,hB1,hK1,hF1,hF2⟩:=nd1
       have hsum:(k1.map (·.2)).sum=np/\k1.length<=500/\np<900000:=by
        obtain⟨un1,st1,hnp,_,hj2⟩:=uh HZ
        have:=un1.pairs
        refine⟨by rw[<-hnp,<-this];rfl,?_,hj2.2⟩
        have h32:=st1.le
        rw[br_size] at h32
        unfold hsz need at h32
        omega
       have HPR:=@Hd _ (fun(w7:World) (f7:St w6 w7)=>show Calls Tryz.prog 230 #[brV h1 ba1 B1.length bc1 ka1 k1.length kc1] w7 fun e w'=>e = .returned (.int .i64 (np:Nat))/\St w7 w' from by
        have:=b_pairs h1 ba1 B1.length bc1 ka1 kc1 k1 w7 (hK1.still f7) hsum.2.1 (by omega)
        rw[hsum.1] at this
        exact this)
       clear hB1 hK1 hF1 hF2 hsum
       go_wp2_with fail
       have fD:St w6 w6.drew:=(Fr.refl _ w6).drewN 1
       refine wp_region_held_drew (S:=fun w'=>w'.cell? ⟨gk,1,none⟩=some (.int .i64 (np:Nat))) (by kernel_rfl) (fD.cell' pc id) (fun hHeld=>?_)
       clear hHeld
       have hHeld:=fD.cell' pc id
       refine tkO 0 ?_ hHeld rfl ?_ ?_
       rotate_left
       ·intro w q;go_simp;try with_reducible rfl
       simp only[apt,List.set]
       refine tkO 2 ?_ hHeld rfl ?_ ?_
       rotate_left
       ·intro w q;go_simp;try with_reducible rfl
       simp only[apt,List.set]
       refine tkO 3 (.int .i64 (np:Nat)) hHeld rfl ?_ ?_
       ·intro w q;go_simp;try with_reducible rfl
       simp only[apt,List.set]
       refine rdO 1 rfl (fun K hK=>?_)
       go_simp
       go_wp2_with fail
       refine(uh HPR _ fD).mono ?_
       rintro e w8 ⟨rfl,f8⟩
       have f68:St w6 w8:=fD.trans' f8 nE
       refine hK.out _ _ (f68.cell' pc id) (fun _=>?_)
       clear hK K hHeld
       refine rdO 4 rfl (fun K hK=>?_)
       go_simp
       refine hK.out _ _ (f68.cell' pc id) (fun _=>?_)
       clear hK K
       refine rdO 5 rfl (fun K hK=>?_)
       go_simp
       go_wp2_with fail
       refine(uh HMB _).mono ?_
       rintro e w9 ⟨rfl,rfl⟩
       refine hK.out _ _ (f68.cell' pc id) (fun _=>?_)
       clear hK K
       refine wpAnyH_done (by kernel_rfl) ?_ _
       have c9:=f68.cell' c5 id
       have K2:=Hd (uh HIH3 w9 f68)
       have HF9:=Hd ((uh HF6).trans' f68 nE)
       clear f8 f68 fD c5 pc HIH3 HPR HMB HF6
       go_wp2_with fail
       refine(uh K2).mono ?_
       rintro e w10 ⟨rfl,f10⟩
       have c10:=f10.cell' c9 id
       have HF10:=Hd ((uh HF9).trans' f10 nE)
       clear K2 f10 c9
       go_wp2_with fail
       obtain⟨_,_,_,elow,_⟩:=uh HZ
       rw[wj]
       refine⟨⟨j+1,by omega,by simp,by rw[elow],uh HF10⟩,by simp[intOf];omega⟩
     ·have hjn:((j:Int)<nk)=False:=by simp;omega
      go_wp2_with fail
      refine bodyPost_end (results_none rfl _ _ _) rfl ?_
      exact⟨rfl,(uh H5).2.trans' fr nE⟩
end
end

section
section
variable {nu sz:Nat} {w w' w0:World} {hb sb b:Nat} {T:Tay} {A:Ab} {P:List (Int×Int)}
theorem win_all (l:List Pr):Win l ⟨#[]⟩ ⟨#[]⟩:=fun _ _=>⟨List.not_lt_nil _,.inl rfl⟩
set_option maxRecDepth 100000 in
theorem y_checkC (h:Hp nu sz w hb sb b T A P) {r:Nat} {l:List Pr} {Q:List Nat} (rt:Rt nu sz (says P A) r l Q) (hl:l.length<900000) (bs br:Nat) (dS:w.cell? ⟨bs,0,none⟩=some (ptr sb)) (dR:w.cell? ⟨br,0,none⟩=some (.int .u64 (r:Nat))) :
  Calls Tryz.prog 51 #[ptr bs,ptr br] w fun e w'=>e = .returned (.tuple #[])/\St w w':=by
 have fD:St w w.drew:=(Fr.refl _ w).drewN 1
 have TP:=y_topR (h.still fD) rt
 have CK:∀w2 v n,St w w2->NdO (fun k=>w.drew.heap.size<=k/\k<w2.heap.size) w2 v n->((l = []/\n = .lf []/\Q = [])\/∃h' u Q',Std nu sz (says P A) u n/\Un nu (Tr nu sz (says P A) h') (h'+1) n l Q'/\r=fi nu+8 * u/\2 ^ h'<=l.length)->Calls Tryz.prog 52 #[ptr sb,v,.string ⟨#[]⟩,.string ⟨#[]⟩] w2 fun e w'=>e = .returned (.tuple #[])/\St w2 w':=by
  intro w2 v n f2 nd hcs
  rcases hcs with ⟨rfl,rfl,_⟩ | ⟨h',u,Q',st,un,_⟩
  ·obtain⟨a,c,rfl,hL,_⟩:=nd
   exact y_check_leaf (ptr sb) a c [] _ _ w2 hL (by simp) (win_all _)
  ·exact y_check h' _ _ (h.still f2) nd un st.ok st.le hl (win_all l)
 have HTP:=Hd TP;have HCK:=@Hd _ CK
 clear TP CK h rt hl
 go_enter Tryz.func51,Tryz.ntmps51
 go_wp2_with fail
 refine wp_region_held_drew (S:=fun w'=>w'.cell? ⟨bs,0,none⟩=some (ptr sb)/\w'.cell? ⟨br,0,none⟩=some (.int .u64 (r:Nat))) (by kernel_rfl) ⟨dS,dR⟩ (fun hHeld=>?_)
 refine tkO 0 (ptr sb) hHeld rfl ?_ ?_
 ·rintro w ⟨x0,x1⟩;go_simp;try with_reducible rfl
 simp only[apt,List.set]
 refine tkO 1 (ptr sb) hHeld rfl ?_ ?_
 ·rintro w ⟨x0,x1⟩;go_simp;try with_reducible rfl
 simp only[apt,List.set]
 refine tkO 2 (.int .u64 (r:Nat)) hHeld rfl ?_ ?_
 ·rintro w ⟨x0,x1⟩;go_simp;try with_reducible rfl
 simp only[apt,List.set]
 refine rdO 3 rfl (fun K hK=>?_)
 go_simp
 go_wp2_with fail
 refine(uh HTP).mono ?_
 rintro e w2 ⟨v,n,rfl,nd,f2,hcs⟩
 have f02:St w w2:=fD.trans' f2 nE
 have K2:=Hd (uh HCK w2 v n f02 nd hcs)
 refine hK.out _ _ ⟨f02.cell' dS id,f02.cell' dR id⟩ (fun _=>?_)
 clear hK K hHeld HTP HCK nd hcs f2
 refine rdO 4 rfl (fun K hK=>?_)
 go_simp
 go_wp2_with fail
 refine(uh K2).mono ?_
 rintro e w3 ⟨rfl,f3⟩
 have f03:St w w3:=f02.trans' f3 nE
 refine hK.out _ _ ⟨f03.cell' dS id,f03.cell' dR id⟩ (fun _=>?_)
 clear hK K
 refine wpAnyH_done (by kernel_rfl) ?_ _
 have HF:=Hd f03
 clear f03 f3 f02 K2
 go_wp2_with fail
 go_end0
 exact⟨rfl,uh HF⟩
set_option maxRecDepth 100000 in
theorem y_Check (h:Hp nu sz w hb sb b T A P) {r:Nat} {l:List Pr} {Q:List Nat} (rt:Rt nu sz (says P A) r l Q) (hl:l.length<900000) :
  Calls Tryz.prog 16 #[ptr sb,.int .u64 (r:Nat)] w fun e w'=>e = .returned (.int .i64 0)/\St w w':=by
 obtain⟨g,hg⟩:∃g,w.heap.size=g:=⟨_,rfl⟩
 obtain⟨W1,hW1⟩:∃W,w.alloc (.cells #[ptr sb] 23)=W:=⟨_,rfl⟩
 obtain⟨W2,hW2⟩:∃W,W1.alloc (.cells #[.int .u64 (r:Nat)] 27)=W:=⟨_,rfl⟩
 have z1:W1.heap.size=g+1:=by rw[<-hW1];simp[hg]
 have f1:St w W1:=hW1▸(Fr.refl _ w).alloc _
 have f2:St W1 W2:=hW2▸(Fr.refl _ W1).alloc _
 have f02:St w W2:=f1.trans' f2 nE
 have oS:W2.heap[g]? = some (.cells #[ptr sb] 23 (0,0)):=by
  have:=heap_alloc_new w (.cells #[ptr sb] 23)
  rw[hW1,hg] at this;exact f2.obj this id
 have oR:W2.heap[g+1]? = some (.cells #[.int .u64 (r:Nat)] 27 (0,0)):=by
  have:=heap_alloc_new W1 (.cells #[.int .u64 (r:Nat)] 27)
  rw[hW2,z1] at this;exact this
 have fb:St W2 (W2.alloc box):=(Fr.refl _ W2).alloc _
 have CL:=y_checkC (h.still (f02.trans' fb nE)) rt hl g (g+1) (cOo (fb.obj oS id) 0) (cOo (fb.obj oR id) 0)
 have TR:Calls Tryz.prog 80 #[.func (.func 51) #[] #[ptr g,ptr (g+1)]] W2 fun e w'=>∃h:How,e = .returned (.tuple #[h.v,.bool h.is])/\(h = .well/\St w w'):=
  try_fr (F:=fun _=>False) (fun k hk=>hk.elim) (acts_of (fun _ _=>by kernel_rfl) (CL.mono (by
   rintro e w' ⟨rfl,f⟩
   refine⟨.well,rfl,f,fun w2 ff2=>⟨rfl,?_⟩⟩
   exact((f02.trans' fb nE).trans' f nE).trans' ff2 (fun k hk=>.inr (by have hk:k=W2.heap.size:=hk;have:=f02.size;omega)))))
 have ER:=g_errno TR (fun h w' x=>.inl x.1)
 have HER:=Hd ER;have HW:=Hd (ai hW1 hW2)
 have m1:=mf
 clear h rt hl CL TR ER f1 f2 f02 oS oR fb hW1 hW2 z1
 go_enter Tryz.func16,Tryz.ntmps16
 go_wp2_with fail
 rw[(uh HW).1,(uh HW).2]
 refine(uh HER).mono ?_
 clear HER HW
 rintro e w4 (⟨rfl,-,f⟩ | ⟨i,-,e,_⟩)
 ·have HF:=Hd f
  clear f
  go_wp2_with fail
  go_ret
  exact⟨rfl,uh HF⟩
 ·exact absurd e (by intro h;cases h)
end
end

section
section
variable {nu sz:Nat} {w w' w0:World} {hb sb b:Nat} {T:Tay} {A:Ab} {P:List (Int×Int)}
set_option maxRecDepth 100000 in
theorem y_DepthP (h:Hp nu sz w hb sb b T A P) (u:Nat) (n:Nd) (s:Std nu sz (says P A) u n) :
  Calls Tryz.prog 20 #[ptr sb,.int .u64 (fi nu+8 * u:Nat)] w fun e w'=>e = .returned (.int .i64 (n.high:Nat))/\St w w':=by
 have g:=h.hp.geo.b
 have f0:=fi_eight nu
 have hsd:n.size=hsz n.items.length (kb n.keys):=rfl
 have hr:n.items.length<=32/\kb n.keys<=300:=by have:=s.le;rw[hsd] at this;unfold hsz need at this;omega
 have HA:=y_headAt h (fi nu+8 * u) n.high n.items.length (kb n.keys) (by omega) (by omega) s.fit s.ok.h1 s.ok.h16 (by omega) (by omega) (by rw[<-hsd];exact s.le) (s.wd 0 _ rfl)
 have t9:=fun w=>fld_head n.high n.items.length (kb n.keys) w
 have hp0:(((fi nu+8 * u:Nat):Int) == 0)=false:=by simp;omega
 unfold hdV at HA
 clear h s g f0 hsd hr
 generalize fi nu+8 * u=p at *
 generalize n.high=ht at *
 generalize n.items.length=it at *
 generalize kb n.keys=bt at *
 go_enter Tryz.func20,Tryz.ntmps20
 go_wp2_with fail
 refine HA.mono ?_
 rintro e w1 ⟨rfl,f1⟩
 clear HA
 go_wp2_with fail
 go_ret
 exact⟨rfl,f1⟩
theorem y_DepthN (sv:Value) (w:World):Calls Tryz.prog 20 #[sv,.int .u64 0] w fun e w'=>e = .returned (.int .i64 0)/\w'=w:=by
 go_enter Tryz.func20,Tryz.ntmps20
 go_wp2
 go_ret
 exact⟨rfl,rfl⟩
theorem y_Depth (h:Hp nu sz w hb sb b T A P) {r:Nat} {l:List Pr} {Q:List Nat} (rt:Rt nu sz (says P A) r l Q) :
  Calls Tryz.prog 20 #[ptr sb,.int .u64 (r:Nat)] w fun e w'=>∃d:Nat,e = .returned (.int .i64 (d:Nat))/\St w w'/\(d=0 ↔ l.length=0)/\d<=17/\∀j,l.length<2 ^ j->d<=j:=by
 rcases rt with ⟨rfl,rfl,rfl⟩ | ⟨hh,u,rfl,t⟩
 ·refine(y_DepthN (ptr sb) w).mono ?_
  rintro e w' ⟨rfl,rfl⟩
  exact⟨0,rfl,Fr.refl _ _,by simp,by omega,fun _ _=>Nat.zero_le _⟩
 ·obtain⟨h',rfl,n,Q',s,un,hn⟩:=t.node
  have hp:=t.pow
  have h16:=s.ok.h16
  refine(y_DepthP h u n s).mono ?_
  rintro e w' ⟨rfl,f⟩
  have h0:0<2 ^ h':=Nat.pow_pos (by omega)
  refine⟨n.high,rfl,f,⟨fun x=>by omega,fun x=>by omega⟩,by omega,fun j hj=>?_⟩
  rw[hn]
  refine Nat.lt_of_not_le fun hle=>?_
  have:2 ^ j<=2 ^ h':=Nat.pow_le_pow_right (by omega) hle
  omega
set_option maxRecDepth 100000 in
theorem l11_tells (h:Hp nu sz w hb sb b T A P) {r:Nat} {L:List Pr} {Q:List Nat} (rt:Rt nu sz (says P A) r L Q) (ri:Rise L) (pk:Pok L) (hl:L.length<=400) (la:Option Addr) (lc:Nat) (hL:Lf w la lc L) :
  Calls Tryz.prog 28 #[ptr sb,.agg #[.int .u64 (r:Nat),.slice la L.length lc]] w fun e w'=>e = .returned (.bool true)/\St w w':=by
 obtain⟨g,hg⟩:∃g,w.heap.size=g:=⟨_,rfl⟩
 obtain⟨W,hW⟩:∃W,w.alloc (.cells #[.int .u64 (r:Nat),.slice la L.length lc] 35)=W:=⟨_,rfl⟩
 have fW:St w W:=hW▸(Fr.refl _ w).alloc _
 have oW:W.heap[g]? = some (.cells #[.int .u64 (r:Nat),.slice la L.length lc] 35 (0,0)):=by rw[<-hg,<-hW];exact heap_alloc_new w _
 have RG:∀w1,St W w1->Calls Tryz.prog 14 #[ptr sb,.int .u64 (r:Nat),.string ⟨#[]⟩,.string ⟨#[]⟩,.int .i64 5000] w1 fun e w'=>∃va vc,e = .returned (.slice va L.length vc)/\Lf w' va vc L/\St w1 w':=fun w1 f1=>by
  have:=y_RangeA (h.still (fW.trans' f1 nE)) rt ri pk ⟨#[]⟩ ⟨#[]⟩ 5000 (by omega)
  rw[rgP_all (show((L.length:Nat):Int)<=5000 by omega)] at this
  exact this
 have SM:∀w1 va vc,St W w1->Lf w1 va vc L->Calls Tryz.prog 32 #[.slice va L.length vc,.slice la L.length lc] w1 fun e w'=>e = .returned (.bool true)/\St w1 w':=fun w1 va vc f1 hv=>l11_same va la vc lc L w1 hv (hL.still (fW.trans' f1 nE)) (by omega)
 have LN:∀w1,St W w1->Calls Tryz.prog 15 #[ptr sb,.int .u64 (r:Nat)] w1 fun e w'=>e = .returned (.int .i64 (L.length:Nat))/\St w1 w':=fun w1 f1=>y_Len (h.still (fW.trans' f1 nE)) rt (by omega)
 have CK:∀w1,St W w1->Calls Tryz.prog 16 #[ptr sb,.int .u64 (r:Nat)] w1 fun e w'=>e = .returned (.int .i64 0)/\St w1 w':=fun w1 f1=>y_Check (h.still (fW.trans' f1 nE)) rt (by omega)
 have DP:∀w1,St W w1->Calls Tryz.prog 20 #[ptr sb,.int .u64 (r:Nat)] w1 _:=fun w1 f1=>y_Depth (h.still (fW.trans' f1 nE)) rt
 have CE:∀w1,St W w1->w1.cell? ⟨g,0,none⟩=some (.int .u64 (r:Nat))/\w1.cell? ⟨g,1,none⟩=some (.slice la L.length lc):=fun w1 f1=>⟨cOo (f1.obj oW id) 0,cOo (f1.obj oW id) 1⟩
 have HRG:=@Hd _ RG;have HSM:=@Hd _ SM;have HLN:=@Hd _ LN;have HCK:=@Hd _ CK;have HDP:=@Hd _ DP;have HCE:=@Hd _ CE
 have HW:=Hd hW;have HF:=Hd fW
 clear RG SM LN CK DP CE hW fW oW h rt ri pk hL
 generalize hn:L.length=m at *
 have HN:=Hd hn
 clear hn
 go_enter Tryz.func28,Tryz.ntmps28
 go_wp2_with fail
 rw[uh HW]
 have fD:St W W.drew:=(Fr.refl _ W).drewN 1
 refine wp_region_held_drew (S:=fun w'=>w'.cell? ⟨g,0,none⟩=some (.int .u64 (r:Nat))/\w'.cell? ⟨g,1,none⟩=some (.slice la m lc)) (by kernel_rfl) (uh HCE _ fD) (fun hHeld=>?_)
 refine tkO 0 ?_ hHeld rfl ?_ ?_
 rotate_left
 ·intro w q;go_simp;try with_reducible rfl
 simp only[apt,List.set]
 refine tkO 1 ?_ hHeld rfl ?_ ?_
 rotate_left
 ·intro w q;go_simp;try with_reducible rfl
 simp only[apt,List.set]
 refine tkO 2 ?_ hHeld rfl ?_ ?_
 rotate_left
 ·intro w q;go_simp;try with_reducible rfl
 simp only[apt,List.set]
 refine tkO 4 ?_ hHeld rfl ?_ ?_
 rotate_left
 ·intro w q;go_simp;try with_reducible rfl
 simp only[apt,List.set]
 refine tkO 5 ?_ hHeld rfl ?_ ?_
 rotate_left
 ·intro w q;go_simp;try with_reducible rfl
 simp only[apt,List.set]
 refine rdO 3 rfl (fun K hK=>?_)
 go_simp
 go_wp2_with fail
 refine(uh HRG _ fD).mono ?_
 rintro e w1 ⟨va,vc,rfl,lv,f1⟩
 have f01:St W w1:=fD.trans' f1 nE
 have HS:=Hd (uh HSM _ va vc f01 lv)
 clear lv f1 HRG HSM hHeld fD
 refine hK.out _ _ (uh HCE _ f01) (fun hHeld=>?_)
 clear hK K
 have HF1:=Hd f01
 clear f01
 refine rdO 6 rfl (fun K hK=>?_)
 go_simp
 go_wp2_with fail
 refine(uh HS).mono ?_
 rintro e w2 ⟨rfl,f2⟩
 have f02:St W w2:=(uh HF1).trans' f2 nE
 clear f2 HF1 HS hHeld
 refine hK.out _ _ (uh HCE _ f02) (fun hHeld=>?_)
 clear hK K
 have HF2:=Hd f02
 clear f02
 refine tkO 7 ?_ hHeld rfl ?_ ?_
 rotate_left
 ·intro w q;go_simp;try with_reducible rfl
 simp only[apt,List.set]
 refine tkO 8 ?_ hHeld rfl ?_ ?_
 rotate_left
 ·intro w q;go_simp;try with_reducible rfl
 simp only[apt,List.set]
 refine tkO 9 ?_ hHeld rfl ?_ ?_
 rotate_left
 ·intro w q;go_simp;try with_reducible rfl
 simp only[apt,List.set]
 refine tkO 10 ?_ hHeld rfl ?_ ?_
 rotate_left
 ·intro w q;go_simp;try with_reducible rfl
 simp only[apt,List.set]
 refine tkO 11 ?_ hHeld rfl ?_ ?_
 rotate_left
 ·intro w q;go_simp;try with_reducible rfl
 simp only[apt,List.set]
 refine tkO 13 ?_ hHeld rfl ?_ ?_
 rotate_left
 ·intro w q;go_simp;try with_reducible rfl
 simp only[apt,List.set]
 refine tkO 14 ?_ hHeld rfl ?_ ?_
 rotate_left
 ·intro w q;go_simp;try with_reducible rfl
 simp only[apt,List.set]
 refine tkO 15 ?_ hHeld rfl ?_ ?_
 rotate_left
 ·intro w q;go_simp;try with_reducible rfl
 simp only[apt,List.set]
 refine rdO 12 rfl (fun K hK=>?_)
 go_simp
 go_wp2_with fail
 refine(uh HLN _ (uh HF2)).mono ?_
 rintro e w3 ⟨rfl,f3⟩
 have f03:St W w3:=(uh HF2).trans' f3 nE
 clear f3 HF2 HLN hHeld
 refine hK.out _ _ (uh HCE _ f03) (fun hHeld=>?_)
 clear hK K
 have HF3:=Hd f03
 clear f03
 refine tkO 16 ?_ hHeld rfl ?_ ?_
 rotate_left
 ·intro w q;go_simp;try with_reducible rfl
 simp only[apt,List.set]
 refine tkO 17 ?_ hHeld rfl ?_ ?_
 rotate_left
 ·intro w q;go_simp;try with_reducible rfl
 simp only[apt,List.set]
 refine tkO 18 ?_ hHeld rfl ?_ ?_
 rotate_left
 ·intro w q;go_simp;try with_reducible rfl
 simp only[apt,List.set]
 refine tkO 19 ?_ hHeld rfl ?_ ?_
 rotate_left
 ·intro w q;go_simp;try with_reducible rfl
 simp only[apt,List.set]
 refine tkO 20 ?_ hHeld rfl ?_ ?_
 rotate_left
 ·intro w q;go_simp;try with_reducible rfl
 simp only[apt,List.set]
 refine tkO 21 ?_ hHeld rfl ?_ ?_
 rotate_left
 ·intro w q;go_simp;try with_reducible rfl
 simp only[apt,List.set]
 refine rdO 22 rfl (fun K hK=>?_)
 go_simp
 go_wp2_with fail
 refine(uh HCK _ (uh HF3)).mono ?_
 rintro e w4 ⟨rfl,f4⟩
 have f04:St W w4:=(uh HF3).trans' f4 nE
 clear f4 HF3 HCK hHeld
 refine hK.out _ _ (uh HCE _ f04) (fun hHeld=>?_)
 clear hK K
 have HF4:=Hd f04
 clear f04
 refine tkO 23 ?_ hHeld rfl ?_ ?_
 rotate_left
 ·intro w q;go_simp;try with_reducible rfl
 simp only[apt,List.set]
 refine tkO 24 ?_ hHeld rfl ?_ ?_
 rotate_left
 ·intro w q;go_simp;try with_reducible rfl
 simp only[apt,List.set]
 refine wpAnyH_done (by kernel_rfl) ?_ _
 obtain⟨c0,c1⟩:=uh HCE _ (uh HF4)
 clear hHeld
 go_wp2_with fail
 go_loopw [5,6] (fun v5 v6 wr=>∃j k:Nat,v5 = .int .i64 j/\v6 = .int .i64 k/\k=m / 2 ^ j/\j+k<=m/\St W wr) (fun _ v6 _=>(intOf v6).toNat)
 case atStart=>exact⟨0,m,rfl,rfl,by simp,by omega,uh HF4⟩
 case round=>
  obtain⟨j,k,rfl,rfl,hk,hjk,fr⟩:=hrel
  generalize wr=wq at *
  clear wr
  by_cases h0:0<k
  ·have k0:((0:Int)<k)=True:=by simp;omega
   have q1:wrap64 ((k:Int) / 2)=((k / 2:Nat):Int):=by
    rw[small_w64 ⟨by omega,by omega⟩];omega
   have q2:wrap64 ((j:Int)+1)=((j+1:Nat):Int):=by
    rw[small_w64 ⟨by omega,by omega⟩];omega
   have HK:=Hd (ai hk (ai hjk fr))
   clear hk hjk fr
   go_wp2_with fail
   obtain⟨hk,hjk,fr⟩:=uh HK
   refine⟨⟨j+1,k / 2,by rw[q2],by rw[q1],?_,by omega,fr⟩,by rw[q1];simp[intOf];omega⟩
   rw[hk,Nat.div_div_eq_div_mul,Nat.pow_succ]
  ·have e:k=0:=by omega
   subst e
   have hm:m<2 ^ j:=by
    refine Nat.lt_of_not_le fun hle=>?_
    have:=Nat.div_pos hle (Nat.pow_pos (by omega))
    omega
   have k0:((0:Int)<((0:Nat):Int))=False:=by simp
   have HM:=Hd hm;have HFR:=Hd fr
   obtain⟨q0,q1⟩:=uh HCE _ fr
   clear hm hk fr
   go_wp2_with fail
   refine(uh HDP _ (uh HFR)).mono ?_
   rintro e w5 ⟨d,rfl,f5,hd0,hd17,hdj⟩
   have hdj':=hdj j (uh HM)
   have f05:St W w5:=(uh HFR).trans' f5 nE
   have c15:w5.cell? ⟨g,1,none⟩=some (.slice la m lc):=(uh HCE _ f05).2
   have d1:((d:Int)<=2+(j:Int))=True:=by simp;omega
   have HF5:=Hd (ai f05 hd0)
   clear hd0 hdj f5 f05
   go_wp2_with fail
   obtain⟨f05,hd0⟩:=uh HF5
   have fin:(((d:Int) == 0) == ((m:Int) == 0))=true:=by
    by_cases e:d=0
    ·have e2:=hd0.1 e
     subst e;subst e2;rfl
    ·have e2:¬m=0:=fun x=>e (hd0.2 x)
     have e3:((d:Int) == 0)=false:=by simp;omega
     have e4:((m:Int) == 0)=false:=by simp;omega
     rw[e3,e4];rfl
   rw[fin]
   go_ret
   exact⟨rfl,(uh HF).trans' f05 nE⟩
end
end
abbrev Kp:=Nat×List Pr×List Nat
def inK (ks:List Kp) (u:Nat):Prop:=∃p∈ks,u∈p.2.2
def anyK (ks:List Kp) (u:Nat):Bool:=ks.any fun p=>decide (u∈p.2.2)
theorem anyK_iff {ks:List Kp} {u:Nat}:anyK ks u=true ↔ inK ks u:=by simp[anyK,inK]
def cntK (nu:Nat) (ks:List Kp):Nat:=sumTo (fun u=>if anyK ks u=true then 1 else 0) nu
theorem cntK_nil (nu:Nat):cntK nu []=0:=sumTo_zero fun u _=>if_neg (by simp[anyK])
structure Stds (nu sz:Nat) (f:Nat->Int) (r:Nat) (L:List Pr) (Q:List Nat) (ks:List Kp):Prop where
 st:HpS nu f
 rt:Rt nu sz f r L Q
 ri:Rise L
 pk:Pok L
 kt:∀p∈ks,Rt nu sz f p.1 p.2.1 p.2.2/\Rise p.2.1/\Pok p.2.1
 low:∀u,ask nu f u<=32
structure Frs (nu sz:Nat) (f:Nat->Int) (r:Nat) (L:List Pr) (Q:List Nat) (ks:List Kp):Prop extends Stds nu sz f r L Q ks where
 al:∀u,ask nu f u≠0->u∈Q\/inK ks u
theorem Frs.cnt_le {nu sz:Nat} {f:Nat->Int} {r:Nat} {L:List Pr} {Q:List Nat} {ks:List Kp} (h:Frs nu sz f r L Q ks):cnt nu (ask nu f)<=cntK nu ks+2 * L.length:=by
 have h1:cnt nu (ask nu f)<=sumTo (fun u=>(if anyK ks u=true then 1 else 0)+(if u∈Q then 1 else 0)) nu:=sumTo_le fun u _=>by
  by_cases e:ask nu f u=0
  ·simp[e]
  ·rcases h.al u e with x | x
   ·simp[e,x]
   ·simp[e,anyK_iff.2 x]
 rw[sumTo_add] at h1
 have h2:=sumTo_in nu Q
 have h3:=h.rt.few
 unfold cntK
 omega
theorem Frs.new {nu sz:Nat} {f:Nat->Int} (n:NewH nu f):Frs nu sz f 0 [] [] []:=
 ⟨⟨n.st,.inl ⟨rfl,rfl,rfl⟩,List.Pairwise.nil,(fun p hp=>by cases hp),(fun p hp=>by cases hp),fun u=>by rw[n.ak];exact Nat.zero_le _⟩,fun u h=>absurd (by rw[n.ak]) h⟩
theorem Stds.chg {nu sz k:Nat} {f g:Nat->Int} {r r':Nat} {L L':List Pr} {Q Q':List Nat} {ks:List Kp} (h:Stds nu sz f r L Q ks) (c:Chg nu f k g) (rt:Rt nu sz g r' L' Q') (ri:Rise L') (pk:Pok L'):Stds nu sz g r' L' Q' ks:=
 ⟨c.st,rt,ri,pk,fun p hp=>⟨(h.kt p hp).1.same fun v hv=>c.sam v ((h.kt p hp).1.asked v hv),(h.kt p hp).2⟩,c.low h.low⟩
theorem Stds.swp {nu sz:Nat} {f g:Nat->Int} {r:Nat} {L:List Pr} {Q:List Nat} {ks:List Kp} {U:List Nat} (h:Stds nu sz f r L Q ks) (s:Swp nu f g U) (hU:∀u,u∈U ↔ u∈Q\/inK ks u):Frs nu sz g r L Q ks/\cnt nu (ask nu g)<=cnt nu (ask nu f):=by
 refine⟨⟨⟨s.st,h.rt.same fun v hv=>s.sam ((hU v).2 (.inl hv)),h.ri,h.pk,fun p hp=>⟨(h.kt p hp).1.same fun v hv=>s.sam ((hU v).2 (.inr ⟨p,hp,hv⟩)),(h.kt p hp).2⟩,fun u=>?_⟩,fun u hu=>?_⟩,?_⟩
 ·rw[s.ak];split
  ·exact h.low u
  ·exact Nat.zero_le _
 ·refine(hU u).1 (Decidable.byContradiction fun hn=>hu ?_)
  rw[s.ak,if_neg hn]
 ·refine sumTo_le fun u _=>?_
  rw[s.ak]
  by_cases e:u∈U
  ·rw[if_pos e];exact Nat.le_refl _
  ·rw[if_neg e];simp
theorem Frs.keep {nu sz:Nat} {f:Nat->Int} {r:Nat} {L:List Pr} {Q:List Nat} {ks:List Kp} (h:Frs nu sz f r L Q ks):cntK nu (ks ++ [(r,L,Q)])<=cnt nu (ask nu f):=by
 refine sumTo_le fun u _=>?_
 by_cases e:anyK (ks ++ [(r,L,Q)]) u=true
 ·have:ask nu f u≠0:=by
   obtain⟨p,hp,hu⟩:=anyK_iff.1 e
   rcases List.mem_append.1 hp with hp | hp
   ·exact(h.kt p hp).1.asked u hu
   ·rw[List.mem_singleton.1 hp] at hu;exact h.rt.asked u hu
  simp[e,this]
 ·simp[e]
theorem Frs.keeps {nu sz:Nat} {f:Nat->Int} {r:Nat} {L:List Pr} {Q:List Nat} {ks:List Kp} (h:Frs nu sz f r L Q ks):Stds nu sz f r L Q (ks ++ [(r,L,Q)]):=
 ⟨h.st,h.rt,h.ri,h.pk,fun p hp=>by
  rcases List.mem_append.1 hp with hp | hp
  ·exact h.kt p hp
  ·rw[List.mem_singleton.1 hp];exact⟨h.rt,h.ri,h.pk⟩,h.low⟩
theorem Stds.back {nu sz:Nat} {f:Nat->Int} {r:Nat} {L:List Pr} {Q:List Nat} {ks:List Kp} (h:Stds nu sz f r L Q ks) {p:Kp} (hp:p∈ks):Stds nu sz f p.1 p.2.1 p.2.2 ks:=⟨h.st,(h.kt p hp).1,(h.kt p hp).2.1,(h.kt p hp).2.2,h.kt,h.low⟩
def cC:Nat->Nat
 | 0=>0
 | 1=>200
 | 2=>370
 | 3=>514
 | 4=>635
 | _=>738
structure Nms (i n p q T K len:Nat):Prop where
 n4:n<=4
 pi:p+n<=i
 qp:q<=p
 len:len<=p
 t1:T<=K+13 * (p - q)
 t2:T<=K+2 * p
 k:100 * K<=cC n * q
theorem Nms.top {i n p q T K len:Nat} (h:Nms i n p q T K len):100 * T<=cC (n+1) * p:=by
 obtain⟨h1,h2,h3,h4,h5,h6,h7⟩:=h
 rcases (show n=0\/n=1\/n=2\/n=3\/n=4 by omega) with rfl | rfl | rfl | rfl | rfl <;> simp only[cC] at h7 ⊢<;> omega
theorem Nms.room {i n p q T K len:Nat} (h:Nms i n p q T K len) (hi:i<50):T+30<366:=by
 have h8:=h.top
 obtain⟨h1,h2,h3,h4,h5,h6,h7⟩:=h
 rcases (show n=0\/n=1\/n=2\/n=3\/n=4 by omega) with rfl | rfl | rfl | rfl | rfl <;> simp only[cC] at h8 <;> omega
theorem Nms.new:Nms 0 0 0 0 0 0 0:=⟨by omega,by omega,by omega,by omega,by omega,by omega,by simp⟩
theorem Nms.put {i n p q T K len T' len':Nat} (h:Nms i n p q T K len) (hT:T'<=T+13) (hl:len'<=len+1) (h2:T'<=K+2 * len'):Nms (i+1) n (p+1) q T' K len':=by
 obtain⟨h1,h2,h3,h4,h5,h6,h7⟩:=h
 exact⟨h1,by omega,by omega,by omega,by omega,by omega,h7⟩
theorem Nms.same {i n p q T K len T' len':Nat} (h:Nms i n p q T K len) (hT:T'<=T) (hl:len'<=p):Nms (i+1) n p q T' K len':=by
 obtain⟨h1,h2,h3,h4,h5,h6,h7⟩:=h
 exact⟨h1,by omega,h3,hl,by omega,by omega,h7⟩
theorem Nms.keep {i n p q T K len T':Nat} (h:Nms i n p q T K len) (hn:n<4) (hT:T'<=T):Nms (i+1) (n+1) p p T' T len:=by
 have h8:=h.top
 obtain⟨h1,h2,h3,h4,h5,h6,h7⟩:=h
 exact⟨by omega,by omega,by omega,h4,by omega,by omega,h8⟩
end Go.Proofs.YtbiopjmpdhcjgaaGreatDoor
