/- Joined: Yp Yt. -/
import Derived.Test.YtbiopjmpdhcjgaaGreatDoorZ13
import Derived.Test.YtbiopjmpdhcjgaaGreatDoorZ17
import Derived.Test.YtbiopjmpdhcjgaaGreatDoorZ19
namespace Go.Proofs.YtbiopjmpdhcjgaaGreatDoor
open Go.RowKit
set_option maxHeartbeats 4000000

section
section
variable {nu sz:Nat} {w:World} {hb sb b:Nat} {T:Tay} {A:Ab} {P:List (Int×Int)}
theorem fi_eight (nu:Nat):fi nu % 8=0:=by
 unfold fi
 omega
set_option maxRecDepth 100000 in
theorem y_nodeAt (h:Hp nu sz w hb sb b T A P) (u:Nat) (n:Nd) (s:Std nu sz (says P A) u n) :
  Calls Tryz.prog 94 #[ptr sb,.int .u64 (fi nu+8 * u:Nat),.int .i64 n.high] w fun e w'=>∃v,e = .returned v/\NdO (fun k=>w.heap.size<=k/\k<w'.heap.size) w' v n/\St w w':=by
 obtain⟨g1,g2,g3,g4,g5,g6⟩:=h.hp.geo.b
 have f0:=fi_eight nu
 have f8:8<=fi nu:=by omega
 have kok:=s.ok.kok
 have hsz32:=s.le
 have hfit:=s.fit
 have hl:n.wds.length=n.size:=n.wds_len kok
 have hsd:n.size=hsz n.items.length (kb n.keys):=rfl
 have hr:n.items.length<=32/\kb n.keys<=300:=by rw[hsd] at hsz32;unfold hsz need at hsz32;omega
 have HA:=y_headAt h (fi nu+8 * u) n.high n.items.length (kb n.keys) (by omega) (by omega) hfit s.ok.h1 s.ok.h16 (by omega) (by omega) (by rw[<-hsd];exact hsz32) (s.wd 0 _ rfl)
 have LD:∀w1,St w w1->∀i,i<n.size->Calls Tryz.prog 59 #[ptr sb,.int .i64 ((fi nu+8 * u:Nat)+(i:Int))] w1 fun e w'=>e = .returned (.int .u64 ((n.wds.getD i 0:Nat):Int))/\w'=w1:=fun w1 f1 i hi=>by
  have:=(h.still f1).load (fi nu+8 * u+i) (by omega)
  rw[s.wd i (n.wds.getD i 0) (by rw[List.getD,List.getElem?_eq_getElem (by omega)];rfl)] at this
  rw[show((fi nu+8 * u:Nat)+(i:Int))=((fi nu+8 * u+i:Nat):Int) by omega]
  exact this
 have SZ:=y_size n.high n.items.length (kb n.keys) (by omega) (by omega)
 rw[<-hsd] at SZ
 have hpz:fi nu+8 * u<60000:=by omega
 have HLD:=@Hd _ LD
 have HS:=Hd s
 have HL:=Hd (ai hl hsd)
 clear LD h s hfit hl hsd f8 f0 g1 g2 g3 g4 g5 g6 kok
 generalize fi nu+8 * u=p at *
 have hn1:=n.size_pos
 generalize hrs:n.size=rs at *
 have wp:IntKind.i64.wrap (p:Int)=p:=(wrap_small _ (by omega) (by omega)).1
 have wi:∀i:Nat,i<rs->IntKind.i64.wrap ((p:Int)+i)=(p:Int)+i:=fun i hi=>(wrap_small _ (by omega) (by omega)).1
 obtain⟨ht,hht⟩:∃ht,n.high=ht:=⟨_,rfl⟩
 obtain⟨it,hit⟩:∃it,n.items.length=it:=⟨_,rfl⟩
 obtain⟨bt,hbt⟩:∃bt,kb n.keys=bt:=⟨_,rfl⟩
 rw[hht,hit,hbt] at HA SZ
 rw[hit,hbt] at hr
 rw[hht]
 have HE:=Hd (ai hht (ai hit (ai hbt hrs)))
 clear hht hit hbt hrs
 unfold hdV at HA SZ
 go_enter Tryz.func94,Tryz.ntmps94
 go_wp2_with fail
 refine HA.mono ?_
 rintro e w1 ⟨rfl,f1⟩
 clear HA
 obtain⟨W2,hW2⟩:∃W2,w1.alloc (.cells #[.int .i64 ht,.int .i64 it,.int .i64 bt] 105)=W2:=⟨_,rfl⟩
 have f2:St w1 W2:=hW2▸(Fr.refl _ w1).alloc _
 have oP:W2.heap[w1.heap.size]? = some (.cells #[.int .i64 ht,.int .i64 it,.int .i64 bt] 105 (0,0)):=hW2▸heap_alloc_new w1 _
 have d0:W2.cell? ⟨w1.heap.size,0,none⟩=some (.int .i64 ht):=cOo oP 0
 have d1:W2.cell? ⟨w1.heap.size,1,none⟩=some (.int .i64 it):=cOo oP 1
 have d2:W2.cell? ⟨w1.heap.size,2,none⟩=some (.int .i64 bt):=cOo oP 2
 have HW2:=Hd hW2
 have HX:=Hd (ai (f1.trans' f2 nE) oP)
 clear hW2 f1 f2 oP
 go_wp2_with (first | (rw[uh HW2];go_at_call 69;refine(y_must _).mono ?_;rintro e w' ⟨rfl,hh⟩;replace hh:=hh.symm;subst hh) | fail)
 refine(SZ _).mono ?_
 rintro e w3 ⟨rfl,f3⟩
 generalize w1.heap.size=q at *
 clear HW2 d0 d1 d2 SZ
 obtain⟨f02,oP⟩:=uh HX
 have f03:St w w3:=f02.trans' f3 nE
 obtain⟨w4,hm,hM⟩:=make_u64s rs (by omega) w3
 have f4:St w3 w4:=Fr.ofBelow hM.bel
 have HY:=Hd (ai f03 (ai (f3.obj oP id) hM))
 clear f02 oP f03 f3 hM f4 HX
 generalize hg:w3.heap.size=g at *
 go_wp2_with fail
 clear hm
 have HG:=Hd hg
 go_loopw [24] (fun vi wr=>∃k:Nat,vi = .int .i64 k/\k<=rs/\Mem .u64 w3 g rs (fun j=>if j<k then n.wds.getD j 0 else 0) wr) (fun vi _=>rs - (RowKit.intOf vi).toNat)
 case atStart=>exact⟨0,rfl,Nat.zero_le _,(uh HY).2.2.ext fun i _=>by simp⟩
 case round=>
  obtain⟨k,rfl,hk,hM⟩:=hrel
  have fr:St w wr:=(uh HY).1.trans' (Fr.ofBelow hM.bel) nE
  by_cases hlt:k<rs
  ·have hlt':(k:Int)<rs:=by omega
   have c1:=hM.cell k hlt
   have z1:=hM.fz k
   have LD:=uh HLD wr fr k hlt
   have wk:=wi k hlt
   have HM:=Hd (hM.set k (n.wds.getD k 0) hlt)
   clear hM fr
   generalize hv:n.wds.getD k 0=v at *
   generalize (if k<k then v else 0)=z0 at *
   go_wp2_with (first | (go_at_call 59;refine LD.mono ?_;rintro e w' ⟨rfl,hh⟩;replace hh:=hh.symm;subst hh) | fail)
   refine⟨⟨k+1,by simp,by omega,(uh HM).ext fun i _=>?_⟩,by simp[RowKit.intOf];omega⟩
   by_cases h1:i=k
   ·subst h1
    rw[if_pos rfl,if_pos (by omega),hv]
   ·rw[if_neg h1]
    by_cases h2:i<k
    ·rw[if_pos h2,if_pos (by omega)]
    ·rw[if_neg h2,if_neg (by omega)]
  ·have e:k=rs:=by omega
   subst e
   have hlt':¬(k:Int)<k:=by omega
   obtain⟨hwl,hks⟩:=uh HL
   obtain⟨E1,E2,E3,E4⟩:=uh HE
   have ok:=(uh HS).ok
   have hit:1+it<=k:=by rw[hks,E2];unfold hsz need;omega
   have S0:Sl wr 1 (some ⟨g,0,none⟩) k k (vals .u64 n.wds):=⟨by simp[vals,hwl],Nat.le_refl _,(fun e=>by cases e),vals_one _ _,(fun j u hu=>⟨g,0,rfl,by
    have hj:j<n.wds.length:=by simpa [vals] using (List.getElem?_eq_some_iff.1 hu).1
    rw[Nat.zero_add,hM.cell j (by omega),if_pos (by omega),<-hu]
    simp[vals,List.getD,List.getElem?_eq_getElem hj]⟩),(fun x e=>by cases e;rfl)⟩
   have SK:=S0.drop (1+it) hit
   have SI:=(S0.take hit).drop 1 (by omega)
   have eK:(vals .u64 n.wds).drop ((1+it) * 1)=vals .u64 (pkW (jk n.keys)):=by
    unfold Nd.wds vals
    rw[Nat.mul_one,Nat.add_comm,<-List.map_drop,List.drop_succ_cons,<-E2,List.drop_left]
   have eI:((vals .u64 n.wds).take ((1+it) * 1)).drop (1 * 1)=vals .u64 n.items:=by
    unfold Nd.wds vals
    simp only[Nat.mul_one]
    rw[Nat.add_comm,<-List.map_take,<-List.map_drop,List.take_succ_cons,List.drop_succ_cons,List.drop_zero,<-E2,List.take_left]
   have ePl:(pkW (jk n.keys)).length=k - (1+it):=by
    rw[pkW_len,jk_len ok.kok,hks,E2]
    unfold hsz need
    omega
   rw[eK] at SK
   replace SK:Sl wr 1 (cutZ 1 (some ⟨g,0,none⟩) k (1+it)) (pkW (jk n.keys)).length (k - (1+it)) (vals .u64 (pkW (jk n.keys))):=by
    rw[ePl]
    exact SK
   rw[eI] at SI
   have s1:∀w,(Instr.slice 141 (.slice (some ⟨g,0,none⟩) k k) (some (.int .i64 (1+(it:Int)))) none none).run Tryz.prog w = .ok (.slice (cutZ 1 (some ⟨g,0,none⟩) k (1+it)) (pkW (jk n.keys)).length (k - (1+it))) w:=fun w=>by
    have:=slice_fromZ elt_W elem_u64s (some ⟨g,0,none⟩) k k (1+it) w hit
    rw[show((1+it:Nat):Int)=1+(it:Int) by omega] at this
    rw[this,ePl]
   have s2:∀w,(Instr.slice 141 (.slice (some ⟨g,0,none⟩) k k) (some (.int .i64 1)) (some (.int .i64 (1+(it:Int)))) none).run Tryz.prog w = .ok (.slice (cutZ 1 (some ⟨g,0,none⟩) k 1) it (k - 1)) w:=fun w=>by
    have:=slice_bothZ elt_W elem_u64s (some ⟨g,0,none⟩) k k 1 (1+it) w (by omega) hit
    rw[show((1+it:Nat):Int)=1+(it:Int) by omega] at this
    rw[show 1+it - 1=it by omega] at this
    exact this
   rw[show 1+it - 1=it by omega] at SI
   generalize cutZ 1 (some ⟨g,0,none⟩) k (1+it)=ka at *
   generalize k - (1+it)=kc at *
   generalize cutZ 1 (some ⟨g,0,none⟩) k 1=ia at *
   generalize k - 1=ic at *
   have hjl:(jk n.keys).length=bt:=by rw[jk_len ok.kok];exact E3
   have hKl:n.keys.length<=100:=by
    have:=Nd.klen ok.form
    omega
   have KO:∀w',St wr w'->Calls Tryz.prog 143 #[.agg #[.int .i64 ht,.int .i64 it,.int .i64 bt],.slice ka (pkW (jk n.keys)).length kc] w' fun e w''=>∃v,e = .returned v/\w''.ownsRow w'.heap.size 9 1 v n.keys.length (n.keys.map Value.string)/\St w' w'':=fun w' f'=>by
    have:=y_keysOf n.keys ht it ka kc w' (SK.still f') hKl (fun t ht=>kL_at ok.kok t ht) (fun t ht=>by
     have pw:=List.pairwise_iff_getElem.1 ok.rise t (t+1) (by omega) ht (by omega)
     simpa [List.getD,List.getElem?_eq_getElem ht,List.getElem?_eq_getElem (show t<n.keys.length by omega)] using pw) (by omega)
    rw[hjl] at this
    exact this
   have oP:=(Fr.ofBelow hM.bel:St w3 wr).obj (uh HY).2.1 id
   have d0:wr.cell? ⟨q,0,none⟩=some (.int .i64 ht):=cOo oP 0
   have d1:wr.cell? ⟨q,1,none⟩=some (.int .i64 it):=cOo oP 1
   have d2:wr.cell? ⟨q,2,none⟩=some (.int .i64 bt):=cOo oP 2
   have HKO:=@Hd _ KO;have HSI:=Hd SI;have HFR:=Hd fr;have HM9:=Hd hM
   have i33:it<=32:=hr.1
   have wit:IntKind.i64.wrap (1+(it:Int))=1+(it:Int):=(wrap_small _ (by omega) (by omega)).1
   clear KO SI SK S0 oP hM eK eI ePl hjl hKl hwl hks E1 E2 E3 E4 ok hit fr HLD wi
   generalize (pkW (jk n.keys)).length=kn at *
   go_wp2_with fail
   have fD:St wr wr.drew:=(Fr.refl _ wr).drewN 1
   refine wp_region_held_drew (S:=fun w'=>w'.cell? ⟨q,0,none⟩=some (.int .i64 ht)/\w'.cell? ⟨q,1,none⟩=some (.int .i64 it)/\w'.cell? ⟨q,2,none⟩=some (.int .i64 bt)) (by kernel_rfl) ⟨d0,d1,d2⟩ (fun hHeld=>?_)
   refine tkO 0 (.agg #[.int .i64 ht,.int .i64 it,.int .i64 bt]) hHeld rfl ?_ ?_
   ·rintro w ⟨x0,x1,x2⟩;go_simp;try with_reducible rfl
   simp only[apt,List.set]
   refine tkO 1 ?_ hHeld rfl ?_ ?_
   rotate_left
   ·intro w q;go_simp;try with_reducible rfl
   simp only[apt,List.set]
   refine tkO 2 ?_ hHeld rfl ?_ ?_
   rotate_left
   ·intro w q;go_simp;try with_reducible rfl
   simp only[apt,List.set]
   refine tkO 3 ?_ hHeld rfl ?_ ?_
   rotate_left
   ·intro w q;go_simp;try with_reducible rfl
   simp only[apt,List.set]
   refine tkO 4 (.int .i64 (1+(it:Int))) hHeld rfl ?_ ?_
   ·(intro w q;go_simp;first | done | (rw[wit]) | (simp[wit]))
   simp only[apt,List.set]
   refine tkO 5 (.slice ka kn kc) hHeld rfl ?_ ?_
   ·(intro w q;go_simp;first | done | (rw[s1 w];rfl) | (simp[s1 w];try rfl))
   simp only[apt,List.set]
   refine rdO 6 rfl (fun K hK=>?_)
   go_simp
   go_wp2_with fail
   refine(uh HKO _ fD).mono ?_
   rintro e w5 ⟨kv,rfl,hkv,f5⟩
   clear HKO d0 d1 d2 hHeld s1
   have f05:St wr w5:=fD.trans' f5 nE
   obtain⟨kva,kvc,rfl⟩:=rows_form hkv
   have oP:=((Fr.ofBelow (uh HM9).bel:St w3 wr).trans' f05 nE).obj (uh HY).2.1 id
   have d0:w5.cell? ⟨q,0,none⟩=some (.int .i64 ht):=cOo oP 0
   have d1:w5.cell? ⟨q,1,none⟩=some (.int .i64 it):=cOo oP 1
   have d2:w5.cell? ⟨q,2,none⟩=some (.int .i64 bt):=cOo oP 2
   refine hK.out _ _ ⟨d0,d1,d2⟩ (fun _=>?_)
   clear hK K
   refine rdO 7 rfl (fun K hK=>?_)
   go_simp
   refine hK.out _ _ ⟨d0,d1,d2⟩ (fun _=>?_)
   clear hK K
   refine wpAnyH_done (by kernel_rfl) ?_ _
   have HSI5:=Hd ((uh HSI).still f05)
   have HF5:=Hd ((uh HFR).trans' f05 nE)
   have HKV:=Hd hkv
   have HFW:=Hd ((uh HFR).trans' fD nE)
   clear HSI HFR hkv f05 f5 fD oP
   have HWR:=Hd (show w.heap.size<=wr.drew.heap.size from(uh HFW).size)
   clear HFW
   cases n using Nd.cs with
   | lf l=>
    obtain⟨E1,E2,E3,E4⟩:=uh HE
    have e1:ht=1:=E1.symm
    subst e1
    have ek:(Nd.lf l).keys.length=l.length:=by simp[Nd.keys]
    have ei:it=l.length:=by rw[<-E2];simp[Nd.items]
    subst ei
    have hne:l ≠ []:=(uh HS).ok.form
    have hkv:=uh HKV
    have ekm:(Nd.lf l).keys.map Value.string=l.map fun p=>.string p.1:=by simp[Nd.keys]
    have eim:vals .u64 (Nd.lf l).items=l.map fun p=>.int .u64 (p.2:Nat):=by simp[Nd.items,vals]
    rw[ek,ekm] at hkv
    have hsi:=uh HSI5
    rw[eim] at hsi
    have LO:=y_leafOf kva ia kvc ic l w5 (sl_of_row hkv (fun u hu=>by
     obtain⟨t,_,rfl⟩:=List.mem_map.1 hu
     rfl)) hsi (by have:=List.length_pos_iff.2 hne;omega) (by omega)
    rw[ek]
    clear hkv hsi HKV HSI5 HE HS HL HM9 HY E1 E2 E3 E4 ekm eim hne ek
    go_wp2_with fail
    refine LO.mono ?_
    rintro e w6 ⟨v,rfl,hv,f6⟩
    obtain⟨va,vc,rfl⟩:=rowZ hv
    go_wp2_with fail
    go_ret
    have ob:=own_block hv
    have f5:=uh HF5
    exact⟨_,rfl,⟨va,vc,rfl,sl_of_row hv pcl_one,fun x hx=>⟨Nat.le_trans f5.size (ob x hx).1,(ob x hx).2⟩⟩,f5.trans' f6 nE⟩
   | br hh B ks=>
    obtain⟨E1,E2,E3,E4⟩:=uh HE
    have e1:ht=hh:=E1.symm
    subst e1
    obtain⟨m1,m2,m3,m4⟩:=(uh HS).ok.form
    have ei:it=ks.length:=by rw[<-E2];simp[Nd.items]
    subst ei
    have hkv:=uh HKV
    have hsi:=uh HSI5
    have ek:(Nd.br ht B ks).keys=B:=rfl
    have eim:(Nd.br ht B ks).items=ks.map fun k=>itN k.1 k.2:=rfl
    rw[ek] at hkv ⊢
    rw[eim] at hsi
    have SB:=sl_of_row hkv (str_one B)
    have BO:∀w',St w5 w'->Calls Tryz.prog 145 #[.int .i64 ht,.slice kva B.length kvc,.slice ia ks.length ic] w' fun e w''=>∃v c,e = .returned (brV ht kva B.length kvc v ks.length c)/\Kds w'' v c ks/\(∀x,v=some x->w'.heap.size<=x.block/\x.block<w''.heap.size)/\St w' w'':=fun w' f'=>y_branchOf ht kva ia kvc ic B ks w' (SB.still f') (hsi.still f') m3 (by omega) m2 m4
    have h1:((ht:Int) == 1)=false:=by simp;omega
    have HBO:=@Hd _ BO
    have HOB:=Hd (ai SB (own_block hkv))
    clear BO SB hkv hsi HKV HSI5 HE HS HL HM9 HY E1 E2 E3 E4 ek eim m1 m2 m3 m4
    generalize hbn:B.length=bn at *
    generalize hkn:ks.length=kq at *
    go_wp2_with fail
    have fD:St w5 w5.drew:=(Fr.refl _ w5).drewN 1
    refine wp_region_held_drew (S:=fun w'=>w'.cell? ⟨q,0,none⟩=some (.int .i64 ht)/\w'.cell? ⟨q,1,none⟩=some (.int .i64 kq)) (by kernel_rfl) ⟨d0,d1⟩ (fun hHeld=>?_)
    refine tkO 0 ?_ hHeld rfl ?_ ?_
    rotate_left
    ·intro w q;go_simp;try with_reducible rfl
    simp only[apt,List.set]
    refine tkO 1 (.int .i64 ht) hHeld rfl ?_ ?_
    ·rintro w ⟨x0,x1⟩;go_simp;try with_reducible rfl
    simp only[apt,List.set]
    refine tkO 2 ?_ hHeld rfl ?_ ?_
    rotate_left
    ·intro w q;go_simp;try with_reducible rfl
    simp only[apt,List.set]
    refine tkO 3 ?_ hHeld rfl ?_ ?_
    rotate_left
    ·intro w q;go_simp;try with_reducible rfl
    simp only[apt,List.set]
    refine tkO 4 ?_ hHeld rfl ?_ ?_
    rotate_left
    ·intro w q;go_simp;try with_reducible rfl
    simp only[apt,List.set]
    refine tkO 5 (.int .i64 kq) hHeld rfl ?_ ?_
    ·rintro w ⟨x0,x1⟩;go_simp;try with_reducible rfl
    simp only[apt,List.set]
    refine tkO 6 (.int .i64 (1+(kq:Int))) hHeld rfl ?_ ?_
    ·(intro w q;go_simp;first | done | (rw[wit]) | (simp[wit]))
    simp only[apt,List.set]
    refine tkO 7 (.slice ia kq ic) hHeld rfl ?_ ?_
    ·(intro w q;go_simp;first | done | (rw[s2 w];rfl) | (simp[s2 w];try rfl))
    simp only[apt,List.set]
    refine rdO 8 rfl (fun K hK=>?_)
    go_simp
    go_wp2_with fail
    refine(uh HBO _ fD).mono ?_
    rintro e w6 ⟨v,c,rfl,hv,hvb,f6⟩
    have f56:St w5 w6:=fD.trans' f6 nE
    have e0:=f56.cell' d0 id
    have e1:=f56.cell' d1 id
    refine hK.out _ _ ⟨e0,e1⟩ (fun _=>?_)
    clear hK K
    refine rdO 9 rfl (fun K hK=>?_)
    go_simp
    refine hK.out _ _ ⟨e0,e1⟩ (fun _=>?_)
    clear hK K
    refine rdO 10 rfl (fun K hK=>?_)
    go_simp
    refine hK.out _ _ ⟨e0,e1⟩ (fun _=>?_)
    clear hK K
    refine wpAnyH_done (by kernel_rfl) ?_ _
    go_wp2_with fail
    go_ret
    obtain⟨SB,ob⟩:=uh HOB
    have f5:=uh HF5
    have hwr:=uh HWR
    subst hbn
    subst hkn
    refine⟨_,rfl,⟨kva,kvc,v,c,rfl,SB.still f56,hv,fun x hx=>?_,fun x hx=>?_⟩,f5.trans' f56 nE⟩
    ·exact⟨Nat.le_trans hwr (ob x hx).1,Nat.lt_of_lt_of_le (ob x hx).2 f56.size⟩
    ·exact⟨Nat.le_trans f5.size (hvb x hx).1,(hvb x hx).2⟩
end
end

section
theorem Sl.strs {w:World} {a:Option Addr} {c:Nat} {B:List ByteArray} (h:Kys w a c B):StrsAt w a B.length (fun t=>B.getD t default):=fun i hi=>by
 obtain⟨b,o,e,c1⟩:=h.cells i (.string (B.getD i default)) (by rw[List.getElem?_map,List.getD,List.getElem?_eq_getElem hi];rfl)
 exact⟨b,o,e,c1⟩
set_option maxRecDepth 100000 in
theorem b_towards (hh:Nat) (ba:Option Addr) (bc:Nat) (B:List ByteArray) (ka:Option Addr) (kn kc:Nat) (x:ByteArray) (k:Nat) (w:World) (hB:Kys w ba bc B) (f:Fst B x k) (hl:B.length<=500) :
  Calls Tryz.prog 54 #[brV hh ba B.length bc ka kn kc,.string x] w fun e w'=>e = .returned (.int .i64 (if k<B.length/\B.getD k default=x then k+1 else k:Nat))/\St w w':=by
 obtain⟨W,hW⟩:∃W,w.alloc (.cells #[.int .i64 hh,.slice ba B.length bc,.slice ka kn kc] 96)=W:=⟨_,rfl⟩
 have fW:St w W:=hW▸(Fr.refl _ w).alloc _
 have K:=s_search ba B.length bc (fun t=>B.getD t default) x k W (hB.still fW).strs (by omega) f.le f.lo f.hi
 have hk5:k<=500:=by have:=f.le;omega
 have hd:decide (k<B.length/\B.getD k default=x)=true/\(if k<B.length/\B.getD k default=x then k+1 else k)=k+1\/decide (k<B.length/\B.getD k default=x)=false/\(if k<B.length/\B.getD k default=x then k+1 else k)=k:=by
  by_cases hh:k<B.length/\B.getD k default=x
  ·rw[if_pos hh];exact .inl ⟨decide_eq_true hh,rfl⟩
  ·rw[if_neg hh];exact .inr ⟨decide_eq_false hh,rfl⟩
 generalize decide (k<B.length/\B.getD k default=x)=fd at *
 generalize (if k<B.length/\B.getD k default=x then k+1 else k)=i at *
 clear hB f
 generalize B.length=n at *
 have HF:=Hd fW;have HW:=Hd hW
 clear fW hW
 rcases hd with ⟨rfl,rfl⟩ | ⟨rfl,rfl⟩
 ·go_enter Tryz.func54,Tryz.ntmps54
  go_wp2_with (first | (rw[uh HW];go_at_call 97;refine K.mono ?_;rintro e w1 ⟨rfl,rfl⟩) | fail)
  go_ret
  exact⟨by simp,uh HF⟩
 ·go_enter Tryz.func54,Tryz.ntmps54
  go_wp2_with (first | (rw[uh HW];go_at_call 97;refine K.mono ?_;rintro e w1 ⟨rfl,rfl⟩) | fail)
  go_ret
  exact⟨by simp,uh HF⟩
section
variable {nu sz:Nat} {w:World} {hb sb b:Nat} {T:Tay} {A:Ab} {P:List (Int×Int)}
set_option maxRecDepth 100000 in
theorem b_kid (h:Hp nu sz w hb sb b T A P) (hh:Nat) (ba:Option Addr) (bn bc:Nat) (ka:Option Addr) (kc:Nat) (ks:List (Nat×Nat)) (i u:Nat) (n:Nd) (hK:Kds w ka kc ks) (hl:ks.length<=500) (k:Nat) (hi:ks[i]? = some (fi nu+8 * u,k)) (s:Std nu sz (says P A) u n) (hn:hh=n.high+1) :
  Calls Tryz.prog 53 #[brV hh ba bn bc ka ks.length kc,ptr sb,.int .i64 i] w fun e w'=>∃v,e = .returned v/\NdO (fun k=>w.heap.size<=k/\k<w'.heap.size) w' v n/\St w w':=by
 have il:i<ks.length:=(List.getElem?_eq_some_iff.1 hi).1
 have h16:=s.ok.h16
 obtain⟨b1,o1,e1,c1,c2⟩:=hK.kid hi
 subst e1
 have NA:∀w1,St w w1->Calls Tryz.prog 94 #[ptr sb,.int .u64 (fi nu+8 * u:Nat),.int .i64 n.high] w1 fun e w'=>∃v,e = .returned v/\NdO (fun k=>w1.heap.size<=k/\k<w'.heap.size) w' v n/\St w1 w':=fun w1 f1=>y_nodeAt (h.still f1) u n s
 obtain⟨W,hW⟩:∃W,w.alloc (.cells #[.int .i64 hh,.slice ba bn bc,.slice (some ⟨b1,o1,none⟩) ks.length kc] 96)=W:=⟨_,rfl⟩
 have fW:St w W:=hW▸(Fr.refl _ w).alloc _
 have oW:W.heap[w.heap.size]? = some (.cells #[.int .i64 hh,.slice ba bn bc,.slice (some ⟨b1,o1,none⟩) ks.length kc] 96 (0,0)):=hW▸heap_alloc_new w _
 have il':(i:Int)<ks.length:=by omega
 have il5:i<=500:=by omega
 have ew:IntKind.i64.wrap ((hh:Int) - 1)=(n.high:Int):=by rw[hn,IntKind.wrap_i64];omega
 replace c1:=fW.cell' c1 id
 have HN:=@Hd _ NA;have HF:=Hd fW;have HW:=Hd hW
 have d0:W.cell? ⟨w.heap.size,0,none⟩=some (.int .i64 hh):=cOo oW 0
 have d2:W.cell? ⟨w.heap.size,2,none⟩=some (.slice (some ⟨b1,o1,none⟩) ks.length kc):=cOo oW 2
 clear NA h s hK hi fW hW oW hl il c2 hn
 generalize ks.length=kn at *
 generalize fi nu+8 * u=p at *
 generalize n.high=nh at *
 generalize hg:w.heap.size=g at *
 go_enter Tryz.func53,Tryz.ntmps53
 go_wp2_with fail
 rw[uh HW]
 clear HW
 have fD:St W W.drew:=(Fr.refl _ W).drewN 1
 refine wp_region_held_drew (S:=fun w'=>w'.cell? ⟨g,0,none⟩=some (.int .i64 hh)/\w'.cell? ⟨g,2,none⟩=some (.slice (some ⟨b1,o1,none⟩) kn kc)/\w'.cell? ⟨b1,o1+i * 2,none⟩=some (.int .u64 p)) (by kernel_rfl) ⟨d0,d2,c1⟩ (fun hHeld=>?_)
 refine tkO 0 ?_ hHeld rfl ?_ ?_
 rotate_left
 ·intro w q;go_simp;try with_reducible rfl
 simp only[apt,List.set]
 refine tkO 1 ?_ hHeld rfl ?_ ?_
 rotate_left
 ·intro w q;go_simp;try with_reducible rfl
 simp only[apt,List.set]
 refine tkO 2 (.slice (some ⟨b1,o1,none⟩) kn kc) hHeld rfl ?_ ?_
 ·rintro w ⟨x0,x1,x2⟩;go_simp;try with_reducible rfl
 simp only[apt,List.set]
 refine tkO 3 ?_ hHeld rfl ?_ ?_
 rotate_left
 ·intro w q;go_simp;try with_reducible rfl
 simp only[apt,List.set]
 refine tkO 4 (.pointer (some ⟨b1,o1+i * 2,none⟩)) hHeld rfl ?_ ?_
 ·(intro w q;go_simp;(try with_reducible rfl))
 simp only[apt,List.set]
 refine tkO 5 ?_ hHeld rfl ?_ ?_
 rotate_left
 ·intro w q;go_simp;try with_reducible rfl
 simp only[apt,List.set]
 refine tkO 6 (.int .u64 p) hHeld rfl ?_ ?_
 ·rintro w ⟨x0,x1,x2⟩;go_simp;try with_reducible rfl
 simp only[apt,List.set]
 refine tkO 7 ?_ hHeld rfl ?_ ?_
 rotate_left
 ·intro w q;go_simp;try with_reducible rfl
 simp only[apt,List.set]
 refine tkO 8 (.int .i64 hh) hHeld rfl ?_ ?_
 ·rintro w ⟨x0,x1,x2⟩;go_simp;try with_reducible rfl
 simp only[apt,List.set]
 refine tkO 9 (.int .i64 nh) hHeld rfl ?_ ?_
 ·(intro w q;go_simp;first | done | (rw[ew]) | (simp[ew]))
 simp only[apt,List.set]
 refine rdO 10 rfl (fun K hK=>?_)
 go_simp
 go_wp2_with fail
 have fWD:St w W.drew:=(uh HF).trans' fD nE
 refine(uh HN _ fWD).mono ?_
 rintro e w6 ⟨v,rfl,hv,f6⟩
 have f56:St W w6:=fD.trans' f6 nE
 have e0:=f56.cell' d0 id
 have e1:=f56.cell' d2 id
 have e2:=f56.cell' c1 id
 refine hK.out _ _ ⟨e0,e1,e2⟩ (fun _=>?_)
 clear hK K
 refine rdO 11 rfl (fun K hK=>?_)
 go_simp
 refine hK.out _ _ ⟨e0,e1,e2⟩ (fun _=>?_)
 clear hK K
 refine wpAnyH_done (by kernel_rfl) ?_ _
 go_wp2_with fail
 go_ret
 exact⟨_,rfl,hv.mono fun k hk=>⟨by have:=fWD.size;omega,hk.2⟩,fWD.trans' f6 nE⟩
end
end
end Go.Proofs.YtbiopjmpdhcjgaaGreatDoor
