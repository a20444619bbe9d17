/- TreePlays: the walk. -/
import Derived.Test.YtbiopjmpdhcjgaaGreatDoorJi
import Derived.Test.YtbiopjmpdhcjgaaGreatDoorZ29
import Derived.Test.YtbiopjmpdhcjgaaGreatDoorZ36
import Derived.Test.YtbiopjmpdhcjgaaGreatDoorZ12
namespace Go.Proofs.YtbiopjmpdhcjgaaGreatDoor
open Go.RowKit
set_option maxRecDepth 100000 in
set_option maxHeartbeats 8000000 in
theorem plays_ok (a0:Option Addr) (len0 cap0:Nat) (w:World) (z:Nat->OpK) (t0:OpsK w a0 len0 z) (tab:TabL w) :
  Calls Tryz.prog 5 #[.slice a0 len0 cap0] w fun e w'=>e = .returned (.bool true)/\Below w.heap.size w w':=by
 have h1:=eq_nil_heap
 have h2:=mf
 have l0:0<w.heap.size:=World.block_lt_of_cell? _ _ (tab 0 (by omega))
 have K:Calls Tryz.prog 8 #[.int .i64 24576] w _:=l8_open geo24 (N:=3072) (by omega) w tab
 have HK:=Hd K;have HT:=Hd tab;have HT0:=@Hd _ t0
 clear K tab t0
 go_enter Tryz.func5,Tryz.ntmps5
 go_wp2_with fail
 refine(uh HK).mono ?_
 clear HK
 rintro e w1 ⟨b,sb,hb,T,A,base,rfl,hc,nw⟩
 obtain⟨W1,hW1⟩:∃W1,w1.alloc (.cells #[ptr sb] 23)=W1:=⟨_,rfl⟩
 obtain⟨W2,hW2⟩:∃W2,W1.alloc (.cells #[ptr hb] 24)=W2:=⟨_,rfl⟩
 obtain⟨n1,hn1⟩:∃n1,w1.heap.size=n1:=⟨_,rfl⟩
 have z1:W1.heap.size=n1+1:=by rw[<-hW1];simp[hn1]
 have z2:W2.heap.size=n1+2:=by rw[<-hW2];simp;omega
 have f12:St W1 W2:=hW2▸(Fr.refl _ W1).alloc _
 have hc1:=hc.more (.cells #[ptr sb] 23)
 rw[hW1,hn1] at hc1
 have hc2:=hc1.more (.cells #[ptr hb] 24)
 rw[hW2,z1] at hc2
 have lhb:hb<n1:=by rw[<-hn1];exact(hc.hd.xl hb hc.xh).2
 have bh2:Box W2 (n1+1) (ptr hb):=by
  have:=Box.new W1 (ptr hb) 24
  rw[hW2,z1] at this;exact this
 have bs2:Box W2 n1 (ptr sb):=by
  have:=Box.new w1 (ptr sb) 23
  rw[hW1,hn1] at this;exact this.kept f12 id
 have AW:=l11_awake W2 (fun j hj=>hc2.hd.fr.cell' (uh HT j hj) id)
 have bhc:=bh2.c
 rw[<-hW2,<-hW1] at bhc
 have HAW:=Hd AW;have HW:=Hd (ai hW1 hW2);have HC:=Hd (ai hc2 (ai bs2 (ai bh2 nw)))
 clear hc hc1 hc2 nw f12 bh2 bs2 AW hW1 hW2
 go_wp2_with fail
 obtain⟨hW1,hW2⟩:=uh HW
 rw[hW1,hW2]
 clear hW1 hW2 HW bhc
 refine(uh HAW).mono ?_
 clear HAW
 rintro e w3 ⟨rfl,f3⟩
 obtain⟨hc2,bs2,bh2,nw⟩:=uh HC
 obtain⟨n2,hn2⟩:∃n2,w3.heap.size=n2:=⟨_,rfl⟩
 have l12:n1+1<n2:=by have:=f3.size;omega
 obtain⟨W4,hW4⟩:∃W4,w3.alloc (.cells #[.int .u64 0,.slice none 0 0] 35)=W4:=⟨_,rfl⟩
 obtain⟨W5,hW5⟩:∃W5,W4.alloc (.cells #[.slice none 0 0] 36)=W5:=⟨_,rfl⟩
 have z4:W4.heap.size=n2+1:=by rw[<-hW4];simp[hn2]
 have f34:St w3 W4:=hW4▸(Fr.refl _ w3).alloc _
 have f45:St W4 W5:=hW5▸(Fr.refl _ W4).alloc _
 have f25:St W2 W5:=(f3.trans' f34 nE).trans' f45 nE
 have hc4:=(hc2.still f3).more (.cells #[.int .u64 0,.slice none 0 0] 35)
 rw[hW4,hn2] at hc4
 have hc5:=hc4.more (.cells #[.slice none 0 0] 36)
 rw[hW5,z4] at hc5
 have st0:TpH w W5 0 n1 n2 b hb sb T A 43021 base 0 [] [] none 0 [] (fun _=>False) (.slice none 0 0):=by
  refine⟨hc5.sub (fun k hk=>?_) (.inl rfl),⟨bs2.kept f25 id,bh2.kept f25 id,⟨?_⟩,?_,World.ownsRow_nil _ _ _ _,(fun k hk=>by cases hk),⟨sl_nil _ _,fun x e=>by cases e⟩,(fun q hq=>by cases hq),(fun k hk=>hk.elim),l12⟩,Frs.new nw,⟨0,0,0,?_,by rw[show kps [] = [] from rfl,cntK_nil];exact Nat.le_refl _,fun x hx=>by cases hx⟩,by omega,⟨l0,lhb⟩⟩
  ·rcases hk with e | e | e | e | e | e | e
   ·exact .inl (.inl (.inl (.inl e)))
   ·exact .inl (.inl (.inl (.inr e)))
   ·exact .inl (.inl (.inr e))
   ·exact .inl (.inr e)
   ·exact .inr e
   ·exact e.elim
   ·cases e
  ·have:=heap_alloc_new w3 (.cells #[.int .u64 0,.slice none 0 0] 35)
   rw[hW4,hn2] at this;exact f45.obj this id
  ·have:=Box.new W4 (.slice none 0 0) 36
   rw[hW5,z4] at this;exact this
  ·have:cnt 1467 (ask 1467 (rb base))=0:=by rw[nw.ak];exact sumTo_zero fun u _=>by simp
   rw[this];exact Nms.new
 have HST:=Hd st0;have HW:=Hd (ai hW4 hW5)
 clear hc2 hc4 hc5 bs2 bh2 nw st0 f34 f45 f25 f3 hW4 hW5 HC z2
 go_wp2_with fail
 obtain⟨hW4,hW5⟩:=uh HW
 rw[hW4,hW5]
 clear hW4 hW5 HW z4
 go_loopw [8] (fun iv wr=>∃(i:Nat) (T:Tay) (A:Ab) (s:Int) (base:Nat->Int) (r:Nat) (L:List Pr) (Q:List Nat) (la:Option Addr) (lc:Nat) (ks:List Kl) (Y:Nat->Prop) (kv:Value),iv = .int .i64 i/\i<=50/\i<=len0/\TpH w wr i n1 n2 b hb sb T A s base r L Q la lc ks Y kv) (fun iv _=>50 - (intOf iv).toNat)
 case atStart=>exact⟨0,T,A,43021,base,0,[],[],none,0,[],_,_,rfl,by omega,by omega,uh HST⟩
 case round=>
  clear HST
  obtain⟨i,T,A,s,base,r,L,Q,la,lc,ks,Y,kv,rfl,hi50,hil,S⟩:=hrel
  generalize wr=wq at *
  clear wr
  by_cases hlt:i<len0/\i<50
  ·have hlt1:((i:Int)<len0)=True:=by simp;omega
   have hlt2:((i:Int)<50)=True:=by simp;omega
   obtain⟨hi0,hi5⟩:=hlt
   obtain⟨⟨xa,xo,ea,ck,cx,cv⟩,hv⟩:=uh HT0 i hi0
   subst ea
   replace ck:=S.hc.hd.fr.cell' ck id
   replace cx:=S.hc.hd.fr.cell' cx id
   replace cv:=S.hc.hd.fr.cell' cv id
   generalize (z i).kd=kd at *
   generalize (z i).key=x at *
   generalize (z i).v=v at *
   obtain⟨q,hq⟩:∃q,wq.heap.size=q:=⟨_,rfl⟩
   obtain⟨Wa,hWa⟩:∃W,wq.alloc (.cells #[.int .i64 kd,.string x,.int .u64 (v:Nat)] 54)=W:=⟨_,rfl⟩
   obtain⟨Wb,hWb⟩:∃W,Wa.alloc (.cells #[.int .u64 (r:Nat),.slice la L.length lc] 35)=W:=⟨_,rfl⟩
   obtain⟨Wc,hWc⟩:∃W,Wb.alloc (.cells #[.bool true] 4)=W:=⟨_,rfl⟩
   have za:Wa.heap.size=q+1:=by rw[<-hWa];simp[hq]
   have zb:Wb.heap.size=q+2:=by rw[<-hWb];simp;omega
   have zc:Wc.heap.size=q+3:=by rw[<-hWc];simp;omega
   have fa:St wq Wa:=hWa▸(Fr.refl _ wq).alloc _
   have fb:St Wa Wb:=hWb▸(Fr.refl _ Wa).alloc _
   have fc:St Wb Wc:=hWc▸(Fr.refl _ Wb).alloc _
   have fbc:St Wa Wc:=fb.trans' fc nE
   have fac:St wq Wc:=fa.trans' fbc nE
   have oo:Wc.heap[q]? = some (.cells #[.int .i64 kd,.string x,.int .u64 (v:Nat)] 54 (0,0)):=by
    have:=heap_alloc_new wq (.cells #[.int .i64 kd,.string x,.int .u64 (v:Nat)] 54)
    rw[hWa,hq] at this;exact fbc.obj this id
   have on:RtL Wc (q+1) r (.slice la L.length lc):=⟨by
    have:=heap_alloc_new Wa (.cells #[.int .u64 (r:Nat),.slice la L.length lc] 35)
    rw[hWb,za] at this;exact fc.obj this id⟩
   have og:Box Wc (q+2) (.bool true):=by
    have:=Box.new Wb (.bool true) 4
    rw[hWc,zb] at this;exact this
   have hca:=S.hc.more (.cells #[.int .i64 kd,.string x,.int .u64 (v:Nat)] 54)
   rw[hWa,hq] at hca
   have hcb:=hca.more (.cells #[.int .u64 (r:Nat),.slice la L.length lc] 35)
   rw[hWb,za] at hcb
   have hcc:=hcb.more (.cells #[.bool true] 4)
   rw[hWc,zb] at hcc
   have Mc:=S.m.still fac
   have nq:¬tfoot sb b T q:=hcc.hd.ap q (.inl (.inl (.inr rfl)))
   have lhq:hb<q:=by have:=S.old (.inl rfl:TpX hb n1 n2 Y kv hb);omega
   obtain⟨p,q',K,nm,hK,hks⟩:=S.nm
   obtain⟨hlen,hp,hn4⟩:=nm.lens hi5
   have room:=nm.room hi5
   have hs:=S.hs
   have c0:=(S.m.bs.kept fac id).c
   rw[<-hWc,<-hWb,<-hWa] at c0
   have c1:=fa.cell' (cOo S.m.br.o 0) id
   have c2:=fa.cell' (cOo S.m.br.o 1) id
   rw[<-hWa] at c1 c2
   have HW:=Hd (ai hWa (ai hWb hWc))
   by_cases hbad:kd=0/\(x.size<1\/80<x.size)
   ·as_aux_lemma=>
     obtain⟨hk0,hx⟩:=hbad
     subst hk0
     have DO:=tp_bad (bo:=q) (bn:=q+1) (bg:=q+2) hcc Mc x v hx oo (by omega)
     have HDO:=Hd DO;have HS:=Hd (ai S (ai fac (ai oo nq)))
     clear DO S fa fb fc fbc fac oo on og hca hcb hcc Mc nq nm hK hks hs hWa hWb hWc
     have HX:=Hd hx
     clear hx
     go_wp2_with fail
     simp only[show q+1+1=q+2 from rfl]
     obtain⟨hWa,hWb,hWc⟩:=uh HW
     rw[hWa,hWb,hWc]
     clear hWa hWb hWc HW ck cx cv c0 c1 c2
     refine(uh HDO).mono ?_
     clear HDO
     rintro e w6 ⟨rfl,fr6,T6,hc6⟩
     obtain⟨S,fac,oo,nq⟩:=uh HS
     have I:=S.bad hi5 fac fr6 hc6 oo nq
     have d0:w6.cell? ⟨q,0,none⟩=some (.int .i64 0):=cOo I.o 0
     have d1:w6.cell? ⟨q,1,none⟩=some (.string x):=cOo I.o 1
     have HI:=Hd I.j
     clear I S fac oo nq fr6 hc6 HS
     have hx:=uh HX
     by_cases hx1:x.size<1
     ·have k1:((x.size:Int)<1)=True:=by simp;omega
      clear hx HX hx1
      go_upto_region 22 with fail
      have J:=uh HI
      clear HI d0 d1 k1
      obtain⟨ka,kc,ekv⟩:∃ka kc,kv = .slice ka (ks).length kc:=by
       rcases rowr_form J.m.rk with ⟨e,h0⟩ | ⟨gg,cap,e⟩
       ·exact⟨none,0,by rw[e,h0]⟩
       ·exact⟨_,cap,e⟩
      rw[ekv] at J
      clear ekv
      generalize ks=kz at *
      have hz4:=J.n4
      have DS:=tp_swp J.hc J.m (fun k hk=>hk) J.t J.n4 ⟨by have:=J.len.1;omega,fun y hy=>by have:=J.len.2 y hy;omega⟩ (by have:=J.few;omega) (by have:=J.hs;omega)
      have c3:=J.m.bs.c
      have HDS:=Hd DS;have HJ:=Hd J
      clear DS J
      go_wp2_with fail
      refine(uh HDS).mono ?_
      clear HDS c3
      rintro e w9 ⟨rfl,fr9,T9,A9,base9,hc9,fs9,cn9⟩
      have J:=uh HJ
      have hs9:=J.hs
      have S9:=J.swept fr9 hc9 fs9 cn9
      have sy:=S9.hc.says []
      rw[homed_nil] at sy
      have TL:=l11_tells S9.hc.toHp (by rw[sy];exact S9.t.rt) S9.t.ri S9.t.pk (by have:=J.len.1;omega) _ _ S9.m.li.lf
      have TLK:∀w' (j:Nat) (q:Kl),St w9 w'->kz[j]? = some q->Calls Tryz.prog 28 #[ptr sb,.agg #[.int .u64 (q.1.1:Nat),.slice q.2.1 q.1.2.1.length q.2.2]] w' fun e w''=>e = .returned (.bool true)/\St w' w'':=fun w' j q f hq=>by
       have hm:=List.mem_of_getElem? hq
       obtain⟨a1,a2,a3⟩:=S9.t.kt q.1 (List.mem_map.2 ⟨q,hm,rfl⟩)
       exact l11_tells (S9.hc.toHp.still f) (by rw[sy];exact a1) a2 a3 (by have:=J.len.2 q hm;omega) _ _ ((S9.m.lk q hm).lf.still f)
      have c4:=S9.m.bs.c;have c5:=cOo S9.m.br.o 0;have c6:=cOo S9.m.br.o 1
      have HTL:=Hd TL;have HTK:=@Hd _ TLK;have HS9:=Hd S9
      clear TL TLK S9 J HJ sy fr9 hc9 fs9 cn9
      go_wp2_with fail
      refine(uh HTL).mono ?_
      clear HTL c4 c5 c6
      rintro e w10 ⟨rfl,f10⟩
      have HF10:=Hd f10
      clear f10
      go_wp2_with fail
      go_loopw [14] (fun jv wr=>∃j:Nat,jv = .int .i64 (j:Nat)/\j<=kz.length/\St w9 wr) (fun jv _=>kz.length - (intOf jv).toNat)
      case atStart=>exact⟨0,rfl,by omega,uh HF10⟩
      case round=>
       clear HF10
       obtain⟨j,rfl,hj,fr⟩:=hrel
       generalize wr=wx at *
       clear wr
       have S9:=uh HS9
       have e1:=fr.cell' S9.m.bs.c id;have e2:=fr.cell' S9.m.bk.c id
       by_cases hjl:j<kz.length
       ·have hjl':((j:Int)<kz.length)=True:=by simp;omega
        obtain⟨q9,hq9⟩:∃q9,kz[j]? = some q9:=⟨_,List.getElem?_eq_getElem hjl⟩
        have SL:=sl_of_row S9.m.rk (kvs_one kz)
        obtain⟨b0,o0,rfl,d0⟩:=SL.cells _ _ (rtcl_at (kvs_at hq9))
        obtain⟨b1,o1,ee,d1⟩:=SL.cells _ _ (rtcl_snd (kvs_at hq9))
        cases ee
        replace d0:=fr.cell' d0 id
        replace d1:=fr.cell' d1 id
        rw[<-Nat.add_assoc] at d1
        have fD:St wx wx.drew:=(Fr.refl _ wx).drewN 1
        have f9:St w9 wx.drew:=fr.trans' fD nE
        have TL:=Hd (uh HTK wx.drew j q9 f9 hq9)
        have HFR:=Hd (ai fr f9)
        clear S9 SL hq9 fr fD f9 HTK
        go_wp2_with fail
        refine wp_region_held_drew (S:=fun w'=>w'.cell? ⟨n1,0,none⟩=some (ptr sb)/\w'.cell? ⟨n2+1,0,none⟩=some (.slice (some ⟨b0,o0,none⟩) kz.length kc)/\w'.cell? ⟨b0,o0+j * 2,none⟩=some (.int .u64 (q9.1.1:Nat))/\w'.cell? ⟨b0,o0+j * 2+1,none⟩=some (.slice q9.2.1 q9.1.2.1.length q9.2.2)) (by kernel_rfl) ⟨e1,e2,d0,d1⟩ (fun hHeld=>?_)
        refine tkO 0 ?_ hHeld rfl ?_ ?_
        rotate_left
        ·intro w q;go_simp;try with_reducible rfl
        simp only[apt,List.set]
        refine tkO 1 ?_ hHeld rfl ?_ ?_
        rotate_left
        ·intro w q;go_simp;try with_reducible rfl
        simp only[apt,List.set]
        refine tkO 2 ?_ hHeld rfl ?_ ?_
        rotate_left
        ·intro w q;go_simp;try with_reducible rfl
        simp only[apt,List.set]
        refine tkO 3 ?_ hHeld rfl ?_ ?_
        rotate_left
        ·intro w q;go_simp;try with_reducible rfl
        simp only[apt,List.set]
        refine tkO 4 ?_ hHeld rfl ?_ ?_
        rotate_left
        ·intro w q;go_simp;try with_reducible rfl
        simp only[apt,List.set]
        refine rdO 5 rfl (fun K hK=>?_)
        go_simp
        go_wp2_with fail
        refine(uh TL).mono ?_
        clear TL
        rintro e w11 ⟨rfl,f11⟩
        obtain⟨h1',h2',h3',h4'⟩:=hHeld
        refine hK.out _ _ ⟨f11.cell' h1' id,f11.cell' h2' id,f11.cell' h3' id,f11.cell' h4' id⟩ (fun hHeld=>?_)
        clear hK K h1' h2' h3' h4' e1 e2 d0 d1
        have HF11:=Hd ((uh HFR).2.trans' f11 nE)
        clear f11
        refine tkO 6 ?_ hHeld rfl ?_ ?_
        rotate_left
        ·intro w q;go_simp;try with_reducible rfl
        simp only[apt,List.set]
        refine wpAnyH_done (by kernel_rfl) ?_ _
        clear hHeld
        go_wp2_with fail
        exact⟨⟨j+1,by simp,by omega,uh HF11⟩,by simp[intOf];omega⟩
       ·have ej:j=kz.length:=by omega
        subst ej
        have hjl':((kz.length:Int)<kz.length)=False:=by simp
        have HSX:=Hd (S9.still fr)
        clear S9 fr e1
        go_wp2_with fail
        exact⟨⟨i+1,T9,A9,_,base9,_,_,_,_,_,kz,_,_,by simp,by omega,by omega,uh HSX⟩,by simp[intOf];omega⟩
     ·have k1:((x.size:Int)<1)=False:=by simp;omega
      have k2:((80:Int)<x.size)=True:=by simp;omega
      clear hx HX hx1
      go_upto_region 22 with fail
      have J:=uh HI
      clear HI d0 d1 k1 k2
      obtain⟨ka,kc,ekv⟩:∃ka kc,kv = .slice ka (ks).length kc:=by
       rcases rowr_form J.m.rk with ⟨e,h0⟩ | ⟨gg,cap,e⟩
       ·exact⟨none,0,by rw[e,h0]⟩
       ·exact⟨_,cap,e⟩
      rw[ekv] at J
      clear ekv
      generalize ks=kz at *
      have hz4:=J.n4
      have DS:=tp_swp J.hc J.m (fun k hk=>hk) J.t J.n4 ⟨by have:=J.len.1;omega,fun y hy=>by have:=J.len.2 y hy;omega⟩ (by have:=J.few;omega) (by have:=J.hs;omega)
      have c3:=J.m.bs.c
      have HDS:=Hd DS;have HJ:=Hd J
      clear DS J
      go_wp2_with fail
      refine(uh HDS).mono ?_
      clear HDS c3
      rintro e w9 ⟨rfl,fr9,T9,A9,base9,hc9,fs9,cn9⟩
      have J:=uh HJ
      have hs9:=J.hs
      have S9:=J.swept fr9 hc9 fs9 cn9
      have sy:=S9.hc.says []
      rw[homed_nil] at sy
      have TL:=l11_tells S9.hc.toHp (by rw[sy];exact S9.t.rt) S9.t.ri S9.t.pk (by have:=J.len.1;omega) _ _ S9.m.li.lf
      have TLK:∀w' (j:Nat) (q:Kl),St w9 w'->kz[j]? = some q->Calls Tryz.prog 28 #[ptr sb,.agg #[.int .u64 (q.1.1:Nat),.slice q.2.1 q.1.2.1.length q.2.2]] w' fun e w''=>e = .returned (.bool true)/\St w' w'':=fun w' j q f hq=>by
       have hm:=List.mem_of_getElem? hq
       obtain⟨a1,a2,a3⟩:=S9.t.kt q.1 (List.mem_map.2 ⟨q,hm,rfl⟩)
       exact l11_tells (S9.hc.toHp.still f) (by rw[sy];exact a1) a2 a3 (by have:=J.len.2 q hm;omega) _ _ ((S9.m.lk q hm).lf.still f)
      have c4:=S9.m.bs.c;have c5:=cOo S9.m.br.o 0;have c6:=cOo S9.m.br.o 1
      have HTL:=Hd TL;have HTK:=@Hd _ TLK;have HS9:=Hd S9
      clear TL TLK S9 J HJ sy fr9 hc9 fs9 cn9
      go_wp2_with fail
      refine(uh HTL).mono ?_
      clear HTL c4 c5 c6
      rintro e w10 ⟨rfl,f10⟩
      have HF10:=Hd f10
      clear f10
      go_wp2_with fail
      go_loopw [14] (fun jv wr=>∃j:Nat,jv = .int .i64 (j:Nat)/\j<=kz.length/\St w9 wr) (fun jv _=>kz.length - (intOf jv).toNat)
      case atStart=>exact⟨0,rfl,by omega,uh HF10⟩
      case round=>
       clear HF10
       obtain⟨j,rfl,hj,fr⟩:=hrel
       generalize wr=wx at *
       clear wr
       have S9:=uh HS9
       have e1:=fr.cell' S9.m.bs.c id;have e2:=fr.cell' S9.m.bk.c id
       by_cases hjl:j<kz.length
       ·have hjl':((j:Int)<kz.length)=True:=by simp;omega
        obtain⟨q9,hq9⟩:∃q9,kz[j]? = some q9:=⟨_,List.getElem?_eq_getElem hjl⟩
        have SL:=sl_of_row S9.m.rk (kvs_one kz)
        obtain⟨b0,o0,rfl,d0⟩:=SL.cells _ _ (rtcl_at (kvs_at hq9))
        obtain⟨b1,o1,ee,d1⟩:=SL.cells _ _ (rtcl_snd (kvs_at hq9))
        cases ee
        replace d0:=fr.cell' d0 id
        replace d1:=fr.cell' d1 id
        rw[<-Nat.add_assoc] at d1
        have fD:St wx wx.drew:=(Fr.refl _ wx).drewN 1
        have f9:St w9 wx.drew:=fr.trans' fD nE
        have TL:=Hd (uh HTK wx.drew j q9 f9 hq9)
        have HFR:=Hd (ai fr f9)
        clear S9 SL hq9 fr fD f9 HTK
        go_wp2_with fail
        refine wp_region_held_drew (S:=fun w'=>w'.cell? ⟨n1,0,none⟩=some (ptr sb)/\w'.cell? ⟨n2+1,0,none⟩=some (.slice (some ⟨b0,o0,none⟩) kz.length kc)/\w'.cell? ⟨b0,o0+j * 2,none⟩=some (.int .u64 (q9.1.1:Nat))/\w'.cell? ⟨b0,o0+j * 2+1,none⟩=some (.slice q9.2.1 q9.1.2.1.length q9.2.2)) (by kernel_rfl) ⟨e1,e2,d0,d1⟩ (fun hHeld=>?_)
        refine tkO 0 ?_ hHeld rfl ?_ ?_
        rotate_left
        ·intro w q;go_simp;try with_reducible rfl
        simp only[apt,List.set]
        refine tkO 1 ?_ hHeld rfl ?_ ?_
        rotate_left
        ·intro w q;go_simp;try with_reducible rfl
        simp only[apt,List.set]
        refine tkO 2 ?_ hHeld rfl ?_ ?_
        rotate_left
        ·intro w q;go_simp;try with_reducible rfl
        simp only[apt,List.set]
        refine tkO 3 ?_ hHeld rfl ?_ ?_
        rotate_left
        ·intro w q;go_simp;try with_reducible rfl
        simp only[apt,List.set]
        refine tkO 4 ?_ hHeld rfl ?_ ?_
        rotate_left
        ·intro w q;go_simp;try with_reducible rfl
        simp only[apt,List.set]
        refine rdO 5 rfl (fun K hK=>?_)
        go_simp
        go_wp2_with fail
        refine(uh TL).mono ?_
        clear TL
        rintro e w11 ⟨rfl,f11⟩
        obtain⟨h1',h2',h3',h4'⟩:=hHeld
        refine hK.out _ _ ⟨f11.cell' h1' id,f11.cell' h2' id,f11.cell' h3' id,f11.cell' h4' id⟩ (fun hHeld=>?_)
        clear hK K h1' h2' h3' h4' e1 e2 d0 d1
        have HF11:=Hd ((uh HFR).2.trans' f11 nE)
        clear f11
        refine tkO 6 ?_ hHeld rfl ?_ ?_
        rotate_left
        ·intro w q;go_simp;try with_reducible rfl
        simp only[apt,List.set]
        refine wpAnyH_done (by kernel_rfl) ?_ _
        clear hHeld
        go_wp2_with fail
        exact⟨⟨j+1,by simp,by omega,uh HF11⟩,by simp[intOf];omega⟩
       ·have ej:j=kz.length:=by omega
        subst ej
        have hjl':((kz.length:Int)<kz.length)=False:=by simp
        have HSX:=Hd (S9.still fr)
        clear S9 fr e1
        go_wp2_with fail
        exact⟨⟨i+1,T9,A9,_,base9,_,_,_,_,_,kz,_,_,by simp,by omega,by omega,uh HSX⟩,by simp[intOf];omega⟩
   ·skip
    
    have DO:=tp_do (bo:=q) (bn:=q+1) (bg:=q+2) hcc Mc (fun k hk=>.inl (.inl (.inl hk))) S.t.toStds hlen hn4 kd x v hbad hv oo on og (.inl (.inr rfl)) (.inr rfl) ⟨by omega,by omega,by omega⟩ (by omega) (by omega)
    have HDO:=Hd DO;have HS:=Hd (ai S (ai fac (ai oo (ai nq zc))))
    clear DO S fa fb fc fbc fac oo on og hca hcb hcc Mc nq nm hK hks hs hWa hWb hWc
    go_wp2_with fail
    simp only[show q+1+1=q+2 from rfl]
    obtain⟨hWa,hWb,hWc⟩:=uh HW
    rw[hWa,hWb,hWc]
    clear hWa hWb hWc HW ck cx cv c0 c1 c2
    refine(uh HDO).mono ?_
    clear HDO
    rintro e w6 ⟨rfl,fr6,T6,A6,base6,r6,L6,Q6,la6,lc6,Z,hc6,on6,og6,st6,hZ,oc⟩
    obtain⟨S,fac,oo,nq,zc⟩:=uh HS
    have I:=S.did hi5 fac hq (by omega) fr6 hc6 oo nq st6 hZ oc
    have o6:w6.heap[q]? = some (.cells #[.int .i64 kd,.string x,.int .u64 (v:Nat)] 54 (0,0)):=fr6.obj oo (fun e=>by rcases e with e | e | e;exact nq e;omega;omega)
    have d0:w6.cell? ⟨q,0,none⟩=some (.int .i64 kd):=cOo o6 0
    have d1:w6.cell? ⟨q,1,none⟩=some (.string x):=cOo o6 1
    have d2:w6.cell? ⟨q+1,0,none⟩=some (.int .u64 (r6:Nat)):=cOo on6.o 0
    have d3:w6.cell? ⟨q+1,1,none⟩=some (.slice la6 L6.length lc6):=cOo on6.o 1
    have d4:=og6.c
    have M6:=((S.m.still fac).kept fr6 (fun k hk e=>by
     have:=S.old hk
     rcases e with e | e | e
     ·exact S.hc.hd.ap k hk e
     ·omega
     ·omega)).br
    have d5:w6.cell? ⟨n2,0,none⟩=some (.int .u64 (r:Nat)):=cOo M6.o 0
    have d6:w6.cell? ⟨n2,1,none⟩=some (.slice la L.length lc):=cOo M6.o 1
    have z6:∀o,w6.frozen? ⟨n2,o,none⟩=false:=fun o=>by simp[World.frozen?,M6.o]
    obtain⟨W7,hW7⟩:∃W7,(w6.setCell ⟨n2,0,none⟩ (.int .u64 (r6:Nat))).setCell ⟨n2,1,none⟩ (.slice la6 L6.length lc6)=W7:=⟨_,rfl⟩
    rw[hW7] at I
    have e0:W7.cell? ⟨q,0,none⟩=some (.int .i64 kd):=cOo I.o 0
    have e1:=I.j.m.bk.c
    have e2:W7.cell? ⟨n2,0,none⟩=some (.int .u64 (r6:Nat)):=cOo I.j.m.br.o 0
    have e3:W7.cell? ⟨n2,1,none⟩=some (.slice la6 L6.length lc6):=cOo I.j.m.br.o 1
    have HI:=Hd I;have HW7:=Hd hW7
    clear I S fac oo nq fr6 hc6 on6 og6 st6 hZ oc o6 M6 hW7 HS zc
    by_cases hk0:kd=0
    ·as_aux_lemma=>
      subst hk0
      have k1:((x.size:Int)<1)=False:=by simp;omega
      have k2:((80:Int)<x.size)=False:=by simp;omega
      go_upto_region 20 with fail
      rw[uh HW7]
      clear HW7 d0 d1 d2 d3 d4 d5 d6 z6
      go_upto_region 22 with fail
      have J:=(uh HI).j
      clear HI e0 e1 e2 e3 k1 k2 hbad
      obtain⟨ka,kc,ekv⟩:∃ka kc,kv = .slice ka (ks).length kc:=by
       rcases rowr_form J.m.rk with ⟨e,h0⟩ | ⟨gg,cap,e⟩
       ·exact⟨none,0,by rw[e,h0]⟩
       ·exact⟨_,cap,e⟩
      rw[ekv] at J
      clear ekv
      generalize ks=kz at *
      have hz4:=J.n4
      have DS:=tp_swp J.hc J.m (fun k hk=>hk) J.t J.n4 ⟨by have:=J.len.1;omega,fun y hy=>by have:=J.len.2 y hy;omega⟩ (by have:=J.few;omega) (by have:=J.hs;omega)
      have c3:=J.m.bs.c
      have HDS:=Hd DS;have HJ:=Hd J
      clear DS J
      go_wp2_with fail
      refine(uh HDS).mono ?_
      clear HDS c3
      rintro e w9 ⟨rfl,fr9,T9,A9,base9,hc9,fs9,cn9⟩
      have J:=uh HJ
      have hs9:=J.hs
      have S9:=J.swept fr9 hc9 fs9 cn9
      have sy:=S9.hc.says []
      rw[homed_nil] at sy
      have TL:=l11_tells S9.hc.toHp (by rw[sy];exact S9.t.rt) S9.t.ri S9.t.pk (by have:=J.len.1;omega) _ _ S9.m.li.lf
      have TLK:∀w' (j:Nat) (q:Kl),St w9 w'->kz[j]? = some q->Calls Tryz.prog 28 #[ptr sb,.agg #[.int .u64 (q.1.1:Nat),.slice q.2.1 q.1.2.1.length q.2.2]] w' fun e w''=>e = .returned (.bool true)/\St w' w'':=fun w' j q f hq=>by
       have hm:=List.mem_of_getElem? hq
       obtain⟨a1,a2,a3⟩:=S9.t.kt q.1 (List.mem_map.2 ⟨q,hm,rfl⟩)
       exact l11_tells (S9.hc.toHp.still f) (by rw[sy];exact a1) a2 a3 (by have:=J.len.2 q hm;omega) _ _ ((S9.m.lk q hm).lf.still f)
      have c4:=S9.m.bs.c;have c5:=cOo S9.m.br.o 0;have c6:=cOo S9.m.br.o 1
      have HTL:=Hd TL;have HTK:=@Hd _ TLK;have HS9:=Hd S9
      clear TL TLK S9 J HJ sy fr9 hc9 fs9 cn9
      go_wp2_with fail
      refine(uh HTL).mono ?_
      clear HTL c4 c5 c6
      rintro e w10 ⟨rfl,f10⟩
      have HF10:=Hd f10
      clear f10
      go_wp2_with fail
      go_loopw [14] (fun jv wr=>∃j:Nat,jv = .int .i64 (j:Nat)/\j<=kz.length/\St w9 wr) (fun jv _=>kz.length - (intOf jv).toNat)
      case atStart=>exact⟨0,rfl,by omega,uh HF10⟩
      case round=>
       clear HF10
       obtain⟨j,rfl,hj,fr⟩:=hrel
       generalize wr=wx at *
       clear wr
       have S9:=uh HS9
       have e1:=fr.cell' S9.m.bs.c id;have e2:=fr.cell' S9.m.bk.c id
       by_cases hjl:j<kz.length
       ·have hjl':((j:Int)<kz.length)=True:=by simp;omega
        obtain⟨q9,hq9⟩:∃q9,kz[j]? = some q9:=⟨_,List.getElem?_eq_getElem hjl⟩
        have SL:=sl_of_row S9.m.rk (kvs_one kz)
        obtain⟨b0,o0,rfl,d0⟩:=SL.cells _ _ (rtcl_at (kvs_at hq9))
        obtain⟨b1,o1,ee,d1⟩:=SL.cells _ _ (rtcl_snd (kvs_at hq9))
        cases ee
        replace d0:=fr.cell' d0 id
        replace d1:=fr.cell' d1 id
        rw[<-Nat.add_assoc] at d1
        have fD:St wx wx.drew:=(Fr.refl _ wx).drewN 1
        have f9:St w9 wx.drew:=fr.trans' fD nE
        have TL:=Hd (uh HTK wx.drew j q9 f9 hq9)
        have HFR:=Hd (ai fr f9)
        clear S9 SL hq9 fr fD f9 HTK
        go_wp2_with fail
        refine wp_region_held_drew (S:=fun w'=>w'.cell? ⟨n1,0,none⟩=some (ptr sb)/\w'.cell? ⟨n2+1,0,none⟩=some (.slice (some ⟨b0,o0,none⟩) kz.length kc)/\w'.cell? ⟨b0,o0+j * 2,none⟩=some (.int .u64 (q9.1.1:Nat))/\w'.cell? ⟨b0,o0+j * 2+1,none⟩=some (.slice q9.2.1 q9.1.2.1.length q9.2.2)) (by kernel_rfl) ⟨e1,e2,d0,d1⟩ (fun hHeld=>?_)
        refine tkO 0 ?_ hHeld rfl ?_ ?_
        rotate_left
        ·intro w q;go_simp;try with_reducible rfl
        simp only[apt,List.set]
        refine tkO 1 ?_ hHeld rfl ?_ ?_
        rotate_left
        ·intro w q;go_simp;try with_reducible rfl
        simp only[apt,List.set]
        refine tkO 2 ?_ hHeld rfl ?_ ?_
        rotate_left
        ·intro w q;go_simp;try with_reducible rfl
        simp only[apt,List.set]
        refine tkO 3 ?_ hHeld rfl ?_ ?_
        rotate_left
        ·intro w q;go_simp;try with_reducible rfl
        simp only[apt,List.set]
        refine tkO 4 ?_ hHeld rfl ?_ ?_
        rotate_left
        ·intro w q;go_simp;try with_reducible rfl
        simp only[apt,List.set]
        refine rdO 5 rfl (fun K hK=>?_)
        go_simp
        go_wp2_with fail
        refine(uh TL).mono ?_
        clear TL
        rintro e w11 ⟨rfl,f11⟩
        obtain⟨h1',h2',h3',h4'⟩:=hHeld
        refine hK.out _ _ ⟨f11.cell' h1' id,f11.cell' h2' id,f11.cell' h3' id,f11.cell' h4' id⟩ (fun hHeld=>?_)
        clear hK K h1' h2' h3' h4' e1 e2 d0 d1
        have HF11:=Hd ((uh HFR).2.trans' f11 nE)
        clear f11
        refine tkO 6 ?_ hHeld rfl ?_ ?_
        rotate_left
        ·intro w q;go_simp;try with_reducible rfl
        simp only[apt,List.set]
        refine wpAnyH_done (by kernel_rfl) ?_ _
        clear hHeld
        go_wp2_with fail
        exact⟨⟨j+1,by simp,by omega,uh HF11⟩,by simp[intOf];omega⟩
       ·have ej:j=kz.length:=by omega
        subst ej
        have hjl':((kz.length:Int)<kz.length)=False:=by simp
        have HSX:=Hd (S9.still fr)
        clear S9 fr e1
        go_wp2_with fail
        exact⟨⟨i+1,T9,A9,_,base9,_,_,_,_,_,kz,_,_,by simp,by omega,by omega,uh HSX⟩,by simp[intOf];omega⟩
    ·have k0:(kd == 0)=false:=by simpa using hk0
     have k0':(kd=0)=False:=eq_false hk0
     go_upto_region 20 with fail
     rw[uh HW7]
     clear HW7 d0 d1 d2 d3 d4 d5 d6 z6
     clear k0 k0' hk0 hbad
     by_cases hk2:kd=2
     ·subst hk2
      obtain⟨kA0,kC0,ekv⟩:∃ka kc,kv = .slice ka ks.length kc:=by
       rcases rowr_form (uh HI).j.m.rk with ⟨e,h0⟩ | ⟨gg,cap,e⟩
       ·exact⟨none,0,by rw[e,h0]⟩
       ·exact⟨_,cap,e⟩
      subst ekv
      by_cases h4:ks.length<4
      ·as_aux_lemma=>
        have h4':((ks.length:Int)<4)=True:=by simp;omega
        obtain⟨va,vc,W8,hap,bk8,J⟩:=(uh HI).keep h4
        obtain⟨W9,hW9⟩:∃W9,W8.setCell ⟨n2+1,0,none⟩ (.slice va (ks.length+1) vc)=W9:=⟨_,rfl⟩
        rw[hW9] at J
        have f1:=bk8.c;have f2:=bk8.z
        have HAP:=Hd hap;have HJ:=Hd J;have HW9:=Hd hW9
        clear hap bk8 J hW9 HI
        go_upto_region 22 with (first | (at_builtin;refine wpList_append_run rfl (.tmp 90) (.tmp 92) 36 rfl _ _ rfl rfl _ W8 (uh HAP) ?_) | fail)
        rw[uh HW9]
        have J:=uh HJ
        clear HJ HAP HW9 e0 e1 e2 e3 f1 f2 h4 h4'
        obtain⟨ka,kc,ekv⟩:∃ka kc,Value.slice va (ks.length+1) vc = .slice ka ((ks ++ [((r6,L6,Q6),la6,lc6)])).length kc:=by
         rcases rowr_form J.m.rk with ⟨e,h0⟩ | ⟨gg,cap,e⟩
         ·exact⟨none,0,by rw[e,h0]⟩
         ·exact⟨_,cap,e⟩
        rw[ekv] at J
        clear ekv
        generalize (ks ++ [((r6,L6,Q6),la6,lc6)])=kz at *
        have hz4:=J.n4
        have DS:=tp_swp J.hc J.m (fun k hk=>hk) J.t J.n4 ⟨by have:=J.len.1;omega,fun y hy=>by have:=J.len.2 y hy;omega⟩ (by have:=J.few;omega) (by have:=J.hs;omega)
        have c3:=J.m.bs.c
        have HDS:=Hd DS;have HJ:=Hd J
        clear DS J
        go_wp2_with fail
        refine(uh HDS).mono ?_
        clear HDS c3
        rintro e w9 ⟨rfl,fr9,T9,A9,base9,hc9,fs9,cn9⟩
        have J:=uh HJ
        have hs9:=J.hs
        have S9:=J.swept fr9 hc9 fs9 cn9
        have sy:=S9.hc.says []
        rw[homed_nil] at sy
        have TL:=l11_tells S9.hc.toHp (by rw[sy];exact S9.t.rt) S9.t.ri S9.t.pk (by have:=J.len.1;omega) _ _ S9.m.li.lf
        have TLK:∀w' (j:Nat) (q:Kl),St w9 w'->kz[j]? = some q->Calls Tryz.prog 28 #[ptr sb,.agg #[.int .u64 (q.1.1:Nat),.slice q.2.1 q.1.2.1.length q.2.2]] w' fun e w''=>e = .returned (.bool true)/\St w' w'':=fun w' j q f hq=>by
         have hm:=List.mem_of_getElem? hq
         obtain⟨a1,a2,a3⟩:=S9.t.kt q.1 (List.mem_map.2 ⟨q,hm,rfl⟩)
         exact l11_tells (S9.hc.toHp.still f) (by rw[sy];exact a1) a2 a3 (by have:=J.len.2 q hm;omega) _ _ ((S9.m.lk q hm).lf.still f)
        have c4:=S9.m.bs.c;have c5:=cOo S9.m.br.o 0;have c6:=cOo S9.m.br.o 1
        have HTL:=Hd TL;have HTK:=@Hd _ TLK;have HS9:=Hd S9
        clear TL TLK S9 J HJ sy fr9 hc9 fs9 cn9
        go_wp2_with fail
        refine(uh HTL).mono ?_
        clear HTL c4 c5 c6
        rintro e w10 ⟨rfl,f10⟩
        have HF10:=Hd f10
        clear f10
        go_wp2_with fail
        go_loopw [14] (fun jv wr=>∃j:Nat,jv = .int .i64 (j:Nat)/\j<=kz.length/\St w9 wr) (fun jv _=>kz.length - (intOf jv).toNat)
        case atStart=>exact⟨0,rfl,by omega,uh HF10⟩
        case round=>
         clear HF10
         obtain⟨j,rfl,hj,fr⟩:=hrel
         generalize wr=wx at *
         clear wr
         have S9:=uh HS9
         have e1:=fr.cell' S9.m.bs.c id;have e2:=fr.cell' S9.m.bk.c id
         by_cases hjl:j<kz.length
         ·have hjl':((j:Int)<kz.length)=True:=by simp;omega
          obtain⟨q9,hq9⟩:∃q9,kz[j]? = some q9:=⟨_,List.getElem?_eq_getElem hjl⟩
          have SL:=sl_of_row S9.m.rk (kvs_one kz)
          obtain⟨b0,o0,rfl,d0⟩:=SL.cells _ _ (rtcl_at (kvs_at hq9))
          obtain⟨b1,o1,ee,d1⟩:=SL.cells _ _ (rtcl_snd (kvs_at hq9))
          cases ee
          replace d0:=fr.cell' d0 id
          replace d1:=fr.cell' d1 id
          rw[<-Nat.add_assoc] at d1
          have fD:St wx wx.drew:=(Fr.refl _ wx).drewN 1
          have f9:St w9 wx.drew:=fr.trans' fD nE
          have TL:=Hd (uh HTK wx.drew j q9 f9 hq9)
          have HFR:=Hd (ai fr f9)
          clear S9 SL hq9 fr fD f9 HTK
          go_wp2_with fail
          refine wp_region_held_drew (S:=fun w'=>w'.cell? ⟨n1,0,none⟩=some (ptr sb)/\w'.cell? ⟨n2+1,0,none⟩=some (.slice (some ⟨b0,o0,none⟩) kz.length kc)/\w'.cell? ⟨b0,o0+j * 2,none⟩=some (.int .u64 (q9.1.1:Nat))/\w'.cell? ⟨b0,o0+j * 2+1,none⟩=some (.slice q9.2.1 q9.1.2.1.length q9.2.2)) (by kernel_rfl) ⟨e1,e2,d0,d1⟩ (fun hHeld=>?_)
          refine tkO 0 ?_ hHeld rfl ?_ ?_
          rotate_left
          ·intro w q;go_simp;try with_reducible rfl
          simp only[apt,List.set]
          refine tkO 1 ?_ hHeld rfl ?_ ?_
          rotate_left
          ·intro w q;go_simp;try with_reducible rfl
          simp only[apt,List.set]
          refine tkO 2 ?_ hHeld rfl ?_ ?_
          rotate_left
          ·intro w q;go_simp;try with_reducible rfl
          simp only[apt,List.set]
          refine tkO 3 ?_ hHeld rfl ?_ ?_
          rotate_left
          ·intro w q;go_simp;try with_reducible rfl
          simp only[apt,List.set]
          refine tkO 4 ?_ hHeld rfl ?_ ?_
          rotate_left
          ·intro w q;go_simp;try with_reducible rfl
          simp only[apt,List.set]
          refine rdO 5 rfl (fun K hK=>?_)
          go_simp
          go_wp2_with fail
          refine(uh TL).mono ?_
          clear TL
          rintro e w11 ⟨rfl,f11⟩
          obtain⟨h1',h2',h3',h4'⟩:=hHeld
          refine hK.out _ _ ⟨f11.cell' h1' id,f11.cell' h2' id,f11.cell' h3' id,f11.cell' h4' id⟩ (fun hHeld=>?_)
          clear hK K h1' h2' h3' h4' e1 e2 d0 d1
          have HF11:=Hd ((uh HFR).2.trans' f11 nE)
          clear f11
          refine tkO 6 ?_ hHeld rfl ?_ ?_
          rotate_left
          ·intro w q;go_simp;try with_reducible rfl
          simp only[apt,List.set]
          refine wpAnyH_done (by kernel_rfl) ?_ _
          clear hHeld
          go_wp2_with fail
          exact⟨⟨j+1,by simp,by omega,uh HF11⟩,by simp[intOf];omega⟩
         ·have ej:j=kz.length:=by omega
          subst ej
          have hjl':((kz.length:Int)<kz.length)=False:=by simp
          have HSX:=Hd (S9.still fr)
          clear S9 fr e1
          go_wp2_with fail
          exact⟨⟨i+1,T9,A9,_,base9,_,_,_,_,_,kz,_,_,by simp,by omega,by omega,uh HSX⟩,by simp[intOf];omega⟩
      ·as_aux_lemma=>
        have h4':((ks.length:Int)<4)=False:=by simp;omega
        go_upto_region 22 with fail
        have J:=(uh HI).j
        clear HI e0 e1 e2 e3 h4 h4'
        obtain⟨ka,kc,ekv⟩:∃ka kc,Value.slice kA0 ks.length kC0 = .slice ka (ks).length kc:=by
         rcases rowr_form J.m.rk with ⟨e,h0⟩ | ⟨gg,cap,e⟩
         ·exact⟨none,0,by rw[e,h0]⟩
         ·exact⟨_,cap,e⟩
        rw[ekv] at J
        clear ekv
        generalize ks=kz at *
        have hz4:=J.n4
        have DS:=tp_swp J.hc J.m (fun k hk=>hk) J.t J.n4 ⟨by have:=J.len.1;omega,fun y hy=>by have:=J.len.2 y hy;omega⟩ (by have:=J.few;omega) (by have:=J.hs;omega)
        have c3:=J.m.bs.c
        have HDS:=Hd DS;have HJ:=Hd J
        clear DS J
        go_wp2_with fail
        refine(uh HDS).mono ?_
        clear HDS c3
        rintro e w9 ⟨rfl,fr9,T9,A9,base9,hc9,fs9,cn9⟩
        have J:=uh HJ
        have hs9:=J.hs
        have S9:=J.swept fr9 hc9 fs9 cn9
        have sy:=S9.hc.says []
        rw[homed_nil] at sy
        have TL:=l11_tells S9.hc.toHp (by rw[sy];exact S9.t.rt) S9.t.ri S9.t.pk (by have:=J.len.1;omega) _ _ S9.m.li.lf
        have TLK:∀w' (j:Nat) (q:Kl),St w9 w'->kz[j]? = some q->Calls Tryz.prog 28 #[ptr sb,.agg #[.int .u64 (q.1.1:Nat),.slice q.2.1 q.1.2.1.length q.2.2]] w' fun e w''=>e = .returned (.bool true)/\St w' w'':=fun w' j q f hq=>by
         have hm:=List.mem_of_getElem? hq
         obtain⟨a1,a2,a3⟩:=S9.t.kt q.1 (List.mem_map.2 ⟨q,hm,rfl⟩)
         exact l11_tells (S9.hc.toHp.still f) (by rw[sy];exact a1) a2 a3 (by have:=J.len.2 q hm;omega) _ _ ((S9.m.lk q hm).lf.still f)
        have c4:=S9.m.bs.c;have c5:=cOo S9.m.br.o 0;have c6:=cOo S9.m.br.o 1
        have HTL:=Hd TL;have HTK:=@Hd _ TLK;have HS9:=Hd S9
        clear TL TLK S9 J HJ sy fr9 hc9 fs9 cn9
        go_wp2_with fail
        refine(uh HTL).mono ?_
        clear HTL c4 c5 c6
        rintro e w10 ⟨rfl,f10⟩
        have HF10:=Hd f10
        clear f10
        go_wp2_with fail
        go_loopw [14] (fun jv wr=>∃j:Nat,jv = .int .i64 (j:Nat)/\j<=kz.length/\St w9 wr) (fun jv _=>kz.length - (intOf jv).toNat)
        case atStart=>exact⟨0,rfl,by omega,uh HF10⟩
        case round=>
         clear HF10
         obtain⟨j,rfl,hj,fr⟩:=hrel
         generalize wr=wx at *
         clear wr
         have S9:=uh HS9
         have e1:=fr.cell' S9.m.bs.c id;have e2:=fr.cell' S9.m.bk.c id
         by_cases hjl:j<kz.length
         ·have hjl':((j:Int)<kz.length)=True:=by simp;omega
          obtain⟨q9,hq9⟩:∃q9,kz[j]? = some q9:=⟨_,List.getElem?_eq_getElem hjl⟩
          have SL:=sl_of_row S9.m.rk (kvs_one kz)
          obtain⟨b0,o0,rfl,d0⟩:=SL.cells _ _ (rtcl_at (kvs_at hq9))
          obtain⟨b1,o1,ee,d1⟩:=SL.cells _ _ (rtcl_snd (kvs_at hq9))
          cases ee
          replace d0:=fr.cell' d0 id
          replace d1:=fr.cell' d1 id
          rw[<-Nat.add_assoc] at d1
          have fD:St wx wx.drew:=(Fr.refl _ wx).drewN 1
          have f9:St w9 wx.drew:=fr.trans' fD nE
          have TL:=Hd (uh HTK wx.drew j q9 f9 hq9)
          have HFR:=Hd (ai fr f9)
          clear S9 SL hq9 fr fD f9 HTK
          go_wp2_with fail
          refine wp_region_held_drew (S:=fun w'=>w'.cell? ⟨n1,0,none⟩=some (ptr sb)/\w'.cell? ⟨n2+1,0,none⟩=some (.slice (some ⟨b0,o0,none⟩) kz.length kc)/\w'.cell? ⟨b0,o0+j * 2,none⟩=some (.int .u64 (q9.1.1:Nat))/\w'.cell? ⟨b0,o0+j * 2+1,none⟩=some (.slice q9.2.1 q9.1.2.1.length q9.2.2)) (by kernel_rfl) ⟨e1,e2,d0,d1⟩ (fun hHeld=>?_)
          refine tkO 0 ?_ hHeld rfl ?_ ?_
          rotate_left
          ·intro w q;go_simp;try with_reducible rfl
          simp only[apt,List.set]
          refine tkO 1 ?_ hHeld rfl ?_ ?_
          rotate_left
          ·intro w q;go_simp;try with_reducible rfl
          simp only[apt,List.set]
          refine tkO 2 ?_ hHeld rfl ?_ ?_
          rotate_left
          ·intro w q;go_simp;try with_reducible rfl
          simp only[apt,List.set]
          refine tkO 3 ?_ hHeld rfl ?_ ?_
          rotate_left
          ·intro w q;go_simp;try with_reducible rfl
          simp only[apt,List.set]
          refine tkO 4 ?_ hHeld rfl ?_ ?_
          rotate_left
          ·intro w q;go_simp;try with_reducible rfl
          simp only[apt,List.set]
          refine rdO 5 rfl (fun K hK=>?_)
          go_simp
          go_wp2_with fail
          refine(uh TL).mono ?_
          clear TL
          rintro e w11 ⟨rfl,f11⟩
          obtain⟨h1',h2',h3',h4'⟩:=hHeld
          refine hK.out _ _ ⟨f11.cell' h1' id,f11.cell' h2' id,f11.cell' h3' id,f11.cell' h4' id⟩ (fun hHeld=>?_)
          clear hK K h1' h2' h3' h4' e1 e2 d0 d1
          have HF11:=Hd ((uh HFR).2.trans' f11 nE)
          clear f11
          refine tkO 6 ?_ hHeld rfl ?_ ?_
          rotate_left
          ·intro w q;go_simp;try with_reducible rfl
          simp only[apt,List.set]
          refine wpAnyH_done (by kernel_rfl) ?_ _
          clear hHeld
          go_wp2_with fail
          exact⟨⟨j+1,by simp,by omega,uh HF11⟩,by simp[intOf];omega⟩
         ·have ej:j=kz.length:=by omega
          subst ej
          have hjl':((kz.length:Int)<kz.length)=False:=by simp
          have HSX:=Hd (S9.still fr)
          clear S9 fr e1
          go_wp2_with fail
          exact⟨⟨i+1,T9,A9,_,base9,_,_,_,_,_,kz,_,_,by simp,by omega,by omega,uh HSX⟩,by simp[intOf];omega⟩
     ·as_aux_lemma=>
       have k2:(kd == 2)=false:=by simpa using hk2
       have k2':(kd=2)=False:=eq_false hk2
       go_upto_region 22 with fail
       have J:=(uh HI).j
       clear HI e0 e1 e2 e3 k2 k2' hk2
       obtain⟨ka,kc,ekv⟩:∃ka kc,kv = .slice ka (ks).length kc:=by
        rcases rowr_form J.m.rk with ⟨e,h0⟩ | ⟨gg,cap,e⟩
        ·exact⟨none,0,by rw[e,h0]⟩
        ·exact⟨_,cap,e⟩
       rw[ekv] at J
       clear ekv
       generalize ks=kz at *
       have hz4:=J.n4
       have DS:=tp_swp J.hc J.m (fun k hk=>hk) J.t J.n4 ⟨by have:=J.len.1;omega,fun y hy=>by have:=J.len.2 y hy;omega⟩ (by have:=J.few;omega) (by have:=J.hs;omega)
       have c3:=J.m.bs.c
       have HDS:=Hd DS;have HJ:=Hd J
       clear DS J
       go_wp2_with fail
       refine(uh HDS).mono ?_
       clear HDS c3
       rintro e w9 ⟨rfl,fr9,T9,A9,base9,hc9,fs9,cn9⟩
       have J:=uh HJ
       have hs9:=J.hs
       have S9:=J.swept fr9 hc9 fs9 cn9
       have sy:=S9.hc.says []
       rw[homed_nil] at sy
       have TL:=l11_tells S9.hc.toHp (by rw[sy];exact S9.t.rt) S9.t.ri S9.t.pk (by have:=J.len.1;omega) _ _ S9.m.li.lf
       have TLK:∀w' (j:Nat) (q:Kl),St w9 w'->kz[j]? = some q->Calls Tryz.prog 28 #[ptr sb,.agg #[.int .u64 (q.1.1:Nat),.slice q.2.1 q.1.2.1.length q.2.2]] w' fun e w''=>e = .returned (.bool true)/\St w' w'':=fun w' j q f hq=>by
        have hm:=List.mem_of_getElem? hq
        obtain⟨a1,a2,a3⟩:=S9.t.kt q.1 (List.mem_map.2 ⟨q,hm,rfl⟩)
        exact l11_tells (S9.hc.toHp.still f) (by rw[sy];exact a1) a2 a3 (by have:=J.len.2 q hm;omega) _ _ ((S9.m.lk q hm).lf.still f)
       have c4:=S9.m.bs.c;have c5:=cOo S9.m.br.o 0;have c6:=cOo S9.m.br.o 1
       have HTL:=Hd TL;have HTK:=@Hd _ TLK;have HS9:=Hd S9
       clear TL TLK S9 J HJ sy fr9 hc9 fs9 cn9
       go_wp2_with fail
       refine(uh HTL).mono ?_
       clear HTL c4 c5 c6
       rintro e w10 ⟨rfl,f10⟩
       have HF10:=Hd f10
       clear f10
       go_wp2_with fail
       go_loopw [14] (fun jv wr=>∃j:Nat,jv = .int .i64 (j:Nat)/\j<=kz.length/\St w9 wr) (fun jv _=>kz.length - (intOf jv).toNat)
       case atStart=>exact⟨0,rfl,by omega,uh HF10⟩
       case round=>
        clear HF10
        obtain⟨j,rfl,hj,fr⟩:=hrel
        generalize wr=wx at *
        clear wr
        have S9:=uh HS9
        have e1:=fr.cell' S9.m.bs.c id;have e2:=fr.cell' S9.m.bk.c id
        by_cases hjl:j<kz.length
        ·have hjl':((j:Int)<kz.length)=True:=by simp;omega
         obtain⟨q9,hq9⟩:∃q9,kz[j]? = some q9:=⟨_,List.getElem?_eq_getElem hjl⟩
         have SL:=sl_of_row S9.m.rk (kvs_one kz)
         obtain⟨b0,o0,rfl,d0⟩:=SL.cells _ _ (rtcl_at (kvs_at hq9))
         obtain⟨b1,o1,ee,d1⟩:=SL.cells _ _ (rtcl_snd (kvs_at hq9))
         cases ee
         replace d0:=fr.cell' d0 id
         replace d1:=fr.cell' d1 id
         rw[<-Nat.add_assoc] at d1
         have fD:St wx wx.drew:=(Fr.refl _ wx).drewN 1
         have f9:St w9 wx.drew:=fr.trans' fD nE
         have TL:=Hd (uh HTK wx.drew j q9 f9 hq9)
         have HFR:=Hd (ai fr f9)
         clear S9 SL hq9 fr fD f9 HTK
         go_wp2_with fail
         refine wp_region_held_drew (S:=fun w'=>w'.cell? ⟨n1,0,none⟩=some (ptr sb)/\w'.cell? ⟨n2+1,0,none⟩=some (.slice (some ⟨b0,o0,none⟩) kz.length kc)/\w'.cell? ⟨b0,o0+j * 2,none⟩=some (.int .u64 (q9.1.1:Nat))/\w'.cell? ⟨b0,o0+j * 2+1,none⟩=some (.slice q9.2.1 q9.1.2.1.length q9.2.2)) (by kernel_rfl) ⟨e1,e2,d0,d1⟩ (fun hHeld=>?_)
         refine tkO 0 ?_ hHeld rfl ?_ ?_
         rotate_left
         ·intro w q;go_simp;try with_reducible rfl
         simp only[apt,List.set]
         refine tkO 1 ?_ hHeld rfl ?_ ?_
         rotate_left
         ·intro w q;go_simp;try with_reducible rfl
         simp only[apt,List.set]
         refine tkO 2 ?_ hHeld rfl ?_ ?_
         rotate_left
         ·intro w q;go_simp;try with_reducible rfl
         simp only[apt,List.set]
         refine tkO 3 ?_ hHeld rfl ?_ ?_
         rotate_left
         ·intro w q;go_simp;try with_reducible rfl
         simp only[apt,List.set]
         refine tkO 4 ?_ hHeld rfl ?_ ?_
         rotate_left
         ·intro w q;go_simp;try with_reducible rfl
         simp only[apt,List.set]
         refine rdO 5 rfl (fun K hK=>?_)
         go_simp
         go_wp2_with fail
         refine(uh TL).mono ?_
         clear TL
         rintro e w11 ⟨rfl,f11⟩
         obtain⟨h1',h2',h3',h4'⟩:=hHeld
         refine hK.out _ _ ⟨f11.cell' h1' id,f11.cell' h2' id,f11.cell' h3' id,f11.cell' h4' id⟩ (fun hHeld=>?_)
         clear hK K h1' h2' h3' h4' e1 e2 d0 d1
         have HF11:=Hd ((uh HFR).2.trans' f11 nE)
         clear f11
         refine tkO 6 ?_ hHeld rfl ?_ ?_
         rotate_left
         ·intro w q;go_simp;try with_reducible rfl
         simp only[apt,List.set]
         refine wpAnyH_done (by kernel_rfl) ?_ _
         clear hHeld
         go_wp2_with fail
         exact⟨⟨j+1,by simp,by omega,uh HF11⟩,by simp[intOf];omega⟩
        ·have ej:j=kz.length:=by omega
         subst ej
         have hjl':((kz.length:Int)<kz.length)=False:=by simp
         have HSX:=Hd (S9.still fr)
         clear S9 fr e1
         go_wp2_with fail
         exact⟨⟨i+1,T9,A9,_,base9,_,_,_,_,_,kz,_,_,by simp,by omega,by omega,uh HSX⟩,by simp[intOf];omega⟩
    
  ·as_aux_lemma=>
    rcases (show i=len0\/(i<len0/\i=50) by omega) with e | ⟨e0,e⟩
    ·subst e
     have hlt1:((i:Int)<i)=False:=by simp
     have sy:=S.hc.says []
     rw[homed_nil] at sy
     have CK:=h_check S.hc.toHp (by rw[sy];exact S.t.st)
     have c5:=S.m.bh.c
     have HCK:=Hd CK;have HFW:=Hd S.hc.hd.fr
     clear CK S sy
     go_wp2_with fail
     refine(uh HCK).mono ?_
     rintro e w9 ⟨rfl,f9⟩
     have HF:=Hd ((uh HFW).trans' f9 nE)
     clear f9 HFW HCK
     go_wp2_with fail
     go_ret
     have f:=uh HF
     exact⟨by simp,f.os,f.tape,f.output,f.size,fun k hk=>f.block k (by omega) id⟩
    ·subst e
     have hlt1:(((50:Nat):Int)<len0)=True:=by simp;omega
     have sy:=S.hc.says []
     rw[homed_nil] at sy
     have CK:=h_check S.hc.toHp (by rw[sy];exact S.t.st)
     have c5:=S.m.bh.c
     have HCK:=Hd CK;have HFW:=Hd S.hc.hd.fr
     clear CK S sy
     go_wp2_with fail
     refine(uh HCK).mono ?_
     rintro e w9 ⟨rfl,f9⟩
     have HF:=Hd ((uh HFW).trans' f9 nE)
     clear f9 HFW HCK
     go_wp2_with fail
     go_ret
     have f:=uh HF
     exact⟨by simp,f.os,f.tape,f.output,f.size,fun k hk=>f.block k (by omega) id⟩
end Go.Proofs.YtbiopjmpdhcjgaaGreatDoor
