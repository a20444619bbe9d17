/- Joined: Dc Dd Zj. -/
import Derived.Test.YtbiopjmpdhcjgaaGreatDoorZ18
import Derived.Test.YtbiopjmpdhcjgaaGreatDoorZ23
import Derived.Test.YtbiopjmpdhcjgaaGreatDoorZ24
import Derived.Test.YtbiopjmpdhcjgaaGreatDoorZ30
namespace Go.Proofs.YtbiopjmpdhcjgaaGreatDoor
open Go.RowKit
set_option maxHeartbeats 4000000
theorem taBf_br (x:Value) (w:World):(Instr.typeAssert (.iface 96 x) 85 96 false).run Tryz.prog w = .ok x w:=by kernel_rfl
set_option maxRecDepth 100000 in
theorem y_joinL (a1 a2:Option Addr) (c1 c2:Nat) (l1 l2:List Pr) (x:ByteArray) (w:World) (h1:Lf w a1 c1 l1) (h2:Lf w a2 c2 l2) (hl1:l1.length<=500) (hl2:l2.length<=500) :
  Calls Tryz.prog 186 #[.iface 100 (.slice a1 l1.length c1),.string x,.iface 100 (.slice a2 l2.length c2)] w fun e w'=>∃nv,e = .returned nv/\NdO (fun k=>w.heap.size<=k/\k<w'.heap.size) w' nv (.lf (l1 ++ l2))/\St w w':=by
 obtain⟨W,hW⟩:∃W,w.alloc (.cells #[.int .i64 0,.slice none 0 0,.slice none 0 0] 96)=W:=⟨_,rfl⟩
 have fW:St w W:=hW▸(Fr.refl _ w).alloc _
 have CT:Calls Tryz.prog 141 #[.slice (some ⟨W.heap.size,0,none⟩) 2 2] (W.drew.alloc (.cells #[.slice a1 l1.length c1,.slice a2 l2.length c2] 100)) fun e w'=>∃u,e = .returned u/\w'.ownsRow w.heap.size 43 2 u (l1 ++ l2).length (pcl (l1 ++ l2))/\St w w':=by
  obtain⟨W1,hW1⟩:∃W1,W.drew.alloc (.cells #[.slice a1 l1.length c1,.slice a2 l2.length c2] 100)=W1:=⟨_,rfl⟩
  have f1:St W W1:=hW1▸((Fr.refl _ W).drewN 1).alloc _
  have f2:St w W1:=fW.trans' f1 nE
  rw[hW1]
  refine(cat2g_P W1 W.heap.size a1 a2 l1.length l2.length c1 c2 _ _ (hW1▸heap_alloc_new W.drew _) (h1.still f2) (h2.still f2) (by omega)).mono ?_
  rintro e w' ⟨u,rfl,hu,f3⟩
  refine⟨u,rfl,?_,f2.trans' f3 nE⟩
  rw[pcl_app,List.length_append]
  exact own_lo hu f2.size
 have HCT:=Hd CT;have HW:=Hd hW
 have t1:=fun w=>taB_leaf (.slice a1 l1.length c1) w
 have t2:=fun w=>taL_leaf (.slice a1 l1.length c1) w
 have t3:=fun w=>taL_leaf (.slice a2 l2.length c2) w
 clear CT hW h1 h2 hl1 hl2
 generalize l1.length=n1 at *
 generalize l2.length=n2 at *
 generalize l1 ++ l2=ll at *
 go_enter Tryz.func186,Tryz.ntmps186
 go_wp2_with fail
 rw[uh HW]
 refine wp_region_held_drew (S:=fun _=>True) (by kernel_rfl) trivial (fun hHeld=>?_)
 refine tkO 0 ?_ hHeld rfl ?_ ?_
 rotate_left
 ·intro w q;go_simp;try with_reducible rfl
 simp only[apt,List.set]
 refine tkO 1 (.slice a1 n1 c1) hHeld rfl ?_ ?_
 ·(intro w q;go_simp;first | done | (rw[t2 w];rfl) | (simp[t2 w]))
 simp only[apt,List.set]
 refine tkO 2 ?_ hHeld rfl ?_ ?_
 rotate_left
 ·intro w q;go_simp;try with_reducible rfl
 simp only[apt,List.set]
 refine tkO 3 (.slice a2 n2 c2) hHeld rfl ?_ ?_
 ·(intro w q;go_simp;first | done | (rw[t3 w];rfl) | (simp[t3 w]))
 simp only[apt,List.set]
 clear t1 t2 t3
 refine rdO 4 rfl (fun K hK=>?_)
 go_simp
 refine hK.out _ _ trivial (fun _=>?_)
 clear hK K
 refine rdO 5 rfl (fun K hK=>?_)
 go_simp
 go_wp2_with fail
 refine(uh HCT).mono ?_
 clear HCT
 rintro e w3 ⟨u,rfl,hu,f3⟩
 obtain⟨ua,uc,rfl⟩:=rowZ hu
 refine hK.out _ _ trivial (fun _=>?_)
 clear hK K
 refine rdO 6 rfl (fun K hK=>?_)
 go_simp
 refine hK.out _ _ trivial (fun _=>?_)
 clear hK K
 refine rdO 7 rfl (fun K hK=>?_)
 go_simp
 refine hK.out _ _ trivial (fun _=>?_)
 clear hK K
 refine wpAnyH_done (by kernel_rfl) ?_ _
 have HU:=Hd (ai hu f3)
 clear hu f3
 go_wp2
 go_ret
 obtain⟨hu,f3⟩:=uh HU
 exact⟨_,rfl,⟨ua,uc,rfl,sl_of_row hu pcl_one,own_block hu⟩,f3⟩
set_option maxRecDepth 100000 in
theorem y_joinB (hh h':Nat) (ba:Option Addr) (bc:Nat) (B:List ByteArray) (ka:Option Addr) (kc:Nat) (ks:List (Nat×Nat)) (ba2:Option Addr) (bc2:Nat) (B2:List ByteArray) (ka2:Option Addr) (kc2:Nat) (ks2:List (Nat×Nat)) (x:ByteArray) (w:World) (hB:Kys w ba bc B) (hK:Kds w ka kc ks) (hB2:Kys w ba2 bc2 B2) (hK2:Kds w ka2 kc2 ks2) (hl:ks.length<=500) (hl2:ks2.length<=500) (hl3:B.length<=500) (hl4:B2.length<=500) :
  Calls Tryz.prog 186 #[.iface 96 (brV hh ba B.length bc ka ks.length kc),.string x,.iface 96 (brV h' ba2 B2.length bc2 ka2 ks2.length kc2)] w fun e w'=>∃nv,e = .returned nv/\NdO (fun k=>w.heap.size<=k/\k<w'.heap.size) w' nv (.br hh (B ++ x :: B2) (ks ++ ks2))/\St w w':=by
 have CS:∀W g gx,St w W->W.heap[gx]? = some (.cells #[.string x] 9 (0,0))->W.heap[g]? = some (.cells #[.slice ba B.length bc,.slice (some ⟨gx,0,none⟩) 1 1,.slice ba2 B2.length bc2] 93 (0,0))->Calls Tryz.prog 180 #[.slice (some ⟨g,0,none⟩) 3 3] W fun e w'=>∃va vc,e = .returned (.slice va (B ++ x :: B2).length vc)/\Kys w' va vc (B ++ x :: B2)/\(∀y,va=some y->W.heap.size<=y.block/\y.block<w'.heap.size)/\St W w':=fun W g gx f ox o=>by
  have SX:Sl W 1 (some ⟨gx,0,none⟩) 1 1 ([x].map Value.string):=⟨rfl,Nat.le_refl _,(fun e=>by cases e),str_one _,(fun j u hu=>⟨gx,0,rfl,by
   rw[Nat.zero_add,cOo ox j,<-hu]
   simp⟩),(fun y e=>by cases e;rfl)⟩
  refine(cat3g_S W g _ _ _ _ _ _ _ _ _ _ _ _ o (hB.still f) SX (hB2.still f) (by omega)).mono ?_
  rintro e w' ⟨v,rfl,hv,f'⟩
  rw[show B.length+1+B2.length=(B ++ x :: B2).length by simp;omega] at hv
  rw[<-List.map_append,<-List.map_append,show B ++ [x] ++ B2=B ++ x :: B2 by simp] at hv
  obtain⟨va,vc,rfl⟩:=rowZ hv
  exact⟨va,vc,rfl,sl_of_row hv (str_one _),own_block hv,f'⟩
 have CK:∀W g,St w W->W.heap[g]? = some (.cells #[.slice ka ks.length kc,.slice ka2 ks2.length kc2] 94 (0,0))->Calls Tryz.prog 181 #[.slice (some ⟨g,0,none⟩) 2 2] W fun e w'=>∃va vc,e = .returned (.slice va (ks ++ ks2).length vc)/\Kds w' va vc (ks ++ ks2)/\(∀x,va=some x->W.heap.size<=x.block/\x.block<w'.heap.size)/\St W w':=fun W g f o=>by
  refine(cat2g_K W g _ _ _ _ _ _ _ _ o (hK.still f) (hK2.still f) (by omega)).mono ?_
  rintro e w' ⟨v,rfl,hv,f'⟩
  rw[show ks.length+ks2.length=(ks ++ ks2).length by simp] at hv
  rw[<-kcl_app] at hv
  obtain⟨va,vc,rfl⟩:=rowZ hv
  exact⟨va,vc,rfl,sl_of_row hv kcl_one,own_block hv,f'⟩
 generalize B ++ x :: B2=RB at *
 generalize ks ++ ks2=RK at *
 have HCS:=@Hd _ CS;have HCK:=@Hd _ CK
 clear CS CK hB hK hB2 hK2 hl hl2 hl3 hl4
 generalize B.length=nb at *
 generalize ks.length=nk at *
 generalize B2.length=nb2 at *
 generalize ks2.length=nk2 at *
 obtain⟨W,hW⟩:∃W,(w.alloc (.cells #[.int .i64 hh,.slice ba nb bc,.slice ka nk kc] 96)).alloc (.cells #[.int .i64 h',.slice ba2 nb2 bc2,.slice ka2 nk2 kc2] 96)=W:=⟨_,rfl⟩
 have fW:St w W:=hW▸((Fr.refl _ w).alloc _).alloc _
 have oB:W.heap[w.heap.size]? = some (.cells #[.int .i64 hh,.slice ba nb bc,.slice ka nk kc] 96 (0,0)):=by
  have:=heap_alloc_new w (.cells #[.int .i64 hh,.slice ba nb bc,.slice ka nk kc] 96)
  rw[<-hW]
  exact((Fr.refl (fun _=>False) _).alloc _).obj this id
 have oR:W.heap[w.heap.size+1]? = some (.cells #[.int .i64 h',.slice ba2 nb2 bc2,.slice ka2 nk2 kc2] 96 (0,0)):=by
  have:=heap_alloc_new (w.alloc (.cells #[.int .i64 hh,.slice ba nb bc,.slice ka nk kc] 96)) (.cells #[.int .i64 h',.slice ba2 nb2 bc2,.slice ka2 nk2 kc2] 96)
  rw[hW] at this
  simpa using this
 have HW:=Hd hW
 clear hW
 generalize hg:w.heap.size=g at *
 have HSW:=@Hd _ (fun(w':World) (f:St W w')=>show w'.cell? ⟨g,0,none⟩=some (.int .i64 hh)/\w'.cell? ⟨g,1,none⟩=some (.slice ba nb bc)/\w'.cell? ⟨g,2,none⟩=some (.slice ka nk kc)/\w'.cell? ⟨g+1,0,none⟩=some (.int .i64 h')/\w'.cell? ⟨g+1,1,none⟩=some (.slice ba2 nb2 bc2)/\w'.cell? ⟨g+1,2,none⟩=some (.slice ka2 nk2 kc2) from⟨cOo (f.obj oB id) 0,cOo (f.obj oB id) 1,cOo (f.obj oB id) 2,cOo (f.obj oR id) 0,cOo (f.obj oR id) 1,cOo (f.obj oR id) 2⟩)
 have HFW:=Hd fW
 clear oB oR fW
 have t1:=fun w=>taB_br (brV hh ba nb bc ka nk kc) w
 have t2:=fun w=>taBf_br (brV h' ba2 nb2 bc2 ka2 nk2 kc2) w
 go_enter Tryz.func186,Tryz.ntmps186
 go_wp2_with fail
 rw[uh HW]
 clear HW t1 t2
 have fD:St W W.drew:=(Fr.refl _ W).drewN 1
 refine wp_region_held_drew (S:=fun w'=>w'.cell? ⟨g,0,none⟩=some (.int .i64 hh)/\w'.cell? ⟨g,1,none⟩=some (.slice ba nb bc)/\w'.cell? ⟨g,2,none⟩=some (.slice ka nk kc)/\w'.cell? ⟨g+1,0,none⟩=some (.int .i64 h')/\w'.cell? ⟨g+1,1,none⟩=some (.slice ba2 nb2 bc2)/\w'.cell? ⟨g+1,2,none⟩=some (.slice ka2 nk2 kc2)) (by kernel_rfl) (uh HSW _ fD) (fun hHeld=>?_)
 clear hHeld
 have hHeld:=uh HSW _ fD
 refine tkO 0 ?_ hHeld rfl ?_ ?_
 rotate_left
 ·intro w q;go_simp;try with_reducible rfl
 simp only[apt,List.set]
 refine tkO 1 (.int .i64 hh) hHeld rfl ?_ ?_
 ·rintro w ⟨x0,x1,x2,x3,x4,x5⟩;go_simp;try with_reducible rfl
 simp only[apt,List.set]
 refine tkO 2 ?_ hHeld rfl ?_ ?_
 rotate_left
 ·intro w q;go_simp;try with_reducible rfl
 simp only[apt,List.set]
 refine tkO 3 (.slice ba nb bc) hHeld rfl ?_ ?_
 ·rintro w ⟨x0,x1,x2,x3,x4,x5⟩;go_simp;try with_reducible rfl
 simp only[apt,List.set]
 refine tkO 4 ?_ hHeld rfl ?_ ?_
 rotate_left
 ·intro w q;go_simp;try with_reducible rfl
 simp only[apt,List.set]
 refine tkO 6 ?_ hHeld rfl ?_ ?_
 rotate_left
 ·intro w q;go_simp;try with_reducible rfl
 simp only[apt,List.set]
 refine tkO 7 (.slice ba2 nb2 bc2) hHeld rfl ?_ ?_
 ·rintro w ⟨x0,x1,x2,x3,x4,x5⟩;go_simp;try with_reducible rfl
 simp only[apt,List.set]
 refine tkO 10 ?_ hHeld rfl ?_ ?_
 rotate_left
 ·intro w q;go_simp;try with_reducible rfl
 simp only[apt,List.set]
 refine tkO 11 (.slice ka nk kc) hHeld rfl ?_ ?_
 ·rintro w ⟨x0,x1,x2,x3,x4,x5⟩;go_simp;try with_reducible rfl
 simp only[apt,List.set]
 refine tkO 12 ?_ hHeld rfl ?_ ?_
 rotate_left
 ·intro w q;go_simp;try with_reducible rfl
 simp only[apt,List.set]
 refine tkO 13 (.slice ka2 nk2 kc2) hHeld rfl ?_ ?_
 ·rintro w ⟨x0,x1,x2,x3,x4,x5⟩;go_simp;try with_reducible rfl
 simp only[apt,List.set]
 clear hHeld
 obtain⟨WD,hWD⟩:∃WD,W.drew=WD:=⟨_,rfl⟩
 rw[hWD] at fD ⊢
 clear hWD
 refine wpAnyH_ready (rs:=[5,14]) (by kernel_rfl) (by simp) ?_
 refine AllReadyH.cons rfl (fun K hK=>?_) (AllReadyH.cons rfl (fun K hK=>?_) AllReadyH.nil)
 ·go_simp
  obtain⟨W5,hW5⟩:∃X,(WD).alloc (.cells #[.string x] 9)=X:=⟨_,rfl⟩
  have g5:St (WD) W5:=hW5▸(Fr.refl _ _).alloc _
  have f5:St W W5:=(fD).trans' g5 nE
  obtain⟨gx,hgx⟩:∃gx,(WD).heap.size=gx:=⟨_,rfl⟩
  have o5:W5.heap[gx]? = some (.cells #[.string x] 9 (0,0)):=by rw[<-hgx,<-hW5];exact heap_alloc_new _ _
  rw[hW5,hgx]
  refine hK.out _ _ (uh HSW _ f5) (fun _=>?_)
  clear hK K hW5 hgx
  refine wpAnyH_ready (rs:=[8,14]) (by kernel_rfl) (by simp) ?_
  refine AllReadyH.cons rfl (fun K hK=>?_) (AllReadyH.cons rfl (fun K hK=>?_) AllReadyH.nil)
  ·go_simp
   obtain⟨W8,hW8⟩:∃X,(W5).alloc (.cells #[.slice ba nb bc,.slice (some ⟨gx,0,none⟩) 1 1,.slice ba2 nb2 bc2] 93)=X:=⟨_,rfl⟩
   have g8:St (W5) W8:=hW8▸(Fr.refl _ _).alloc _
   have f8:St W W8:=(f5).trans' g8 nE
   obtain⟨gs,hgs⟩:∃gs,(W5).heap.size=gs:=⟨_,rfl⟩
   have o8:W8.heap[gs]? = some (.cells #[.slice ba nb bc,.slice (some ⟨gx,0,none⟩) 1 1,.slice ba2 nb2 bc2] 93 (0,0)):=by rw[<-hgs,<-hW8];exact heap_alloc_new _ _
   have p8:=g8.obj (o5) id
   rw[hW8,hgs]
   refine hK.out _ _ (uh HSW _ f8) (fun _=>?_)
   clear hK K hW8 hgs
   refine wpAnyH_ready (rs:=[9,14]) (by kernel_rfl) (by simp) ?_
   refine AllReadyH.cons rfl (fun K hK=>?_) (AllReadyH.cons rfl (fun K hK=>?_) AllReadyH.nil)
   ·go_simp
    go_wp2_with fail
    refine(uh HCS (W8) gs gx ((uh HFW).trans' (f8) nE) (p8) (o8)).mono ?_
    rintro e w9 ⟨va,vc,rfl,hv,hvb,g9⟩
    have f9:St W w9:=(f8).trans' g9 nE
    refine hK.out _ _ (uh HSW _ f9) (fun _=>?_)
    clear hK K
    refine rdO 14 rfl (fun K hK=>?_)
    go_simp
    obtain⟨WK,hWK⟩:∃X,(w9).alloc (.cells #[.slice ka nk kc,.slice ka2 nk2 kc2] 94)=X:=⟨_,rfl⟩
    have gk:St (w9) WK:=hWK▸(Fr.refl _ _).alloc _
    have fk:St W WK:=(f9).trans' gk nE
    obtain⟨gz,hgz⟩:∃gz,(w9).heap.size=gz:=⟨_,rfl⟩
    have ok:WK.heap[gz]? = some (.cells #[.slice ka nk kc,.slice ka2 nk2 kc2] 94 (0,0)):=by rw[<-hgz,<-hWK];exact heap_alloc_new _ _
    rw[hWK,hgz]
    refine hK.out _ _ (uh HSW _ fk) (fun _=>?_)
    clear hK K hWK hgz
    refine rdO 15 rfl (fun K hK=>?_)
    go_simp
    go_wp2_with fail
    refine(uh HCK (WK) gz ((uh HFW).trans' (fk) nE) (ok)).mono ?_
    rintro e wF ⟨ua,uc,rfl,hu,hub,gF⟩
    have fF:St W wF:=(fk).trans' gF nE
    have s9F:St w9 wF:=gk.trans' gF nE
    refine hK.out _ _ (uh HSW _ fF) (fun _=>?_)
    clear hK K
    refine rdO 16 rfl (fun K hK=>?_)
    go_simp
    refine hK.out _ _ (uh HSW _ fF) (fun _=>?_)
    clear hK K
    refine rdO 17 rfl (fun K hK=>?_)
    go_simp
    refine hK.out _ _ (uh HSW _ fF) (fun _=>?_)
    clear hK K
    refine rdO 18 rfl (fun K hK=>?_)
    go_simp
    refine hK.out _ _ (uh HSW _ fF) (fun _=>?_)
    clear hK K
    refine wpAnyH_done (by kernel_rfl) ?_ _
    have HZ:=Hd (show NdO (fun k=>g<=k/\k<wF.heap.size) wF (.iface 96 (brV hh va RB.length vc ua RK.length uc)) (.br hh RB RK)/\St w wF from⟨⟨va,vc,ua,uc,rfl,hv.still s9F,hu,fun y hy=>⟨by
     have h1:=(hvb y hy).1;have h2:=(uh HFW).size;have h3:=(f8).size;omega,Nat.lt_of_lt_of_le (hvb y hy).2 s9F.size⟩,fun y hy=>⟨by
     have h1:=(hub y hy).1;have h2:=(uh HFW).size;have h3:=(fk).size;omega,(hub y hy).2⟩⟩,(uh HFW).trans' fF nE⟩)
    clear hv hu hvb hub gF fF s9F
    go_wp2_with fail
    go_ret
    exact⟨_,rfl,uh HZ⟩
   ·go_simp
    obtain⟨WK,hWK⟩:∃X,(W8).alloc (.cells #[.slice ka nk kc,.slice ka2 nk2 kc2] 94)=X:=⟨_,rfl⟩
    have gk:St (W8) WK:=hWK▸(Fr.refl _ _).alloc _
    have fk:St W WK:=(f8).trans' gk nE
    obtain⟨gz,hgz⟩:∃gz,(W8).heap.size=gz:=⟨_,rfl⟩
    have ok:WK.heap[gz]? = some (.cells #[.slice ka nk kc,.slice ka2 nk2 kc2] 94 (0,0)):=by rw[<-hgz,<-hWK];exact heap_alloc_new _ _
    rw[hWK,hgz]
    refine hK.out _ _ (uh HSW _ fk) (fun _=>?_)
    clear hK K hWK hgz
    refine rdO 9 rfl (fun K hK=>?_)
    go_simp
    go_wp2_with fail
    refine(uh HCS (WK) gs gx ((uh HFW).trans' (fk) nE) (gk.obj p8 id) (gk.obj o8 id)).mono ?_
    rintro e w9 ⟨va,vc,rfl,hv,hvb,g9⟩
    have f9:St W w9:=(fk).trans' g9 nE
    refine hK.out _ _ (uh HSW _ f9) (fun _=>?_)
    clear hK K
    refine rdO 15 rfl (fun K hK=>?_)
    go_simp
    go_wp2_with fail
    refine(uh HCK (w9) gz ((uh HFW).trans' (f9) nE) (g9.obj ok id)).mono ?_
    rintro e wF ⟨ua,uc,rfl,hu,hub,gF⟩
    have fF:St W wF:=(f9).trans' gF nE
    have s9F:St w9 wF:=gF
    refine hK.out _ _ (uh HSW _ fF) (fun _=>?_)
    clear hK K
    refine rdO 16 rfl (fun K hK=>?_)
    go_simp
    refine hK.out _ _ (uh HSW _ fF) (fun _=>?_)
    clear hK K
    refine rdO 17 rfl (fun K hK=>?_)
    go_simp
    refine hK.out _ _ (uh HSW _ fF) (fun _=>?_)
    clear hK K
    refine rdO 18 rfl (fun K hK=>?_)
    go_simp
    refine hK.out _ _ (uh HSW _ fF) (fun _=>?_)
    clear hK K
    refine wpAnyH_done (by kernel_rfl) ?_ _
    have HZ:=Hd (show NdO (fun k=>g<=k/\k<wF.heap.size) wF (.iface 96 (brV hh va RB.length vc ua RK.length uc)) (.br hh RB RK)/\St w wF from⟨⟨va,vc,ua,uc,rfl,hv.still s9F,hu,fun y hy=>⟨by
     have h1:=(hvb y hy).1;have h2:=(uh HFW).size;have h3:=(fk).size;omega,Nat.lt_of_lt_of_le (hvb y hy).2 s9F.size⟩,fun y hy=>⟨by
     have h1:=(hub y hy).1;have h2:=(uh HFW).size;have h3:=(f9).size;omega,(hub y hy).2⟩⟩,(uh HFW).trans' fF nE⟩)
    clear hv hu hvb hub gF fF s9F
    go_wp2_with fail
    go_ret
    exact⟨_,rfl,uh HZ⟩
  ·go_simp
   obtain⟨WK,hWK⟩:∃X,(W5).alloc (.cells #[.slice ka nk kc,.slice ka2 nk2 kc2] 94)=X:=⟨_,rfl⟩
   have gk:St (W5) WK:=hWK▸(Fr.refl _ _).alloc _
   have fk:St W WK:=(f5).trans' gk nE
   obtain⟨gz,hgz⟩:∃gz,(W5).heap.size=gz:=⟨_,rfl⟩
   have ok:WK.heap[gz]? = some (.cells #[.slice ka nk kc,.slice ka2 nk2 kc2] 94 (0,0)):=by rw[<-hgz,<-hWK];exact heap_alloc_new _ _
   rw[hWK,hgz]
   refine hK.out _ _ (uh HSW _ fk) (fun _=>?_)
   clear hK K hWK hgz
   refine rdO 8 rfl (fun K hK=>?_)
   go_simp
   obtain⟨W8,hW8⟩:∃X,(WK).alloc (.cells #[.slice ba nb bc,.slice (some ⟨gx,0,none⟩) 1 1,.slice ba2 nb2 bc2] 93)=X:=⟨_,rfl⟩
   have g8:St (WK) W8:=hW8▸(Fr.refl _ _).alloc _
   have f8:St W W8:=(fk).trans' g8 nE
   obtain⟨gs,hgs⟩:∃gs,(WK).heap.size=gs:=⟨_,rfl⟩
   have o8:W8.heap[gs]? = some (.cells #[.slice ba nb bc,.slice (some ⟨gx,0,none⟩) 1 1,.slice ba2 nb2 bc2] 93 (0,0)):=by rw[<-hgs,<-hW8];exact heap_alloc_new _ _
   have p8:=g8.obj (gk.obj o5 id) id
   rw[hW8,hgs]
   refine hK.out _ _ (uh HSW _ f8) (fun _=>?_)
   clear hK K hW8 hgs
   refine rdO 9 rfl (fun K hK=>?_)
   go_simp
   go_wp2_with fail
   refine(uh HCS (W8) gs gx ((uh HFW).trans' (f8) nE) (p8) (o8)).mono ?_
   rintro e w9 ⟨va,vc,rfl,hv,hvb,g9⟩
   have f9:St W w9:=(f8).trans' g9 nE
   refine hK.out _ _ (uh HSW _ f9) (fun _=>?_)
   clear hK K
   refine rdO 15 rfl (fun K hK=>?_)
   go_simp
   go_wp2_with fail
   refine(uh HCK (w9) gz ((uh HFW).trans' (f9) nE) (g9.obj (g8.obj ok id) id)).mono ?_
   rintro e wF ⟨ua,uc,rfl,hu,hub,gF⟩
   have fF:St W wF:=(f9).trans' gF nE
   have s9F:St w9 wF:=gF
   refine hK.out _ _ (uh HSW _ fF) (fun _=>?_)
   clear hK K
   refine rdO 16 rfl (fun K hK=>?_)
   go_simp
   refine hK.out _ _ (uh HSW _ fF) (fun _=>?_)
   clear hK K
   refine rdO 17 rfl (fun K hK=>?_)
   go_simp
   refine hK.out _ _ (uh HSW _ fF) (fun _=>?_)
   clear hK K
   refine rdO 18 rfl (fun K hK=>?_)
   go_simp
   refine hK.out _ _ (uh HSW _ fF) (fun _=>?_)
   clear hK K
   refine wpAnyH_done (by kernel_rfl) ?_ _
   have HZ:=Hd (show NdO (fun k=>g<=k/\k<wF.heap.size) wF (.iface 96 (brV hh va RB.length vc ua RK.length uc)) (.br hh RB RK)/\St w wF from⟨⟨va,vc,ua,uc,rfl,hv.still s9F,hu,fun y hy=>⟨by
    have h1:=(hvb y hy).1;have h2:=(uh HFW).size;have h3:=(f8).size;omega,Nat.lt_of_lt_of_le (hvb y hy).2 s9F.size⟩,fun y hy=>⟨by
    have h1:=(hub y hy).1;have h2:=(uh HFW).size;have h3:=(f9).size;omega,(hub y hy).2⟩⟩,(uh HFW).trans' fF nE⟩)
   clear hv hu hvb hub gF fF s9F
   go_wp2_with fail
   go_ret
   exact⟨_,rfl,uh HZ⟩
 ·go_simp
  obtain⟨WK,hWK⟩:∃X,(WD).alloc (.cells #[.slice ka nk kc,.slice ka2 nk2 kc2] 94)=X:=⟨_,rfl⟩
  have gk:St (WD) WK:=hWK▸(Fr.refl _ _).alloc _
  have fk:St W WK:=(fD).trans' gk nE
  obtain⟨gz,hgz⟩:∃gz,(WD).heap.size=gz:=⟨_,rfl⟩
  have ok:WK.heap[gz]? = some (.cells #[.slice ka nk kc,.slice ka2 nk2 kc2] 94 (0,0)):=by rw[<-hgz,<-hWK];exact heap_alloc_new _ _
  rw[hWK,hgz]
  refine hK.out _ _ (uh HSW _ fk) (fun _=>?_)
  clear hK K hWK hgz
  refine rdO 5 rfl (fun K hK=>?_)
  go_simp
  obtain⟨W5,hW5⟩:∃X,(WK).alloc (.cells #[.string x] 9)=X:=⟨_,rfl⟩
  have g5:St (WK) W5:=hW5▸(Fr.refl _ _).alloc _
  have f5:St W W5:=(fk).trans' g5 nE
  obtain⟨gx,hgx⟩:∃gx,(WK).heap.size=gx:=⟨_,rfl⟩
  have o5:W5.heap[gx]? = some (.cells #[.string x] 9 (0,0)):=by rw[<-hgx,<-hW5];exact heap_alloc_new _ _
  rw[hW5,hgx]
  refine hK.out _ _ (uh HSW _ f5) (fun _=>?_)
  clear hK K hW5 hgx
  refine rdO 8 rfl (fun K hK=>?_)
  go_simp
  obtain⟨W8,hW8⟩:∃X,(W5).alloc (.cells #[.slice ba nb bc,.slice (some ⟨gx,0,none⟩) 1 1,.slice ba2 nb2 bc2] 93)=X:=⟨_,rfl⟩
  have g8:St (W5) W8:=hW8▸(Fr.refl _ _).alloc _
  have f8:St W W8:=(f5).trans' g8 nE
  obtain⟨gs,hgs⟩:∃gs,(W5).heap.size=gs:=⟨_,rfl⟩
  have o8:W8.heap[gs]? = some (.cells #[.slice ba nb bc,.slice (some ⟨gx,0,none⟩) 1 1,.slice ba2 nb2 bc2] 93 (0,0)):=by rw[<-hgs,<-hW8];exact heap_alloc_new _ _
  have p8:=g8.obj (o5) id
  rw[hW8,hgs]
  refine hK.out _ _ (uh HSW _ f8) (fun _=>?_)
  clear hK K hW8 hgs
  refine rdO 9 rfl (fun K hK=>?_)
  go_simp
  go_wp2_with fail
  refine(uh HCS (W8) gs gx ((uh HFW).trans' (f8) nE) (p8) (o8)).mono ?_
  rintro e w9 ⟨va,vc,rfl,hv,hvb,g9⟩
  have f9:St W w9:=(f8).trans' g9 nE
  refine hK.out _ _ (uh HSW _ f9) (fun _=>?_)
  clear hK K
  refine rdO 15 rfl (fun K hK=>?_)
  go_simp
  go_wp2_with fail
  refine(uh HCK (w9) gz ((uh HFW).trans' (f9) nE) (g9.obj (g8.obj (g5.obj ok id) id) id)).mono ?_
  rintro e wF ⟨ua,uc,rfl,hu,hub,gF⟩
  have fF:St W wF:=(f9).trans' gF nE
  have s9F:St w9 wF:=gF
  refine hK.out _ _ (uh HSW _ fF) (fun _=>?_)
  clear hK K
  refine rdO 16 rfl (fun K hK=>?_)
  go_simp
  refine hK.out _ _ (uh HSW _ fF) (fun _=>?_)
  clear hK K
  refine rdO 17 rfl (fun K hK=>?_)
  go_simp
  refine hK.out _ _ (uh HSW _ fF) (fun _=>?_)
  clear hK K
  refine rdO 18 rfl (fun K hK=>?_)
  go_simp
  refine hK.out _ _ (uh HSW _ fF) (fun _=>?_)
  clear hK K
  refine wpAnyH_done (by kernel_rfl) ?_ _
  have HZ:=Hd (show NdO (fun k=>g<=k/\k<wF.heap.size) wF (.iface 96 (brV hh va RB.length vc ua RK.length uc)) (.br hh RB RK)/\St w wF from⟨⟨va,vc,ua,uc,rfl,hv.still s9F,hu,fun y hy=>⟨by
   have h1:=(hvb y hy).1;have h2:=(uh HFW).size;have h3:=(f8).size;omega,Nat.lt_of_lt_of_le (hvb y hy).2 s9F.size⟩,fun y hy=>⟨by
   have h1:=(hub y hy).1;have h2:=(uh HFW).size;have h3:=(f9).size;omega,(hub y hy).2⟩⟩,(uh HFW).trans' fF nE⟩)
  clear hv hu hvb hub gF fF s9F
  go_wp2_with fail
  go_ret
  exact⟨_,rfl,uh HZ⟩

section
section
variable {nu sz:Nat} {w w' w0:World} {hb sb b cb m:Nat} {T T0:Tay} {A:Ab} {P:List (Int×Int)} {tv:Value}
set_option maxRecDepth 100000 in
theorem y_bothR (c:Cg nu sz w0 hb sb b T0 A cb w T P tv m) (hh:Nat) (ba:Option Addr) (bc:Nat) (B:List ByteArray) (ka:Option Addr) (kc:Nat) (ks:List (Nat×Nat)) (i:Nat) (hB:Kys w ba bc B) (hK:Kds w ka kc ks) (hl:ks.length<=500) (hlen:ks.length=B.length+1) (x:ByteArray) (hx:B[i]? = some x) (u kn:Nat) (n1 nj:Nd) (hq:ks[i+1]? = some (fi nu+8 * u,kn)) (st1:Std nu sz (says P A) u n1) (hh1:hh=n1.high+1) (nv:Value)
  (JN:∀w1 w2 nv1,St w w1->St w1 w2->NdO (fun k=>w1.heap.size<=k/\k<w2.heap.size) w2 nv1 n1->Calls Tryz.prog 186 #[nv,.string x,nv1] w2 fun e w'=>∃nv',e = .returned nv'/\NdO (fun k=>w2.heap.size<=k/\k<w'.heap.size) w' nv' nj/\St w2 w') :
  Calls Tryz.prog 150 #[ptr cb,brV hh ba B.length bc ka ks.length kc,.int .i64 i,.int .i64 i,nv] w fun e w'=>∃nv',e = .returned nv'/\NdO (fun k=>w.heap.size<=k/\k<w'.heap.size) w' nv' nj/\St w w':=by
 have hiB:i<B.length:=(List.getElem?_eq_some_iff.1 hx).1
 have KD:∀w1,St w w1->Calls Tryz.prog 53 #[brV hh ba B.length bc ka ks.length kc,ptr sb,.int .i64 ((i:Int)+1)] w1 _:=fun w1 f1=>b_kid (c.still f1).hp hh ba B.length bc ka kc ks (i+1) u n1 (hK.still f1) (by omega) kn hq st1 hh1
 obtain⟨bb,bo,eb,cx⟩:=hB.cells i (.string x) (by rw[List.getElem?_map,hx];rfl)
 obtain⟨W,hW⟩:∃W,w.alloc (.cells #[.int .i64 hh,.slice ba B.length bc,.slice ka ks.length kc] 96)=W:=⟨_,rfl⟩
 have fW:St w W:=hW▸(Fr.refl _ w).alloc _
 have oW:W.heap[w.heap.size]? = some (.cells #[.int .i64 hh,.slice ba B.length bc,.slice ka ks.length kc] 96 (0,0)):=hW▸heap_alloc_new w _
 have wi1:IntKind.i64.wrap ((i:Int)+1)=(i:Int)+1:=(wrap_small _ (by omega) (by omega)).1
 have hlt:((i:Int)<B.length)=True:=by simp;omega
 have HS:=@Hd _ (fun(w':World) (f:St W w')=>show w'.cell? ⟨w.heap.size,0,none⟩=some (.int .i64 hh)/\w'.cell? ⟨w.heap.size,1,none⟩=some (.slice ba B.length bc)/\w'.cell? ⟨w.heap.size,2,none⟩=some (.slice ka ks.length kc)/\w'.cell? ⟨cb,0,none⟩=some (ptr sb)/\w'.cell? ⟨bb,bo+i,none⟩=some (.string x) from⟨cOo (f.obj oW id) 0,cOo (f.obj oW id) 1,cOo (f.obj oW id) 2,cOo ((c.still fW).still f).ob 0,f.cell' (fW.cell' cx id) id⟩)
 have HKD:=@Hd _ KD;have HJN:=@Hd _ JN;have HW:=Hd hW;have HFW:=Hd fW
 subst eb
 have i5:i<=500:=by omega
 clear KD JN hW fW oW c hB hK hl hlen hx hq st1 hh1 cx hiB
 generalize B.length=nb at *
 generalize ks.length=nk at *
 generalize hg:w.heap.size=g at *
 have hie:((i:Int) == (i:Int))=true:=by simp
 go_enter Tryz.func150,Tryz.ntmps150
 go_wp2_with fail
 rw[uh HW]
 have fD:St W W.drew:=(Fr.refl _ W).drewN 1
 refine wp_region_held_drew (S:=fun w'=>w'.cell? ⟨g,0,none⟩=some (.int .i64 hh)/\w'.cell? ⟨g,1,none⟩=some (.slice (some ⟨bb,bo,none⟩) nb bc)/\w'.cell? ⟨g,2,none⟩=some (.slice ka nk kc)/\w'.cell? ⟨cb,0,none⟩=some (ptr sb)/\w'.cell? ⟨bb,bo+i,none⟩=some (.string x)) (by kernel_rfl) (uh HS _ fD) (fun hHeld=>?_)
 clear hHeld
 have hHeld:=uh HS _ fD
 refine tkO 0 ?_ hHeld rfl ?_ ?_
 rotate_left
 ·intro w q;go_simp;try with_reducible rfl
 simp only[apt,List.set]
 refine tkO 1 ?_ hHeld rfl ?_ ?_
 rotate_left
 ·intro w q;go_simp;try with_reducible rfl
 simp only[apt,List.set]
 refine tkO 2 (.slice (some ⟨bb,bo,none⟩) nb bc) hHeld rfl ?_ ?_
 ·rintro w ⟨x0,x1,x2,x3,x4⟩;go_simp;try with_reducible rfl
 simp only[apt,List.set]
 refine tkO 3 ?_ hHeld rfl ?_ ?_
 rotate_left
 ·intro w q;go_simp;try with_reducible rfl
 simp only[apt,List.set]
 refine tkO 4 ?_ hHeld rfl ?_ ?_
 rotate_left
 ·intro w q;go_simp;try with_reducible rfl
 simp only[apt,List.set]
 refine tkO 5 (.string x) hHeld rfl ?_ ?_
 ·rintro w ⟨x0,x1,x2,x3,x4⟩;go_simp;try with_reducible rfl
 simp only[apt,List.set]
 refine tkO 6 (.agg #[.int .i64 (hh:Nat),.slice (some ⟨bb,bo,none⟩) nb bc,.slice ka nk kc]) hHeld rfl ?_ ?_
 ·rintro w ⟨x0,x1,x2,x3,x4⟩;go_simp;try with_reducible rfl
 simp only[apt,List.set]
 refine tkO 7 ?_ hHeld rfl ?_ ?_
 rotate_left
 ·intro w q;go_simp;try with_reducible rfl
 simp only[apt,List.set]
 refine tkO 8 ?_ hHeld rfl ?_ ?_
 rotate_left
 ·intro w q;go_simp;try with_reducible rfl
 simp only[apt,List.set]
 refine tkO 9 ?_ hHeld rfl ?_ ?_
 rotate_left
 ·intro w q;go_simp;try with_reducible rfl
 simp only[apt,List.set]
 refine tkO 10 (ptr sb) hHeld rfl ?_ ?_
 ·rintro w ⟨x0,x1,x2,x3,x4⟩;go_simp;try with_reducible rfl
 simp only[apt,List.set]
 refine tkO 11 ?_ hHeld rfl ?_ ?_
 rotate_left
 ·intro w q;go_simp;try with_reducible rfl
 simp only[apt,List.set]
 refine tkO 12 (.int .i64 ((i:Int)+1)) hHeld rfl ?_ ?_
 ·(intro w q;go_simp;first | done | (rw[wi1]) | (simp[wi1]))
 simp only[apt,List.set]
 refine rdO 13 rfl (fun K hK=>?_)
 go_simp
 go_wp2_with fail
 have fwD:St w W.drew:=(uh HFW).trans' fD nE
 refine(uh HKD _ fwD).mono ?_
 rintro e w3 ⟨nv1,rfl,nd1,f3⟩
 have f03:St W w3:=fD.trans' f3 nE
 refine hK.out _ _ (uh HS _ f03) (fun _=>?_)
 clear hK K hHeld
 have JC:=uh HJN _ w3 nv1 fwD f3 nd1
 refine rdO 14 rfl (fun K hK=>?_)
 go_simp
 go_wp2_with fail
 refine JC.mono ?_
 rintro e w4 ⟨nv',rfl,nd4,f4⟩
 have f04:St W w4:=f03.trans' f4 nE
 refine hK.out _ _ (uh HS _ f04) (fun _=>?_)
 clear hK K
 refine rdO 15 rfl (fun K hK=>?_)
 go_simp
 refine hK.out _ _ (uh HS _ f04) (fun _=>?_)
 clear hK K
 refine wpAnyH_done (by kernel_rfl) ?_ _
 have HZ:=Hd (show NdO (fun k=>g<=k/\k<w4.heap.size) w4 nv' nj/\St w w4 from⟨nd4.mono fun k hk=>⟨by have:=(uh HFW).size;have:=f03.size;omega,hk.2⟩,(uh HFW).trans' f04 nE⟩)
 clear nd1 f3 f03 JC nd4 f4 f04
 go_wp2_with fail
 go_ret
 exact⟨_,rfl,uh HZ⟩
set_option maxRecDepth 100000 in
theorem y_bothL (c:Cg nu sz w0 hb sb b T0 A cb w T P tv m) (hh:Nat) (ba:Option Addr) (bc:Nat) (B:List ByteArray) (ka:Option Addr) (kc:Nat) (ks:List (Nat×Nat)) (q i:Nat) (hqi:q+1=i) (hB:Kys w ba bc B) (hK:Kds w ka kc ks) (hl:ks.length<=500) (hlen:ks.length=B.length+1) (x:ByteArray) (hx:B[q]? = some x) (u kn:Nat) (n1 nj:Nd) (hq:ks[q]? = some (fi nu+8 * u,kn)) (st1:Std nu sz (says P A) u n1) (hh1:hh=n1.high+1) (nv:Value)
  (JN:∀w1 w2 nv1,St w w1->St w1 w2->NdO (fun k=>w1.heap.size<=k/\k<w2.heap.size) w2 nv1 n1->Calls Tryz.prog 186 #[nv1,.string x,nv] w2 fun e w'=>∃nv',e = .returned nv'/\NdO (fun k=>w2.heap.size<=k/\k<w'.heap.size) w' nv' nj/\St w2 w') :
  Calls Tryz.prog 150 #[ptr cb,brV hh ba B.length bc ka ks.length kc,.int .i64 q,.int .i64 i,nv] w fun e w'=>∃nv',e = .returned nv'/\NdO (fun k=>w.heap.size<=k/\k<w'.heap.size) w' nv' nj/\St w w':=by
 have hiB:q<B.length:=(List.getElem?_eq_some_iff.1 hx).1
 have KD:∀w1,St w w1->Calls Tryz.prog 53 #[brV hh ba B.length bc ka ks.length kc,ptr sb,.int .i64 (q:Nat)] w1 _:=fun w1 f1=>b_kid (c.still f1).hp hh ba B.length bc ka kc ks q u n1 (hK.still f1) (by omega) kn hq st1 hh1
 obtain⟨bb,bo,eb,cx⟩:=hB.cells q (.string x) (by rw[List.getElem?_map,hx];rfl)
 obtain⟨W,hW⟩:∃W,w.alloc (.cells #[.int .i64 hh,.slice ba B.length bc,.slice ka ks.length kc] 96)=W:=⟨_,rfl⟩
 have fW:St w W:=hW▸(Fr.refl _ w).alloc _
 have oW:W.heap[w.heap.size]? = some (.cells #[.int .i64 hh,.slice ba B.length bc,.slice ka ks.length kc] 96 (0,0)):=hW▸heap_alloc_new w _
 have hlt:((q:Int)<B.length)=True:=by simp;omega
 have HS:=@Hd _ (fun(w':World) (f:St W w')=>show w'.cell? ⟨w.heap.size,0,none⟩=some (.int .i64 hh)/\w'.cell? ⟨w.heap.size,1,none⟩=some (.slice ba B.length bc)/\w'.cell? ⟨w.heap.size,2,none⟩=some (.slice ka ks.length kc)/\w'.cell? ⟨cb,0,none⟩=some (ptr sb)/\w'.cell? ⟨bb,bo+q,none⟩=some (.string x) from⟨cOo (f.obj oW id) 0,cOo (f.obj oW id) 1,cOo (f.obj oW id) 2,cOo ((c.still fW).still f).ob 0,f.cell' (fW.cell' cx id) id⟩)
 have HKD:=@Hd _ KD;have HJN:=@Hd _ JN;have HW:=Hd hW;have HFW:=Hd fW
 subst eb
 have i5:q<=500:=by omega
 have hie:((q:Int) == (i:Int))=false:=by simp;omega
 clear KD JN hW fW oW c hB hK hl hlen hx hq st1 hh1 cx hiB hqi
 generalize B.length=nb at *
 generalize ks.length=nk at *
 generalize hg:w.heap.size=g at *
 go_enter Tryz.func150,Tryz.ntmps150
 go_wp2_with fail
 rw[uh HW]
 have fD:St W W.drew:=(Fr.refl _ W).drewN 1
 refine wp_region_held_drew (S:=fun w'=>w'.cell? ⟨g,0,none⟩=some (.int .i64 hh)/\w'.cell? ⟨g,1,none⟩=some (.slice (some ⟨bb,bo,none⟩) nb bc)/\w'.cell? ⟨g,2,none⟩=some (.slice ka nk kc)/\w'.cell? ⟨cb,0,none⟩=some (ptr sb)/\w'.cell? ⟨bb,bo+q,none⟩=some (.string x)) (by kernel_rfl) (uh HS _ fD) (fun hHeld=>?_)
 clear hHeld
 have hHeld:=uh HS _ fD
 refine tkO 0 (.agg #[.int .i64 (hh:Nat),.slice (some ⟨bb,bo,none⟩) nb bc,.slice ka nk kc]) hHeld rfl ?_ ?_
 ·rintro w ⟨x0,x1,x2,x3,x4⟩;go_simp;try with_reducible rfl
 simp only[apt,List.set]
 refine tkO 1 ?_ hHeld rfl ?_ ?_
 rotate_left
 ·intro w q;go_simp;try with_reducible rfl
 simp only[apt,List.set]
 refine tkO 2 ?_ hHeld rfl ?_ ?_
 rotate_left
 ·intro w q;go_simp;try with_reducible rfl
 simp only[apt,List.set]
 refine tkO 3 ?_ hHeld rfl ?_ ?_
 rotate_left
 ·intro w q;go_simp;try with_reducible rfl
 simp only[apt,List.set]
 refine tkO 4 (ptr sb) hHeld rfl ?_ ?_
 ·rintro w ⟨x0,x1,x2,x3,x4⟩;go_simp;try with_reducible rfl
 simp only[apt,List.set]
 refine tkO 5 ?_ hHeld rfl ?_ ?_
 rotate_left
 ·intro w q;go_simp;try with_reducible rfl
 simp only[apt,List.set]
 refine tkO 7 ?_ hHeld rfl ?_ ?_
 rotate_left
 ·intro w q;go_simp;try with_reducible rfl
 simp only[apt,List.set]
 refine tkO 8 (.slice (some ⟨bb,bo,none⟩) nb bc) hHeld rfl ?_ ?_
 ·rintro w ⟨x0,x1,x2,x3,x4⟩;go_simp;try with_reducible rfl
 simp only[apt,List.set]
 refine tkO 9 ?_ hHeld rfl ?_ ?_
 rotate_left
 ·intro w q;go_simp;try with_reducible rfl
 simp only[apt,List.set]
 refine tkO 10 ?_ hHeld rfl ?_ ?_
 rotate_left
 ·intro w q;go_simp;try with_reducible rfl
 simp only[apt,List.set]
 refine tkO 11 (.string x) hHeld rfl ?_ ?_
 ·rintro w ⟨x0,x1,x2,x3,x4⟩;go_simp;try with_reducible rfl
 simp only[apt,List.set]
 refine tkO 12 ?_ hHeld rfl ?_ ?_
 rotate_left
 ·intro w q;go_simp;try with_reducible rfl
 simp only[apt,List.set]
 refine rdO 6 rfl (fun K hK=>?_)
 go_simp
 go_wp2_with fail
 have fwD:St w W.drew:=(uh HFW).trans' fD nE
 refine(uh HKD _ fwD).mono ?_
 rintro e w3 ⟨nv1,rfl,nd1,f3⟩
 have f03:St W w3:=fD.trans' f3 nE
 refine hK.out _ _ (uh HS _ f03) (fun _=>?_)
 clear hK K hHeld
 have JC:=uh HJN _ w3 nv1 fwD f3 nd1
 refine rdO 13 rfl (fun K hK=>?_)
 go_simp
 go_wp2_with fail
 refine JC.mono ?_
 rintro e w4 ⟨nv',rfl,nd4,f4⟩
 have f04:St W w4:=f03.trans' f4 nE
 refine hK.out _ _ (uh HS _ f04) (fun _=>?_)
 clear hK K
 refine rdO 14 rfl (fun K hK=>?_)
 go_simp
 refine hK.out _ _ (uh HS _ f04) (fun _=>?_)
 clear hK K
 refine wpAnyH_done (by kernel_rfl) ?_ _
 have HZ:=Hd (show NdO (fun k=>g<=k/\k<w4.heap.size) w4 nv' nj/\St w w4 from⟨nd4.mono fun k hk=>⟨by have:=(uh HFW).size;have:=f03.size;omega,hk.2⟩,(uh HFW).trans' f04 nE⟩)
 clear nd1 f3 f03 JC nd4 f4 f04
 go_wp2_with fail
 go_ret
 exact⟨_,rfl,uh HZ⟩
end
end

section
def delP (l:List Pr) (x:ByteArray):List Pr:=l.filter fun p=>decide (p.1≠x)
theorem delP_app (x:ByteArray) (l m:List Pr):delP (l ++ m) x=delP l x ++ delP m x:=List.filter_append ..
theorem delP_none {x:ByteArray} {l:List Pr} (h:∀p∈l,p.1≠x):delP l x=l:=List.filter_eq_self.2 fun p hp=>by simp[h p hp]
theorem delP_sub (x:ByteArray) (l:List Pr):(delP l x).Sublist l:=List.filter_sublist
theorem delP_way {B:List ByteArray} {x:ByteArray} {i:Nat} {M:List (List Pr)} (w:Way B x i) (h:Sep B M):delP M.flatten x=(M.take i).flatten ++ (delP (M.getD i []) x ++ (M.drop (i+1)).flatten):=by
 have hl:=h.len
 have hle:=w.le
 have hs:=getD_split M [] i (by omega)
 have e:M.flatten=(M.take i).flatten ++ (M.getD i [] ++ (M.drop (i+1)).flatten):=by
  rw[<-List.flatten_cons,<-List.flatten_append,<-hs]
 rw[e,delP_app,delP_app,delP_none (fun p hp=>ltK_ne (w.ahead h p hp)),delP_none (fun p hp=>(ltK_ne (w.behind h p hp)).symm)]
theorem delP_fst {x:ByteArray} {l:List Pr} {k:Nat} (ri:Rise l) (_f:Fst (l.map (·.1)) x k) (hk:k<l.length) (he:(l.getD k default).1=x):l.take k ++ l.drop (k+1)=delP l x:=by
 have hs:=getD_split l default k hk
 have h2:Rise (l.take k ++ l.getD k default :: l.drop (k+1)):=by rw[<-hs];exact ri
 obtain⟨_,h3,h4⟩:=List.pairwise_append.1 h2
 obtain⟨h5,_⟩:=List.pairwise_cons.1 h3
 conv=>rhs;rw[hs]
 rw[delP_app,delP_none (l:=l.take k) (fun p hp=>by rw[<-he];exact ltK_ne (h4 p hp _ (List.mem_cons_self ..)))]
 congr 1
 unfold delP
 rw[List.filter_cons_of_neg (by rw[he];simp)]
 exact(delP_none fun p hp=>by rw[<-he];exact(ltK_ne (h5 p hp)).symm).symm
theorem delP_len {x:ByteArray} {l:List Pr} {v:Nat} (ri:Rise l) (h:(x,v)∈l):(delP l x).length+1=l.length:=by
 obtain⟨k,hk,e⟩:=List.getElem_of_mem h
 have hs:l=l.take k ++ (x,v) :: l.drop (k+1):=by rw[<-e,List.getElem_cons_drop,List.take_append_drop]
 have h2:Rise (l.take k ++ (x,v) :: l.drop (k+1)):=by rw[<-hs];exact ri
 obtain⟨_,h3,h4⟩:=List.pairwise_append.1 h2
 obtain⟨h5,_⟩:=List.pairwise_cons.1 h3
 have e2:delP l x=l.take k ++ l.drop (k+1):=by
  conv=>lhs;rw[hs]
  rw[delP_app,delP_none (l:=l.take k) (fun p hp=>ltK_ne (h4 p hp _ (List.mem_cons_self ..)))]
  congr 1
  unfold delP
  rw[List.filter_cons_of_neg (by simp)]
  exact delP_none fun p hp=>(ltK_ne (h5 p hp)).symm
 rw[e2,List.length_append,List.length_take,List.length_drop]
 omega
theorem sep_replaceG {B:List ByteArray} {i j:Nat} {M:List (List Pr)} {B':List ByteArray} {M':List (List Pr)} (h:Sep B M) (hij:i<j) (hj:j<=M.length) (h':Sep B' M') (hm:∀p∈M'.flatten,p∈((M.take j).drop i).flatten):Sep (B.take i ++ (B' ++ B.drop (j - 1))) (M.take i ++ (M' ++ M.drop j)):=by
 have hl:=h.len
 have hR:Sep (B' ++ B.drop (j - 1)) (M' ++ M.drop j):=by
  by_cases h0:j - 1<B.length
  ·have h2:=h
   rw[getD_split B default (j - 1) h0,<-List.take_append_drop j M] at h2
   obtain⟨_,s2,s3,s4⟩:=sep_split (by simp;omega) h2
   rw[show j - 1+1=j by omega] at s2
   rw[show B.drop (j - 1)=B.getD (j - 1) default :: B.drop j by
    have:B.getD (j - 1) default=B[j - 1]:=by simp[List.getD,List.getElem?_eq_getElem h0]
    rw[this,<-List.getElem_cons_drop h0,show j - 1+1=j by omega]]
   refine sep_join s2 s4 h' fun p hp=>s3 p ?_
   have:=hm p hp
   obtain⟨m,h1,h2⟩:=List.mem_flatten.1 this
   exact List.mem_flatten.2 ⟨m,List.mem_of_mem_drop h1,h2⟩
  ·rw[List.drop_eq_nil_of_le (by omega),List.drop_eq_nil_of_le (by omega),List.append_nil,List.append_nil]
   exact h'
 by_cases h0:i=0
 ·subst h0
  simpa using hR
 ·have h2:=h
  rw[getD_split B default (i - 1) (by omega),<-List.take_append_drop i M] at h2
  obtain⟨s1,_,s3,s4⟩:=sep_split (by simp;omega) h2
  have e1:B.take i=B.take (i - 1) ++ [B.getD (i - 1) default]:=by
   have:B.getD (i - 1) default=B[i - 1]:=by simp[List.getD,List.getElem?_eq_getElem (show i - 1<B.length by omega)]
   rw[this,List.take_append_getElem,show i - 1+1=i by omega]
  rw[e1,List.append_assoc]
  refine sep_join hR (fun p hp=>?_) s1 s3
  rw[List.flatten_append] at hp
  rcases List.mem_append.1 hp with hp | hp
  ·refine s4 p ?_
   obtain⟨m,h1,h2⟩:=List.mem_flatten.1 (hm p hp)
   rw[List.drop_take] at h1
   exact List.mem_flatten.2 ⟨m,List.mem_of_mem_take h1,h2⟩
  ·refine s4 p ?_
   obtain⟨m,h1,h2⟩:=List.mem_flatten.1 hp
   refine List.mem_flatten.2 ⟨m,?_,h2⟩
   rw[show j=i+(j - i) by omega,<-List.drop_drop] at h1
   exact List.mem_of_mem_drop h1
theorem sep_without {B:List ByteArray} {i:Nat} {M:List (List Pr)} (h:Sep B M) (hi:i<M.length) (h2:2<=M.length):Sep (B.take (i - 1) ++ B.drop (i - 1+1)) (M.take i ++ M.drop (i+1)):=by
 have hl:=h.len
 by_cases h0:i=0
 ·subst h0
  have e:=h
  rw[getD_split B default 0 (by omega),<-List.take_append_drop 1 M] at e
  obtain⟨_,s2,_,_⟩:=sep_split (by simp;omega) e
  simpa using s2
 ·have e:=h
  rw[getD_split B default (i - 1) (by omega),<-List.take_append_drop i M] at e
  obtain⟨s1,s2,s3,s4⟩:=sep_split (by simp;omega) e
  rw[show i - 1+1=i by omega] at s2 ⊢
  by_cases hb:i<B.length
  ·have e2:=h
   rw[getD_split B default i hb,<-List.take_append_drop (i+1) M] at e2
   obtain⟨_,t2,t3,t4⟩:=sep_split (by simp;omega) e2
   rw[show B.drop i=B.getD i default :: B.drop (i+1) by
    have:B.getD i default=B[i]:=by simp[List.getD,List.getElem?_eq_getElem hb]
    rw[this,List.getElem_cons_drop]]
   refine sep_join t2 t4 s1 fun p hp=>t3 p ?_
   obtain⟨m,h1,h2⟩:=List.mem_flatten.1 hp
   refine List.mem_flatten.2 ⟨m,?_,h2⟩
   rw[<-List.take_append_getElem (by omega)]
   exact List.mem_append_left _ h1
  ·rw[List.drop_eq_nil_of_le (show M.length<=i+1 by omega),List.drop_eq_nil_of_le (show B.length<=i by omega),List.append_nil,List.append_nil]
   exact s1
section
variable {T:Nat->List Pr->List Nat->Prop} {B B':List ByteArray} {ks ks':List (Nat×List Pr×List Nat)} {l l':List Pr} {Q Q':List Nat}
theorem flat_in {α β : Type} {g : α->List β} {L M:List α} (h:∀a∈L,a∈M) {u : β} (hu:u∈(L.map g).flatten):u∈(M.map g).flatten:=by
 obtain⟨r,hr,hu⟩:=List.mem_flatten.1 hu
 obtain⟨k,hk,rfl⟩:=List.mem_map.1 hr
 exact List.mem_flatten.2 ⟨_,List.mem_map.2 ⟨k,h k hk,rfl⟩,hu⟩
theorem For.repl {i j:Nat} (F:For T B ks l Q) (hij:i<j) (hj:j<=ks.length) (F':For T B' ks' l' Q') (hm:∀p∈l',p∈(((ks.take j).drop i).map (·.2.1)).flatten) :
  ∃Q2,For T (B.take i ++ B' ++ B.drop (j - 1)) (ks.take i ++ ks' ++ ks.drop j) (((ks.take i).map (·.2.1)).flatten ++ (l' ++ ((ks.drop j).map (·.2.1)).flatten)) Q2/\∀u∈Q2,u∈Q\/u∈Q':=by
 obtain⟨f1,f2,f3,f4,f5⟩:=F
 obtain⟨g1,g2,g3,g4,g5⟩:=F'
 refine⟨_,⟨fun k hk=>?_,?_,rfl,?_,(f5.take i).app g5 |>.app (f5.drop (j - 1))⟩,fun u hu=>?_⟩
 ·rcases List.mem_append.1 hk with hk | hk
  ·rcases List.mem_append.1 hk with hk | hk
   ·exact f1 k (List.mem_of_mem_take hk)
   ·exact g1 k hk
  ·exact f1 k (List.mem_of_mem_drop hk)
 ·rw[List.map_append,List.map_append,List.flatten_append,List.flatten_append,<-g2,List.append_assoc]
 ·rw[List.map_append,List.map_append,List.map_take,List.map_drop,List.append_assoc,List.append_assoc]
  refine sep_replaceG f4 hij (by simpa using hj) g4 (fun p hp=>?_)
  rw[<-g2] at hp
  have:=hm p hp
  rwa [List.map_drop,List.map_take] at this
 ·rw[List.map_append,List.map_append,List.flatten_append,List.flatten_append] at hu
  rcases List.mem_append.1 hu with hu | hu
  ·rcases List.mem_append.1 hu with hu | hu
   ·exact .inl (by rw[f3];exact flat_in (fun a ha=>List.mem_of_mem_take ha) hu)
   ·rw[<-g3] at hu
    exact .inr hu
  ·exact .inl (by rw[f3];exact flat_in (fun a ha=>List.mem_of_mem_drop ha) hu)
theorem For.gone {i:Nat} (F:For T B ks l Q) (hi:i<ks.length) (h2:2<=ks.length) :
  ∃Q2,For T (B.take (i - 1) ++ B.drop (i - 1+1)) (ks.take i ++ ks.drop (i+1)) (((ks.take i).map (·.2.1)).flatten ++ ((ks.drop (i+1)).map (·.2.1)).flatten) Q2/\∀u∈Q2,u∈Q:=by
 obtain⟨f1,f2,f3,f4,f5⟩:=F
 refine⟨_,⟨fun k hk=>?_,?_,rfl,?_,(f5.take _).app (f5.drop _)⟩,fun u hu=>?_⟩
 ·rcases List.mem_append.1 hk with hk | hk
  ·exact f1 k (List.mem_of_mem_take hk)
  ·exact f1 k (List.mem_of_mem_drop hk)
 ·rw[List.map_append,List.flatten_append]
 ·rw[List.map_append,List.map_take,List.map_drop]
  exact sep_without f4 (by simpa using hi) (by simpa using h2)
 ·rw[List.map_append,List.flatten_append] at hu
  rw[f3]
  rcases List.mem_append.1 hu with hu | hu
  ·exact flat_in (fun a ha=>List.mem_of_mem_take ha) hu
  ·exact flat_in (fun a ha=>List.mem_of_mem_drop ha) hu
theorem For.join {B2:List ByteArray} {ks2:List (Nat×List Pr×List Nat)} {l2:List Pr} {Q2:List Nat} {x:ByteArray} (F:For T B ks l Q) (F2:For T B2 ks2 l2 Q2) (hb:Blw l x) (hn:Nbl l2 x) (hx:1<=x.size/\x.size<=80):For T (B ++ x :: B2) (ks ++ ks2) (l ++ l2) (Q ++ Q2):=by
 obtain⟨f1,f2,f3,f4,f5⟩:=F
 obtain⟨g1,g2,g3,g4,g5⟩:=F2
 refine⟨fun k hk=>(List.mem_append.1 hk).elim (f1 k) (g1 k),?_,?_,?_,?_⟩
 ·rw[f2,g2,List.map_append,List.flatten_append]
 ·rw[f3,g3,List.map_append,List.flatten_append]
 ·rw[List.map_append]
  refine sep_join g4 ?_ f4 ?_
  ·rw[<-g2];exact hn
  ·rw[<-f2];exact hb
 ·intro k hk
  rcases List.mem_append.1 hk with hk | hk
  ·exact f5 k hk
  ·rcases List.mem_cons.1 hk with rfl | hk
   ·exact hx
   ·exact g5 k hk
end
end
end Go.Proofs.YtbiopjmpdhcjgaaGreatDoor
