/- Joined: Ui Uj GLq. -/
import Derived.Maps.AppendAt
import Derived.Test.YtbiopjmpdhcjgaaGreatDoorZ07
import Derived.Test.YtbiopjmpdhcjgaaGreatDoorZ08
import Derived.Test.YtbiopjmpdhcjgaaGreatDoorZ13
import Derived.Test.YtbiopjmpdhcjgaaGreatDoorZ24
namespace Go.Proofs.YtbiopjmpdhcjgaaGreatDoor
open Go.RowKit
set_option maxHeartbeats 4000000
set_option linter.unusedSimpArgs false

section
def litU (nu u:Nat):Lit:=Lit.int .u64 ((fi nu+8 * u:Nat):Int)
def seenD (nu:Nat) (acc:List Nat):DataW Unit:=Maps.setOf (.agg []) (acc.map (litU nu))
structure Pz (nu lo mb bL:Nat) (w:World) (acc:List Nat) (v:Value):Prop where
 map:w.ownsMap Tryz.prog 27 (unitElem (H:=Unit)) mb acc.length (seenD nu acc)
 obj:w.heap[bL]? = some (.cells #[v] 45 (0,0))
 row:w.ownsRow lo 3 1 v acc.length (acc.map fun u=>.int .i64 ((fi nu+8 * u:Nat):Int))
 n1:∀k,v.ownBlock=some k->k≠bL/\k≠mb
 n2:bL≠mb
section
variable {nu sz lo mb bL:Nat} {w w' w0:World} {hb sb b:Nat} {T:Tay} {A:Ab} {P:List (Int×Int)} {acc:List Nat} {v:Value}
theorem Pz.ltm (z:Pz nu lo mb bL w acc v):mb<w.heap.size:=by
 obtain⟨es,cl,h,_⟩:=z.map
 exact(Array.getElem?_eq_some_iff.1 h).1
theorem Pz.ltl (z:Pz nu lo mb bL w acc v):bL<w.heap.size:=(Array.getElem?_eq_some_iff.1 z.obj).1
theorem Pz.still (z:Pz nu lo mb bL w acc v) (f:St w w'):Pz nu lo mb bL w' acc v:=
 ⟨ownsMap_block z.map (f.block _ z.ltm id) f.size,f.obj z.obj id,own_still z.row f,z.n1,z.n2⟩
def Pzf (mb bL:Nat) (v:Value) (k:Nat):Prop:=k=mb\/k=bL\/v.ownBlock=some k
theorem seen_no (acc:List Nat) (u:Nat) (h:u ∉ acc):Maps.has (seenD nu acc) (litU nu u)=false:=by
 unfold seenD
 rw[Maps.has_setOf _ _ _ (by intro y hy;obtain⟨v,_,rfl⟩:=List.mem_map.1 hy;trivial),List.any_eq_false]
 intro y hy
 obtain⟨v,hv,rfl⟩:=List.mem_map.1 hy
 simp[litU,Lit.sameKey]
 intro e
 have:v=u:=by omega
 exact h (this▸hv)
theorem Pz.more {w1 w2:World} {v':Value} {u:Nat} (z:Pz nu lo mb bL w acc v) (m1:w1.ownsMap Tryz.prog 27 (unitElem (H:=Unit)) mb (acc.length+1) (DataW.put (seenD nu acc) (litU nu u) (DataW.agg []))) (f1:Fr (fun k=>k=mb) w w1)
  (r2:w2.ownsRow lo 3 1 v' (acc.length+1) ((acc.map fun u=>Value.int .i64 ((fi nu+8 * u:Nat):Int)) ++ [.int .i64 ((fi nu+8 * u:Nat):Int)])) (f2:Fr (fun k=>v.ownBlock=some k) w1 w2) (hloc:v'.ownBlock=v.ownBlock\/∃k,v'.ownBlock=some k/\w1.heap.size<=k) :
  Pz nu lo mb bL (w2.setCell ⟨bL,0,none⟩ v') (acc ++ [u]) v'/\w2.heap[bL]? = some (.cells #[v] 45 (0,0))/\Fr (Pzf mb bL v) w (w2.setCell ⟨bL,0,none⟩ v'):=by
 have hl:=z.ltl
 have hm:=z.ltm
 have nb:v.ownBlock≠some bL:=fun e=>(z.n1 _ e).1 rfl
 have nm:v.ownBlock≠some mb:=fun e=>(z.n1 _ e).2 rfl
 have o2:w2.heap[bL]? = some (.cells #[v] 45 (0,0)):=f2.obj (f1.obj z.obj z.n2) nb
 have nv:∀k,v'.ownBlock=some k->k≠bL/\k≠mb:=fun k hk=>by
  rcases hloc with h | ⟨k',h,h1⟩
  ·rw[h] at hk;exact z.n1 k hk
  ·rw[h] at hk
   cases hk
   have:=f1.size
   exact⟨by omega,by omega⟩
 have m1':mb<w1.heap.size:=by have:=f1.size;omega
 have m2:=ownsMap_block m1 (f2.block _ m1' nm) f2.size
 have m3:=ownsMap_block m2 (w':=w2.setCell ⟨bL,0,none⟩ v') (Below.heap_setCell _ _ _ _ (fun e=>z.n2 e.symm)) (by simp)
 refine⟨⟨?_,heap_setCell_same w2 bL 0 _ _ v' o2,?_,nv,z.n2⟩,o2,?_⟩
 ·unfold seenD
  rw[List.map_append,List.map_singleton,Maps.setOf_snoc,List.length_append,List.length_singleton]
  exact m3
 ·rw[List.map_append,List.map_singleton,List.length_append,List.length_singleton]
  exact ownsRow_setCell_other r2 (fun e=>(nv _ e).1 rfl) _
 ·refine Fr.setCell ?_ (.inl (.inr (.inl rfl))) _
  exact(f1.mono (G:=Pzf mb bL v) (fun k hk=>.inl (.inl hk))).trans' f2 (fun k hk=>.inl (.inr (.inr hk)))
structure Pv (w:World) (hb sb bS bM bH bL bT mb:Nat):Prop where
 s:w.cell? ⟨bS,0,none⟩=some (ptr sb)
 m:w.cell? ⟨bM,0,none⟩=some (.map (some mb))
 h:w.cell? ⟨bH,0,none⟩=some (ptr hb)
 t:w.cell? ⟨bT,0,none⟩=some (.func (.func 68) #[] #[ptr bS,ptr bM,ptr bH,ptr bL,ptr bT])
theorem Pv.kept {bS bM bH bT:Nat} (p:Pv w hb sb bS bM bH bL bT mb) {F:Nat->Prop} (f:Fr F w w') (h1:¬F bS) (h2:¬F bM) (h3:¬F bH) (h4:¬F bT):Pv w' hb sb bS bM bH bL bT mb:=
 ⟨f.cell' p.s h1,f.cell' p.m h2,f.cell' p.h h3,f.cell' p.t h4⟩
set_option maxRecDepth 100000 in
theorem y_piecesC {bS bM bH bT:Nat} (s:HpS nu (says P A)) (hnS:bS≠mb/\bS≠bL) (hnM:bM≠mb/\bM≠bL) (hnH:bH≠mb/\bH≠bL) (hnT:bT≠mb/\bT≠bL):∀(h:Nat) {w:World} {u:Nat} {l:List Pr} {Q acc:List Nat} {v:Value} (ht:Nat),Hp nu sz w hb sb b T A P->(¬tfoot sb b T mb/\¬tfoot sb b T bL/\mb≠hb/\bL≠hb/\mb≠0/\bL≠0)->(∀k,v.ownBlock=some k->lo<=k)->(∀k,tfoot sb b T k->k<lo)->(hb<lo/\0<lo/\bS<lo/\bM<lo/\bH<lo/\bT<lo/\bL<lo/\mb<lo)->Pv w hb sb bS bM bH bL bT mb->Pz nu lo mb bL w acc v->lo<=w.heap.size->Tr nu sz (says P A) h u l Q->(ht=0\/ht=h)->Q.Nodup->(∀x∈Q,x ∉ acc)->acc.length+Q.length<=900->
  Calls Tryz.prog 68 #[.int .u64 ((fi nu+8 * u:Nat):Int),.int .i64 ht,ptr bS,ptr bM,ptr bH,ptr bL,ptr bT] w fun e w'=>e = .returned (.tuple #[])/\∃v',Pz nu lo mb bL w' (acc ++ Q) v'/\Fr (Pzf mb bL v) w w'/\(v'.ownBlock=v.ownBlock\/∃k,v'.ownBlock=some k/\w.heap.size<=k):=by
 intro h
 induction h with
 | zero=>intro w u l Q acc v ht _ _ _ _ _ _ _ _ t;exact t.elim
 | succ h ih=>
  intro w u l Q acc v ht hp hnn hlo hft hlt pv pz hsw t hht hnd hdis hlen
  obtain⟨n,Q',st,un,rfl⟩:=t
  have geo:=hp.hp.geo.b
  have f0:=fi_eight nu
  have hsd:n.size=hsz n.items.length (kb n.keys):=rfl
  have hr:n.items.length<=32/\kb n.keys<=300:=by have:=st.le;rw[hsd] at this;unfold hsz need at this;omega
  have HA:=y_headAt hp (fi nu+8 * u) n.high n.items.length (kb n.keys) (by omega) (by omega) st.fit st.ok.h1 st.ok.h16 (by omega) (by omega) (by rw[<-hsd];exact st.le) (st.wd 0 _ rfl)
  have SZ:=y_size n.high n.items.length (kb n.keys) (by omega) (by omega)
  have hua:u ∉ acc:=hdis u (List.mem_cons_self ..)
  have hsn:=seen_no (nu:=nu) acc u hua
  have hhi:n.high=h+1:=un.hi
  have hb0:(((ht:Int) == 0)=true)\/((((ht:Int) == 0)=false)/\(((h+1:Nat):Int) == (ht:Int))=true):=by
   rcases hht with rfl | rfl
   ·exact .inl rfl
   ·exact .inr ⟨by simp;omega,by simp⟩
  have zu:∀w,(zeroValue 119).run Tryz.prog w = .ok (.agg #[]) w:=fun w=>by kernel_rfl
  have h16:h+1<=16:=by rw[<-hhi];exact st.ok.h16
  have hpz:fi nu+8 * u<60000:=by have:=st.fit;omega
  have wfu:(Lit.int .u64 ((fi nu+8 * u:Nat):Int)).wf=true:=WalkArith.wf_u64 (by omega)
  unfold hdV at HA SZ
  rw[hhi] at HA SZ
  rw[<-hsd] at SZ
  have TK:∀w1,Hp nu sz w1 hb sb b T A P->Calls Tryz.prog 70 #[ptr hb,.int .i64 ((fi nu+8 * u:Nat):Int)] w1 fun e w'=>e = .returned (.bool true)/\St w1 w':=fun w1 h1=>by
   exact y_taken h1 s u st.ak
  have hit:n.items.length<256:=by omega
  obtain⟨it,eit⟩:∃it,n.items.length=it:=⟨_,rfl⟩
  obtain⟨bt,ebt⟩:∃bt,kb n.keys=bt:=⟨_,rfl⟩
  obtain⟨ns,ens⟩:∃ns,n.size=ns:=⟨_,rfl⟩
  rw[eit,ebt] at HA SZ
  rw[ens] at SZ
  have HTK:=@Hd _ TK
  have HC:=Hd (ai hp (ai hnn (ai hlo (ai hft (ai hlt (ai pv (ai pz (ai hsw (ai st (ai un (ai hnd (ai hdis (ai hlen eit)))))))))))))
  have ih':=fun(w:World) (u:Nat) (l:List Pr) (Q acc:List Nat) (v:Value) (ht:Nat)=>@ih w u l Q acc v ht
  have HIH:=@Hd _ ih'
  have dS:=pv.s
  have dM:=pv.m
  have dH:=pv.h
  have dT:=pv.t
  have hal:acc.length<maxLen:=by simp at hlen;unfold maxLen;omega
  have wpz:IntKind.i64.wrap ((fi nu+8 * u:Nat):Int)=((fi nu+8 * u:Nat):Int):=(wrap_small _ (by omega) (by omega)).1
  obtain⟨pz0,epz⟩:∃p,fi nu+8 * u=p:=⟨_,rfl⟩
  have HP:=Hd epz
  have hkey:litU nu u=Lit.int .u64 (pz0:Int):=by unfold litU;rw[epz]
  rw[epz] at HA HTK wfu wpz ⊢
  rw[hkey] at hsn
  clear TK ih ih' hp hnn hlo hft hlt pv pz hsw st un hnd hdis hlen eit ebt ens hr hsd hhi hht geo f0 hua epz hkey hit
  rcases hb0 with e0 | ⟨e0,e1⟩
  all_goals
   go_enter Tryz.func68,Tryz.ntmps68
   go_wp2_with fail
   refine HA.mono ?_
   rintro e w1 ⟨rfl,f1⟩
   obtain⟨W2,hW2⟩:∃W2,w1.alloc (.cells #[.int .i64 ((h+1:Nat):Int),.int .i64 it,.int .i64 bt] 105)=W2:=⟨_,rfl⟩
   obtain⟨W3,hW3⟩:∃W3,W2.alloc (.cells #[] 119)=W3:=⟨_,rfl⟩
   have f2:St w1 W2:=hW2▸(Fr.refl _ w1).alloc _
   have f3:St W2 W3:=hW3▸(Fr.refl _ W2).alloc _
   have f02:St w W2:=f1.trans' f2 nE
   have f03:St w W3:=f02.trans' f3 nE
   have oD:W2.heap[w1.heap.size]? = some (.cells #[.int .i64 ((h+1:Nat):Int),.int .i64 it,.int .i64 bt] 105 (0,0)):=hW2▸heap_alloc_new w1 _
   have m2:=((uh HC).2.2.2.2.2.2.1.still f02).map
   have m3:=((uh HC).2.2.2.2.2.2.1.still f03).map
   have dM2:=f02.cell' dM id
   have dM3:=f03.cell' dM id
   rw[<-hW3] at dM3
   have dd0:W2.cell? ⟨w1.heap.size,0,none⟩=some (.int .i64 ((h+1:Nat):Int)):=cOo oD 0
   have HW:=Hd (ai hW2 hW3)
   have HF:=Hd (ai f03 (ai (f3.obj oD id) (ai (Nat.le_trans (Nat.le_refl _) f1.size) (Nat.le_trans f2.size f3.size))))
   clear hW2 hW3 f1 f2 f3 f02 f03 oD HA dM
   generalize hhq:h+1=hq at *
   go_upto_region 5 with (first | (rw[(uh HW).1];go_at_call 69;refine(y_must _).mono ?_;rintro e w' ⟨rfl,hh⟩;replace hh:=hh.symm;subst hh) | (at_lookup;refine wpList_lookup_own_unit _ rfl _ _ 116 rfl 27 119 (Maps.int_keyed Tryz.underlying27) Tryz.underlying116 (zu _) mb acc.length (seenD nu acc) rfl m2 _ (Lit.int .u64 (pz0:Int)) rfl (Maps.keyOf_int_mk Tryz.underlying27 wfu) ?_;rw[hsn]) | (rw[(uh HW).2];at_mapUpdate;refine wpList_mapUpdate_own _ rfl _ _ _ 116 rfl 27 119 (Maps.int_keyed Tryz.underlying27) Tryz.underlying116 _ mb acc.length _ rfl m3 hal _ _ (Lit.int .u64 (pz0:Int)) rfl rfl (Maps.keyOf_int_mk Tryz.underlying27 wfu) (.agg []) [] unitElem_mk ?_;intro w4 hown4 hgrow4) | fail)
   clear dM2 dM3 m2 m3 dd0 HW zu hsn
   obtain⟨f03,oD3,hs1,hs2⟩:=uh HF
   have fm4:Fr (fun k=>k=mb) W3 w4:=(Fr.refl _ W3).grown hgrow4 (fun j e=>.inl (by cases e;rfl))
   obtain⟨hp,hnn,hlo,hft,hlt,pv,pz,hsw,st,un,hnd,hdis,hlen,eit⟩:=uh HC
   obtain⟨gD,hgD⟩:∃g,w1.heap.size=g:=⟨_,rfl⟩
   rw[hgD] at oD3 hs1 hs2
   have gnm:gD≠mb:=by omega
   have oD4:=fm4.obj oD3 gnm
   have hp4:Hp nu sz w4 hb sb b T A P:=(hp.still f03).turn fm4 (fun k hk=>by rw[hk];exact hnn.1) (fun e=>by have:=hnn.2.2.1;omega) (fun e=>by have:=hnn.2.2.2.2.1;omega)
   have dH4:=fm4.cell' (f03.cell' dH id) hnH.1
   have e40:w4.cell? ⟨gD,0,none⟩=some (.int .i64 (hq:Int)):=cOo oD4 0
   have e41:w4.cell? ⟨gD,1,none⟩=some (.int .i64 it):=cOo oD4 1
   have e42:w4.cell? ⟨gD,2,none⟩=some (.int .i64 bt):=cOo oD4 2
   have HP4:=Hd (ai hp4 (ai fm4 (ai hown4 oD4)))
   clear hp hnn hlo hft hlt pv pz hsw st un hnd hdis hlen eit fm4 hown4 hgrow4 oD3 oD4 hp4 f03 hs1 hs2 gnm
   rw[hgD]
   go_wp2_with fail
   (try rw[wpz])
   refine(uh HTK w4 (uh HP4).1).mono ?_
   rintro e w6 ⟨rfl,f46⟩
   go_wp2_with fail
   refine(y_must _).mono ?_
   rintro e w7 ⟨rfl,e7⟩
   subst e7
   obtain⟨f03,oD3,hs1,hs2⟩:=uh HF
   rw[hgD] at oD3 hs1 hs2
   obtain⟨hp,hnn,hlo,hft,hlt,pv,pz,hsw,st,un,hnd,hdis,hlen,eit⟩:=uh HC
   obtain⟨hp4,fm4,hown4,oD4⟩:=uh HP4
   have z3:=pz.still f03
   have fm7:Fr (fun k=>k=mb) W3 w7:=fm4.trans' f46 nE
   have nm:v.ownBlock≠some mb:=fun e=>(z3.n1 _ e).2 rfl
   have nb:v.ownBlock≠some bL:=fun e=>(z3.n1 _ e).1 rfl
   have row7:w7.ownsRow lo 3 1 v acc.length (acc.map fun u=>.int .i64 ((fi nu+8 * u:Nat):Int)):=owns_same z3.row fun k hk=>fm7.block k (z3.row.lt k hk).2 (fun e=>nm (e▸hk))
   have m7:=ownsMap_block hown4 (f46.block _ (Nat.lt_of_lt_of_le z3.ltm fm4.size) id) f46.size
   have hs37:=fm7.size
   have hacc:acc.length<=900:=by simp at hlen;omega
   obtain⟨v8,w8,hap,r8,f8,hloc8⟩:=run_val infoN rfl (by decide) Tryz.underlying45 w7 lo v acc.length _ row7 (.int .i64 (pz0:Int)) rfl (by omega) (by have:=f03.size;omega)
   have epz:=uh HP
   have PM:=z3.more (u:=u) (w1:=w7) (w2:=w8) (v':=v8) (by unfold litU;rw[epz];exact m7) fm7 (by rw[epz];exact r8) f8 (hloc8.imp id (fun x=>⟨_,x,by omega⟩))
   have nv8:∀k,v8.ownBlock=some k->k≠gD/\lo<=k:=fun k hk=>by
    refine⟨?_,(r8.lt k hk).1⟩
    rcases hloc8 with e | e
    ·rw[e] at hk
     have:=(pz.row.lt k hk).2
     omega
    ·rw[e] at hk
     have:w7.heap.size+1=k:=by simpa using hk
     omega
   have hvl:v8.ownBlock=v.ownBlock\/∃k,v8.ownBlock=some k/\W3.heap.size<=k:=hloc8.imp id (fun x=>⟨_,x,by omega⟩)
   obtain⟨a8,c8,rfl⟩:=rows_form r8
   have c7:w7.cell? ⟨bL,0,none⟩=some v:=cOo (fm7.obj z3.obj z3.n2) 0
   have c8b:w8.cell? ⟨bL,0,none⟩=some v:=cOo PM.2.1 0
   have z8:w8.frozen? ⟨bL,0,none⟩=false:=by simp[World.frozen?,PM.2.1]
   obtain⟨w9,hw9⟩:∃w9,w8.setCell ⟨bL,0,none⟩ (.slice a8 (acc.length+1) c8)=w9:=⟨_,rfl⟩
   rw[hw9] at PM
   obtain⟨z9,o8,f39⟩:=PM
   have hnf:∀k,Pzf mb bL v k->k<w.heap.size:=fun k hk=>by
    rcases hk with rfl | rfl | hk
    ·exact pz.ltm
    ·exact pz.ltl
    ·exact(pz.row.lt k hk).2
   have gnf:¬Pzf mb bL v gD:=fun x=>by have:=hnf _ x;omega
   have oD9:=f39.obj oD3 gnf
   have e90:w9.cell? ⟨gD,0,none⟩=some (.int .i64 (hq:Int)):=cOo oD9 0
   have e91:w9.cell? ⟨gD,1,none⟩=some (.int .i64 it):=cOo oD9 1
   rw[<-hw9] at e90 e91
   have HAP:=Hd hap;have HW9:=Hd hw9
   have HQ:=Hd (ai z9 (ai f39 (ai oD9 (ai nv8 (ai hvl (ai hnf gnf))))))
   clear hp hnn hlo hft hlt pv pz hsw st un hnd hdis hlen eit hp4 fm4 hown4 oD4 z3 fm7 nm nb row7 m7 r8 f8 hloc8 hap hw9 z9 f39 oD9 oD3 o8 f46 f03 hs37 dH4 e40 e41 e42 SZ hvl nv8 epz hnf gnf hs1 hs2
   by_cases hq1:hq=1
   ·have g1:((1:Int)<(hq:Int))=False:=eq_false (by omega)
    go_wp2_with (first | (at_builtin;refine wpList_append_run rfl (.tmp 40) (.tmp 43) 45 rfl _ _ rfl rfl _ w8 (uh HAP) ?_) | fail)
    rw[uh HW9]
    go_end0
    obtain⟨z9,f39,oD9,nv8,hvl,hnf,gnf⟩:=uh HQ
    obtain⟨hp,hnn,hlo,hft,hlt,pv,pz,hsw,st,un,hnd,hdis,hlen,eit⟩:=uh HC
    obtain⟨f03,_⟩:=uh HF
    have hQ:Q' = []:=by
     rcases un with ⟨_,_,_,rfl⟩ | ⟨h2,_⟩
     ·rfl
     ·omega
    subst hQ
    exact⟨rfl,_,z9,(f03.mono (G:=Pzf mb bL v) (fun _ hk=>hk.elim)).trans' f39 (fun k hk=>.inl hk),hvl.imp id (fun⟨k,x,y⟩=>⟨k,x,Nat.le_trans f03.size y⟩)⟩
   ·have g1:((1:Int)<(hq:Int))=True:=eq_true (by omega)
    have hi32:it<=32:=by
     obtain⟨hp,hnn,hlo,hft,hlt,pv,pz,hsw,st,un,hnd,hdis,hlen,eit⟩:=uh HC
     have h1:=st.le
     have h2:n.size=hsz n.items.length (kb n.keys):=rfl
     rw[h2] at h1
     unfold hsz need at h1
     omega
    obtain⟨ks,hks,hkQ⟩:∃ks:List (Nat×List Pr×List Nat),ks.length=it/\Q'=(ks.map (·.2.2)).flatten/\(∀k∈ks,Tr nu sz (says P A) h k.1 k.2.1 k.2.2)/\∀j kk,ks[j]? = some kk->says P A (fi nu+8 * u+1+j)=((itN (fi nu+8 * kk.1) kk.2.1.length:Nat):Int)/\fi nu+8 * kk.1<4294967296/\kk.2.1.length<2147483648:=by
     obtain⟨hp,hnn,hlo,hft,hlt,pv,pz,hsw,st,un,hnd,hdis,hlen,eit⟩:=uh HC
     rcases un with ⟨e,_⟩ | ⟨h2,B,ks,rfl,fo⟩
     ·omega
     ·refine⟨ks,by rw[<-eit];simp[Nd.items],fo.2.2.1,fo.1,fun j kk hj=>?_⟩
      have hb2:=st.ok.form.2.2.2 (kidN nu kk) (List.mem_map.2 ⟨kk,List.mem_of_getElem? hj,rfl⟩)
      refine⟨?_,hb2.1,hb2.2⟩
      have:=st.wd (1+j) (itN (fi nu+8 * kk.1) kk.2.1.length) (by
       unfold Nd.wds
       rw[Nat.add_comm 1 j,List.getElem?_cons_succ,List.getElem?_append_left (by simp[Nd.items];exact(List.getElem?_eq_some_iff.1 hj).1)]
       simp[Nd.items,hj,kidN])
      rw[<-Nat.add_assoc] at this
      exact this
    obtain⟨hkQ,hkT,hkW⟩:=hkQ
    have HKQ:=Hd (ai hkQ (ai hkT hkW))
    clear hkQ hkT hkW
    go_wp2_with (first | (at_builtin;refine wpList_append_run rfl (.tmp 40) (.tmp 43) 45 rfl _ _ rfl rfl _ w8 (uh HAP) ?_) | fail)
    rw[uh HW9]
    clear HAP HW9 e90 e91 c7 c8b z8
    go_loopw [50] (fun iv wr=>∃(j:Nat) (v':Value),j<=it/\iv = .int .i64 j/\Pz nu lo mb bL wr (acc ++ [u] ++ ((ks.take j).map (·.2.2)).flatten) v'/\Fr (Pzf mb bL v) W3 wr/\(∀k,v'.ownBlock=some k->k≠gD/\lo<=k)/\(v'.ownBlock=v.ownBlock\/∃k,v'.ownBlock=some k/\W3.heap.size<=k)) (fun iv _=>it - (intOf iv).toNat)
    case atStart=>
     obtain⟨z9,f39,oD9,nv8,hvl,hnf,gnf⟩:=uh HQ
     exact⟨0,_,by omega,rfl,by simpa using z9,f39,nv8,hvl⟩
    case round=>
     obtain⟨j,v',hj,rfl,zr,fr,nvr,hvl⟩:=hrel
     generalize wr=wq at *
     clear wr
     by_cases hlt:j<it
     ·have hlt':(j:Int)<it:=by omega
      obtain⟨kk,hkk⟩:∃kk,ks[j]? = some kk:=⟨_,List.getElem?_eq_getElem (by omega)⟩
      obtain⟨hkQ,hkT,hkW⟩:=uh HKQ
      obtain⟨k1,k2,k3⟩:=hkW j kk hkk
      have tr1:=hkT kk (List.mem_of_getElem? hkk)
      obtain⟨z9,f39,oD9,nv8,_,hnf,gnf⟩:=uh HQ
      obtain⟨f03,oD3,hs1,hs2⟩:=uh HF
      rw[hgD] at oD3 hs1 hs2
      obtain⟨hp,hnn,hlo,hft,hlt2,pv,pz,hsw,st,un,hnd,hdis,hlen,eit⟩:=uh HC
      have npf:∀k,k<lo->k≠mb->k≠bL->¬Pzf mb bL v k:=fun k h1 h2 h3 x=>by
       rcases x with x | x | x
       ·exact h2 x
       ·exact h3 x
       ·have:=hlo k x;omega
      have hpf:Fr (Pzf mb bL v) w wq:=(f03.mono (G:=Pzf mb bL v) (fun _ hk=>hk.elim)).trans' fr (fun k hk=>.inl hk)
      have hpq:Hp nu sz wq hb sb b T A P:=hp.turn hpf (fun k hk x=>npf k (hft k x) (fun e=>hnn.1 (e▸x)) (fun e=>hnn.2.1 (e▸x)) hk) (npf hb hlt2.1 hnn.2.2.1.symm hnn.2.2.2.1.symm) (npf 0 hlt2.2.1 hnn.2.2.2.2.1.symm hnn.2.2.2.2.2.symm)
      have pvq:Pv wq hb sb bS bM bH bL bT mb:=pv.kept hpf (npf _ hlt2.2.2.1 hnS.1 hnS.2) (npf _ hlt2.2.2.2.1 hnM.1 hnM.2) (npf _ hlt2.2.2.2.2.1 hnH.1 hnH.2) (npf _ hlt2.2.2.2.2.2.1 hnT.1 hnT.2)
      have oDq:=fr.obj oD3 gnf
      have e0q:wq.cell? ⟨gD,0,none⟩=some (.int .i64 (hq:Int)):=cOo oDq 0
      have hfit:fi nu+8 * u+1+j<sz:=by
       have h1:=st.fit
       have h3:=st.le
       have h2:n.size=hsz n.items.length (kb n.keys):=rfl
       unfold hsz need at h2
       omega
      have LD:∀w',St wq w'->Calls Tryz.prog 59 #[ptr sb,.int .i64 ((pz0:Int)+1+j)] w' fun e w''=>e = .returned (.int .u64 ((itN (fi nu+8 * kk.1) kk.2.1.length:Nat):Int))/\w''=w':=fun w' f'=>by
       have:=(hpq.still f').load (fi nu+8 * u+1+j) hfit
       rw[k1] at this
       rw[show(pz0:Int)+1+j=((fi nu+8 * u+1+j:Nat):Int) by have:=uh HP;omega]
       exact this
      have KO:=fun w'=>y_kidOf (fi nu+8 * kk.1) kk.2.1.length k2 k3 w'
      have hsplit:(ks.map (·.2.2)).flatten=((ks.take j).map (·.2.2)).flatten ++ (kk.2.2 ++ ((ks.drop (j+1)).map (·.2.2)).flatten):=by
       have:=getD_split ks kk j (by omega)
       rw[show ks.getD j kk=kk by simp[List.getD,hkk]] at this
       conv=>lhs;rw[this]
       simp
      have hQn:(u :: ((ks.map (·.2.2)).flatten)).Nodup:=by rw[<-hkQ];exact hnd
      have IH:∀w',St wq w'->Calls Tryz.prog 68 #[.int .u64 ((fi nu+8 * kk.1:Nat):Int),.int .i64 (h:Int),ptr bS,ptr bM,ptr bH,ptr bL,ptr bT] w' _:=fun w' f'=>
       uh HIH w' kk.1 kk.2.1 kk.2.2 (acc ++ [u] ++ ((ks.take j).map (·.2.2)).flatten) v' h (hpq.still f') hnn (fun k hk=>(nvr k hk).2) hft hlt2 (pvq.kept f' id id id id) (zr.still f') (by have:=f03.size;have:=fr.size;have:=f'.size;omega) tr1 (.inr rfl) (by
        rw[hsplit] at hQn
        exact(List.nodup_append.1 (List.nodup_append.1 (List.nodup_cons.1 hQn).2).2.1).1) (fun y hy hm=>by
        rw[hsplit] at hQn
        rcases List.mem_append.1 hm with hm | hm
        ·rcases List.mem_append.1 hm with hm | hm
         ·refine hdis y ?_ hm
          rw[hkQ,hsplit]
          exact List.mem_cons_of_mem _ (List.mem_append_right _ (List.mem_append_left _ hy))
         ·rw[List.mem_singleton] at hm
          subst hm
          exact(List.nodup_cons.1 hQn).1 (List.mem_append_right _ (List.mem_append_left _ hy))
        ·exact(List.nodup_append.1 (List.nodup_cons.1 hQn).2).2.2 y hm y (List.mem_append_left _ hy) rfl) (by
        have h1:=hlen
        rw[hkQ,hsplit] at h1
        simp only[List.length_append,List.length_cons,List.length_nil] at h1 ⊢
        omega)
      have dSq:=pvq.s;have dTq:=pvq.t
      have HLD:=@Hd _ LD;have HKO:=@Hd _ KO;have HI:=@Hd _ IH
      have HZ:=Hd (ai zr (ai fr (ai nvr (ai hvl (ai oDq (ai gnf (ai hs1 (ai hs2 f03))))))))
      have wj1:IntKind.i64.wrap ((pz0:Int)+1)=(pz0:Int)+1:=(wrap_small _ (by have:=uh HP;omega) (by have:=uh HP;omega)).1
      have wj2:IntKind.i64.wrap ((pz0:Int)+1+j)=(pz0:Int)+1+j:=(wrap_small _ (by have:=uh HP;omega) (by have:=uh HP;omega)).1
      have wh1:IntKind.i64.wrap ((hq:Int) - 1)=(h:Int):=by rw[IntKind.wrap_i64];omega
      have t9:=fun w=>fld_kid (fi nu+8 * kk.1) kk.2.1.length w
      clear LD KO IH hp hnn hlo hft hlt2 pv pz hsw st un hnd hdis hlen eit npf hpf hpq pvq oDq hfit hsplit hQn hkQ hkT hkW k1 k2 k3 tr1 z9 f39 oD9 nv8 hnf gnf f03 oD3 hs1 hs2 zr fr nvr hvl
      go_wp2_with fail
      refine wp_region_held_drew (S:=fun w'=>w'.cell? ⟨bT,0,none⟩=some (.func (.func 68) #[] #[ptr bS,ptr bM,ptr bH,ptr bL,ptr bT])/\w'.cell? ⟨bS,0,none⟩=some (ptr sb)/\w'.cell? ⟨gD,0,none⟩=some (.int .i64 (hq:Int))) (by kernel_rfl) ⟨dTq,dSq,e0q⟩ (fun hHeld=>?_)
      refine tkO 0 (.func (.func 68) #[] #[ptr bS,ptr bM,ptr bH,ptr bL,ptr bT]) hHeld rfl ?_ ?_
      ·rintro w ⟨x0,x1,x2⟩;go_simp;try with_reducible rfl
      simp only[apt,List.set]
      refine tkO 1 (ptr sb) hHeld rfl ?_ ?_
      ·rintro w ⟨x0,x1,x2⟩;go_simp;try with_reducible rfl
      simp only[apt,List.set]
      refine tkO 2 ?_ hHeld rfl ?_ ?_
      rotate_left
      ·intro w q;go_simp;try with_reducible rfl
      simp only[apt,List.set]
      refine tkO 3 (.int .i64 (pz0:Int)) hHeld rfl ?_ ?_
      ·(intro w q;go_simp;first | done | (rw[wpz]) | (simp[wpz]))
      simp only[apt,List.set]
      refine tkO 4 (.int .i64 ((pz0:Int)+1)) hHeld rfl ?_ ?_
      ·(intro w q;go_simp;first | done | (rw[wj1]) | (simp[wj1]))
      simp only[apt,List.set]
      refine tkO 5 ?_ hHeld rfl ?_ ?_
      rotate_left
      ·intro w q;go_simp;try with_reducible rfl
      simp only[apt,List.set]
      refine tkO 6 (.int .i64 ((pz0:Int)+1+j)) hHeld rfl ?_ ?_
      ·(intro w q;go_simp;first | done | (rw[wj2]) | (simp[wj2]))
      simp only[apt,List.set]
      refine tkO 10 ?_ hHeld rfl ?_ ?_
      rotate_left
      ·intro w q;go_simp;try with_reducible rfl
      simp only[apt,List.set]
      refine tkO 11 (.int .i64 (hq:Int)) hHeld rfl ?_ ?_
      ·rintro w ⟨x0,x1,x2⟩;go_simp;try with_reducible rfl
      simp only[apt,List.set]
      refine tkO 12 (.int .i64 (h:Int)) hHeld rfl ?_ ?_
      ·(intro w q;go_simp;first | done | (rw[wh1]) | (simp[wh1]))
      simp only[apt,List.set]
      have fD:St wq wq.drew:=(Fr.refl _ wq).drewN 1
      refine rdO 7 rfl (fun K hK=>?_)
      go_simp
      go_wp2_with fail
      refine(uh HLD _ fD).mono ?_
      rintro e w2' ⟨rfl,e2⟩
      subst e2
      refine hK.out _ _ hHeld (fun _=>?_)
      clear hK K
      refine rdO 8 rfl (fun K hK=>?_)
      go_simp
      go_wp2_with fail
      refine(uh HKO _).mono ?_
      rintro e w3' ⟨rfl,f3'⟩
      have fq3:St wq w3':=fD.trans' f3' nE
      have hS3:=ai (fq3.cell' dTq id) (ai (fq3.cell' dSq id) (fq3.cell' e0q id))
      refine hK.out _ _ hS3 (fun _=>?_)
      clear hK K hHeld
      refine rdO 9 rfl (fun K hK=>?_)
      go_simp
      (try simp only[t9])
      (try go_simp)
      refine hK.out _ _ hS3 (fun _=>?_)
      clear hK K
      refine rdO 13 rfl (fun K hK=>?_)
      go_simp
      go_wp2_with fail
      refine(uh HI w3' fq3).mono ?_
      rintro e w5' ⟨rfl,v5,z5,f5',hl5⟩
      obtain⟨zr,fr,nvr,hvl,oDq,gnf,hs1,hs2,f03⟩:=uh HZ
      have nq:∀k,k<lo->k≠mb->k≠bL->¬Pzf mb bL v' k:=fun k h1 h2 h3 x=>by
       rcases x with x | x | x
       ·exact h2 x
       ·exact h3 x
       ·have:=(nvr k x).2;omega
      have gnq:¬Pzf mb bL v' gD:=fun x=>by
       rcases x with x | x | x
       ·exact gnf (.inl x)
       ·exact gnf (.inr (.inl x))
       ·exact(nvr _ x).1 rfl
      have hltS:=(uh HC).2.2.2.2.1
      have hS5:=ai (f5'.cell' hS3.1 (nq _ hltS.2.2.2.2.2.1 hnT.1 hnT.2)) (ai (f5'.cell' hS3.2.1 (nq _ hltS.2.2.1 hnS.1 hnS.2)) (f5'.cell' hS3.2.2 gnq))
      refine hK.out _ _ hS5 (fun _=>?_)
      clear hK K
      refine wpAnyH_done (by kernel_rfl) ?_ _
      have hs3q:W3.heap.size<=w3'.heap.size:=Nat.le_trans fr.size fq3.size
      have HE:=Hd (show Pz nu lo mb bL w5' (acc ++ [u] ++ ((ks.take (j+1)).map (·.2.2)).flatten) v5/\Fr (Pzf mb bL v) W3 w5'/\(∀k,v5.ownBlock=some k->k≠gD/\lo<=k)/\(v5.ownBlock=v.ownBlock\/∃k,v5.ownBlock=some k/\W3.heap.size<=k) from by
       refine⟨?_,?_,fun k hk=>?_,?_⟩
       ·have:((ks.take (j+1)).map (·.2.2)).flatten=((ks.take j).map (·.2.2)).flatten ++ kk.2.2:=by
         rw[List.take_add_one,hkk]
         simp
        rw[this,<-List.append_assoc]
        exact z5
       ·refine(fr.trans' fq3 nE).trans' f5' (fun k hk=>?_)
        rcases hk with hk | hk | hk
        ·exact .inl (.inl hk)
        ·exact .inl (.inr (.inl hk))
        ·rcases hvl with e | ⟨k',e,hk'⟩
         ·exact .inl (.inr (.inr (by rw[<-e];exact hk)))
         ·rw[e] at hk
          cases hk
          exact .inr hk'
       ·rcases hl5 with e | ⟨k',e,hk'⟩
        ·rw[e] at hk
         exact nvr k hk
        ·have hlo:=(z5.row.lt k hk).1
         rw[e] at hk
         cases hk
         have:=(Array.getElem?_eq_some_iff.1 oDq).1
         exact⟨by have:=fq3.size;omega,hlo⟩
       ·rcases hl5 with e | ⟨k',e,hk'⟩
        ·rw[e]
         exact hvl
        ·exact .inr ⟨k',e,by omega⟩)
      clear z5 f5' hl5 zr fr nvr hvl oDq gnf f03 nq gnq hltS hS5 hS3 HZ HI HKO HLD t9 fq3 f3' fD hs3q
      go_wp2_with fail
      obtain⟨y1,y2,y3,y4⟩:=uh HE
      exact⟨⟨j+1,v5,by omega,by simp,y1,y2,y3,y4⟩,by simp[intOf];omega⟩
     ·have e:j=it:=by omega
      subst e
      have hlt':¬(j:Int)<j:=by omega
      go_wp2_with fail
      go_end0
      obtain⟨z9,f39,oD9,nv8,_,hnf,gnf⟩:=uh HQ
      obtain⟨f03,_⟩:=uh HF
      have hz:acc ++ [u] ++ ((ks.take j).map (·.2.2)).flatten=acc ++ u :: Q':=by
       rw[<-hks,List.take_length,(uh HKQ).1];simp
      rw[hz] at zr
      exact⟨rfl,v',zr,(f03.mono (G:=Pzf mb bL v) (fun _ hk=>hk.elim)).trans' fr (fun k hk=>.inl hk),hvl.imp id (fun⟨k,x,y⟩=>⟨k,x,Nat.le_trans f03.size y⟩)⟩
end
end

section
section
variable {nu sz:Nat} {w w' w0:World} {hb sb b:Nat} {T:Tay} {A:Ab} {P:List (Int×Int)}
theorem make_setU (w:World):(Instr.makeMap 116 none).run Tryz.prog w = .ok (.map (some w.heap.size)) (w.alloc (.map #[] 0)):=by
 simp[Instr.makeMap,go_sem]
set_option maxRecDepth 100000 in
theorem y_Pieces (hp:Hp nu sz w hb sb b T A P) (s:HpS nu (says P A)) {h u:Nat} {l:List Pr} {Q:List Nat} (t:Tr nu sz (says P A) h u l Q) (ri:Rise l) (hl:l.length<=400) :
  Calls Tryz.prog 37 #[ptr sb,ptr hb,.int .u64 ((fi nu+8 * u:Nat):Int)] w fun e w'=>∃(g cap:Nat) (ts:List Int),e = .returned (.slice (some ⟨g,0,none⟩) ts.length cap)/\(∀x,x∈ts ↔ ∃v∈Q,x=((fi nu+8 * v:Nat):Int))/\ts.length=Q.length/\w'.ownsRow w.heap.size 3 1 (.slice (some ⟨g,0,none⟩) ts.length cap) ts.length (ts.map (Value.int .i64))/\St w w':=by
 obtain⟨g,hg⟩:∃g,w.heap.size=g:=⟨_,rfl⟩
 obtain⟨W1,hW1⟩:∃W,w.alloc (.cells #[ptr sb] 23)=W:=⟨_,rfl⟩
 obtain⟨W2,hW2⟩:∃W,W1.alloc (.cells #[ptr hb] 24)=W:=⟨_,rfl⟩
 obtain⟨W3,hW3⟩:∃W,W2.alloc (.map #[] 0)=W:=⟨_,rfl⟩
 obtain⟨W4,hW4⟩:∃W,W3.alloc (.cells #[.map (some (g+2))] 116)=W:=⟨_,rfl⟩
 obtain⟨W5,hW5⟩:∃W,W4.alloc (.cells #[.slice none 0 0] 45)=W:=⟨_,rfl⟩
 obtain⟨W6,hW6⟩:∃W,W5.alloc (.cells #[.func (.func 68) #[] #[ptr g,ptr (g+3),ptr (g+1),ptr (g+4),ptr (g+5)]] 117)=W:=⟨_,rfl⟩
 have z1:W1.heap.size=g+1:=by rw[<-hW1];simp[hg]
 have z2:W2.heap.size=g+2:=by rw[<-hW2];simp;omega
 have z3:W3.heap.size=g+3:=by rw[<-hW3];simp;omega
 have z4:W4.heap.size=g+4:=by rw[<-hW4];simp;omega
 have z5:W5.heap.size=g+5:=by rw[<-hW5];simp;omega
 have z6:W6.heap.size=g+6:=by rw[<-hW6];simp;omega
 have f1:St w W1:=hW1▸(Fr.refl _ _).alloc _
 have f2:St W1 W2:=hW2▸(Fr.refl _ _).alloc _
 have f3:St W2 W3:=hW3▸(Fr.refl _ _).alloc _
 have f4:St W3 W4:=hW4▸(Fr.refl _ _).alloc _
 have f5:St W4 W5:=hW5▸(Fr.refl _ _).alloc _
 have f6:St W5 W6:=hW6▸(Fr.refl _ _).alloc _
 have k56:St W5 W6:=f6
 have k46:St W4 W6:=f5.trans' k56 nE
 have k36:St W3 W6:=f4.trans' k46 nE
 have k26:St W2 W6:=f3.trans' k36 nE
 have k16:St W1 W6:=f2.trans' k26 nE
 have k06:St w W6:=f1.trans' k16 nE
 have oS:W6.heap[g]? = some (.cells #[ptr sb] 23 (0,0)):=by
  have:=heap_alloc_new w (.cells #[ptr sb] 23)
  rw[hW1,hg] at this;exact k16.obj this id
 have oH:W6.heap[g+1]? = some (.cells #[ptr hb] 24 (0,0)):=by
  have:=heap_alloc_new W1 (.cells #[ptr hb] 24)
  rw[hW2,z1] at this;exact k26.obj this id
 have oM:W6.heap[g+2]? = some (.map #[] 0):=by
  have:=heap_alloc_new W2 (.map #[] 0)
  rw[hW3,z2] at this;exact k36.obj this id
 have oV:W6.heap[g+3]? = some (.cells #[.map (some (g+2))] 116 (0,0)):=by
  have:=heap_alloc_new W3 (.cells #[.map (some (g+2))] 116)
  rw[hW4,z3] at this;exact k46.obj this id
 have oL:W6.heap[g+4]? = some (.cells #[.slice none 0 0] 45 (0,0)):=by
  have:=heap_alloc_new W4 (.cells #[.slice none 0 0] 45)
  rw[hW5,z4] at this;exact k56.obj this id
 have oT:W6.heap[g+5]? = some (.cells #[.func (.func 68) #[] #[ptr g,ptr (g+3),ptr (g+1),ptr (g+4),ptr (g+5)]] 117 (0,0)):=by
  have:=heap_alloc_new W5 (.cells #[.func (.func 68) #[] #[ptr g,ptr (g+3),ptr (g+1),ptr (g+4),ptr (g+5)]] 117)
  rw[hW6,z5] at this;exact this
 have ft:∀k,tfoot sb b T k->k<g:=fun k hk=>by rw[<-hg];exact hp.st.lt k hk
 have lth:hb<g:=by rw[<-hg];exact hp.lth
 have lt0:0<g:=by rw[<-hg];exact hp.lt0
 have nd:=t.nodup ri
 have few:=t.few
 have hp0:(((fi nu+8 * u:Nat):Int) != 0)=true:=by have:=hp.hp.geo.b;simp;omega
 have pv:Pv W6 hb sb g (g+3) (g+1) (g+4) (g+5) (g+2):=⟨cOo oS 0,cOo oV 0,cOo oH 0,cOo oT 0⟩
 have mz:W6.ownsMap Tryz.prog 27 (unitElem (H:=Unit)) (g+2) 0 (seenD nu []):=by
  have:=World.ownsMap_made W2 Tryz.prog 27 (unitElem (H:=Unit))
  rw[hW3,z2] at this
  exact ownsMap_block this (k36.block _ (by omega) id) k36.size
 have pz:Pz nu (g+6) (g+2) (g+4) W6 [] (.slice none 0 0):=⟨mz,oL,World.ownsRow_nil _ _ _ _,(fun k hk=>by cases hk),by omega⟩
 have PC:=y_piecesC (lo:=g+6) (mb:=g+2) (bL:=g+4) (bS:=g) (bM:=g+3) (bH:=g+1) (bT:=g+5) s (by omega) (by omega) (by omega) (by omega) h 0 (hp.still k06) ⟨fun x=>by have:=ft _ x;omega,fun x=>by have:=ft _ x;omega,by omega,by omega,by omega,by omega⟩ (fun k hk=>by cases hk) (fun k hk=>by have:=ft k hk;omega) (by omega) pv pz (by omega) t (.inl rfl) nd (fun x _ hm=>by cases hm) (by simp;omega)
 have hmm:=make_setU
 have hQ1:1<=Q.length:=by
  cases h with
  | zero=>exact t.elim
  | succ h=>obtain⟨n,Q',_,_,rfl⟩:=t;simp
 obtain⟨pz0,epz⟩:∃p,fi nu+8 * u=p:=⟨_,rfl⟩
 rw[epz] at hp0 PC ⊢
 have HPC:=Hd PC
 have HW:=Hd (ai hW1 (ai hW2 (ai hW3 (ai hW4 (ai hW5 hW6)))))
 have HK:=Hd (ai k06 z6)
 clear PC hW1 hW2 hW3 hW4 hW5 hW6 epz hp s t ri pv pz mz oS oH oM oV oL oT k06 k16 k26 k36 k46 k56 f1 f2 f3 f4 f5 f6 z1 z2 z3 z4 z5 z6 ft lth lt0 nd
 go_enter Tryz.func37,Tryz.ntmps37
 go_wp2_with fail
 simp only[show g+1+1=g+2 from rfl,show g+2+1=g+3 from rfl,show g+3+1=g+4 from rfl,show g+4+1=g+5 from rfl]
 obtain⟨hW1,hW2,hW3,hW4,hW5,hW6⟩:=uh HW
 rw[hW1,hW2,hW3,hW4,hW5,hW6]
 clear hW1 hW2 hW3 hW4 hW5 hW6 HW hmm
 refine(uh HPC).mono ?_
 rintro e w7 ⟨rfl,v7,z7,f7,_⟩
 clear HPC
 obtain⟨k06,zz6⟩:=uh HK
 rw[List.nil_append] at z7
 have hr7:=z7.row
 have el:(Q.map fun u=>Value.int .i64 ((fi nu+8 * u:Nat):Int))=(Q.map fun u=>((fi nu+8 * u:Nat):Int)).map (Value.int .i64):=by rw[List.map_map];rfl
 rw[el] at hr7
 generalize hzs:Q.map (fun u=>((fi nu+8 * u:Nat):Int))=zs at *
 have hzl:zs.length=Q.length:=by rw[<-hzs];simp
 obtain⟨ra,rc,rfl⟩:=rows_form hr7
 obtain⟨gr,rfl⟩:∃gr,ra=some ⟨gr,0,none⟩:=by
  rcases hr7.2 with ⟨e,h0⟩ | ⟨gg,cap,cur,e,_⟩
  ·omega
  ·cases e
   exact⟨gg,rfl⟩
 rw[<-hzl] at hr7
 have SO:=sort_own w7 (g+6) gr rc zs (by omega) hr7
 have c7:w7.cell? ⟨g+4,0,none⟩=some (.slice (some ⟨gr,0,none⟩) zs.length rc):=by
  have:=cOo z7.obj 0
  rw[<-hzl] at this
  exact this
 have hgr:=(hr7.lt gr rfl).1
 have HZ:=Hd (ai f7 z7.obj)
 have HL:=Hd (ai hzs (ai hzl (ai hgr zz6)))
 clear z7 hr7 f7 el hzs few hQ1 k06 zz6 hl
 have hgr4:g+4≠gr:=by omega
 clear hgr hzl
 go_wp2_with fail
 refine SO.mono ?_
 rintro e w8 ⟨rfl,ts,hts,htl,f8,r8⟩
 have c8:=f8.cell' c7 hgr4
 have HE:=Hd (ai hts (ai htl (ai f8 r8)))
 clear SO c7 hts htl f8 r8
 go_wp2_with fail
 go_ret
 obtain⟨hts,htl,f8,r8⟩:=uh HE
 obtain⟨f7,_⟩:=uh HZ
 obtain⟨hzs,hzl,hgr,zz6⟩:=uh HL
 obtain⟨k06,_⟩:=uh HK
 refine⟨gr,rc,ts,by rw[htl];rfl,fun x=>?_,by omega,own_lo r8 (by omega),?_⟩
 ·rw[hts,<-hzs,List.mem_map]
  exact⟨fun⟨v,h1,h2⟩=>⟨v,h1,h2.symm⟩,fun⟨v,h1,h2⟩=>⟨v,h1,h2.symm⟩⟩
 ·refine(k06.trans' f7 (fun k hk=>.inr ?_)).trans' f8 (fun k hk=>.inr ?_)
  ·rcases hk with hk | hk | hk
   ·omega
   ·omega
   ·cases hk
  ·have hk:k=gr:=hk
   omega
end
end

section
section
variable {nu sz:Nat} {w w' w0:World} {X Y:Nat->Prop} {hb sb b:Nat} {T:Tay} {A:Ab} {N:Nat} {free:Prop} {s:Int} {base:Nat->Int}
theorem HpC.grow (h:HpC nu sz w0 X w hb sb b T A N free s base) {F:Nat->Prop} (hf:Fr F w w') (hF:∀k,F k->X k) (hn:¬F hb) (hY:∀k,Y k->X k\/(w.heap.size<=k/\k<w'.heap.size)) (hy:Y hb):HpC nu sz w0 Y w' hb sb b T A N free s base:=by
 have h1:=h.var hf hF hn
 refine⟨⟨h1.hd.st,h1.hd.fr,h1.hd.new,fun k hk=>?_,fun k hk=>?_⟩,h1.cl,h1.hp,hy,h1.l0⟩
 ·rcases hY k hk with e | e
  ·exact h1.hd.ap k e
  ·exact fun ht=>by have:=h.hd.st.lt k ht;omega
 ·rcases hY k hk with e | e
  ·exact h1.hd.xl k e
  ·exact⟨Nat.le_trans h.hd.fr.size e.1,e.2⟩
theorem HpC.box {V:Nat->Prop} {r:Nat} {v:Value} (h:HpC nu sz w0 X w hb sb b T A N free s base) (fr:Fr (fun k=>tfoot sb b T k\/V k) w w') (hx:X r) (hv:¬V r) (bx:Box w r v):Box w' r v:=
 bx.kept fr (fun e=>e.elim (h.hd.ap r hx) hv)
theorem HpC.row {V:Nat->Prop} {v:Value} {lo e zz n:Nat} {xs:List Value} (h:HpC nu sz w0 X w hb sb b T A N free s base) (fr:Fr (fun k=>tfoot sb b T k\/V k) w w') (hx:∀k,v.ownBlock=some k->X k/\¬V k) (o:w.ownsRow lo e zz v n xs):w'.ownsRow lo e zz v n xs:=
 owns_same o fun k hk=>fr.block k (o.lt k hk).2 (fun e=>e.elim (h.hd.ap k (hx k hk).1) (hx k hk).2)
end
theorem row_still {w w':World} {v:Value} {lo e sz n:Nat} {xs:List Value} (o:w.ownsRow lo e sz v n xs) (f:St w w'):w'.ownsRow lo e sz v n xs:=
 owns_same o fun k hk=>f.block k (o.lt k hk).2 id
theorem row_kept {w w':World} {F:Nat->Prop} {v:Value} {lo e sz n:Nat} {xs:List Value} (o:w.ownsRow lo e sz v n xs) (f:Fr F w w') (hn:∀k,v.ownBlock=some k->¬F k):w'.ownsRow lo e sz v n xs:=
 owns_same o fun k hk=>f.block k (o.lt k hk).2 (hn k hk)
theorem well_errno {i:Int} (h:How.well=How.errno i):False:=by injection h with h;cases h
theorem errno_inj {i j:Int} (h:How.errno i=How.errno j):i=j:=by
 injection h with h;injection h with h;injection h with _ h;injection h
theorem lv_4 {x:Nat} (h:x<=128):lv x<=4:=by
 unfold lv
 repeat (split;omega)
 omega
theorem lv_3 {x:Nat} (h:x<=64):lv x<=3:=by
 unfold lv
 repeat (split;omega)
 omega
def places (nu:Nat) (ls:List (Nat×Nat)):List Nat:=ls.map fun y=>fi nu+y.1 * 8
theorem places_len (nu:Nat) (ls:List (Nat×Nat)):(places nu ls).length=ls.length:=by simp[places]
theorem row_form {w:World} {lo n:Nat} {v:Value} {xs:List Value} (h:w.ownsRow lo 3 1 v n xs):(v = .slice none 0 0/\n=0)\/∃g cap,v = .slice (some ⟨g,0,none⟩) n cap:=by
 rcases h.2 with ⟨e1,e2⟩ | ⟨g,cap,cur,e,_⟩
 ·exact .inl ⟨e1,e2⟩
 ·exact .inr ⟨g,cap,e⟩
end
end Go.Proofs.YtbiopjmpdhcjgaaGreatDoor
