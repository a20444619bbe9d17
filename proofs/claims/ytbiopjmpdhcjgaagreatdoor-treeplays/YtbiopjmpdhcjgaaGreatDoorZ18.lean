/- Joined: Yr Ys Zc Rl Ro GFll Zd Yq. -/
import Derived.Test.YtbiopjmpdhcjgaaGreatDoorZ05
import Derived.Test.YtbiopjmpdhcjgaaGreatDoorZ06
import Derived.Test.YtbiopjmpdhcjgaaGreatDoorZ13
import Derived.Test.YtbiopjmpdhcjgaaGreatDoorZ15
import Derived.Test.YtbiopjmpdhcjgaaGreatDoorZ16
import Derived.Test.YtbiopjmpdhcjgaaGreatDoorZ17
namespace Go.Proofs.YtbiopjmpdhcjgaaGreatDoor
open Go.RowKit
set_option maxHeartbeats 4000000
set_option maxRecDepth 100000 in
theorem y_headB (hh:Nat) (ba:Option Addr) (bc:Nat) (K:List ByteArray) (ka:Option Addr) (kc:Nat) (ks:List (Nat×Nat)) (w:World) (hB:Kys w ba bc K) (hKd:Kds w ka kc ks) (hl:ks.length<=100) (hl2:K.length<=100) (hk:∀i,i<K.length->kL K i<=3000) (hkk:∀k∈ks,k.1<4294967296/\k.2<2147483648) :
  Calls Tryz.prog 174 #[.iface 96 (brV hh ba K.length bc ka ks.length kc)] w fun e w'=>∃v,e = .returned (.tuple #[hdV hh ks.length (jk K).length,v])/\OwnL .u8 5 w' w.heap.size v (jk K)/\St w w':=by
 obtain⟨W,hW⟩:∃W,w.alloc (.cells #[.int .i64 0,.int .i64 0,.int .i64 0] 105)=W:=⟨_,rfl⟩
 have fW:St w W:=hW▸(Fr.refl _ w).alloc _
 have oW:W.heap[w.heap.size]? = some (.cells #[.int .i64 0,.int .i64 0,.int .i64 0] 105 (0,0)):=hW▸heap_alloc_new w _
 have sW:W.heap.size=w.heap.size+1:=by rw[<-hW];simp
 have KY:=b_keys hh ba K.length bc ka ks.length kc W
 have IT:=fun w1 (f:St w w1)=>b_items hh ba K.length bc ka kc ks w1 (hKd.still f) (by omega) hkk
 have HG:=fun w1=>b_height hh ba K.length bc ka ks.length kc w1
 have HB:=Hd (hB.still fW)
 have HW:=Hd hW
 have HX:=Hd (ai fW (ai oW sW))
 have HI:=@Hd _ IT
 clear hW fW oW sW IT hB hKd hkk
 obtain⟨q,hq⟩:∃q,ks.length=q:=⟨_,rfl⟩
 rw[hq] at KY HG HI ⊢
 clear hq hl
 obtain⟨n,hn⟩:∃n,K.length=n:=⟨_,rfl⟩
 rw[hn] at KY HG HI hl2 hk ⊢
 have HN:=Hd hn
 go_enter Tryz.func174,Tryz.ntmps174
 go_wp2_with fail
 rw[uh HW]
 refine KY.mono ?_
 rintro e w1 ⟨rfl,f1⟩
 clear KY HW
 have HS:=Hd ((uh HB).still f1)
 clear HB
 go_wp2_with fail
 go_loopw [4,11] (fun v i wr=>∃r:Nat,r<=n/\i = .int .i64 r/\Pts w1 wr v (kL K) (kZ K) r) (fun _ i _=>n - (RowKit.intOf i).toNat)
 case atStart=>exact⟨0,by omega,rfl,fun _=>0,fun _=>0,World.ownsRow_nil _ _ _ _,fun t ht=>by omega,Fr.refl _ _⟩
 case round=>
  obtain⟨r,hrn,rfl,P⟩:=hrel
  by_cases hlt:r<n
  ·obtain⟨s,hs⟩:∃s,K[r]? = some s:=⟨_,List.getElem?_eq_getElem (by have:=uh HN;omega)⟩
   obtain⟨b,o,e,c1⟩:=(uh HS).cells r (.string s) (by rw[List.getElem?_map,hs];rfl)
   subst e
   replace c1:=P.choose_spec.choose_spec.2.2.cell' c1 id
   have hlt':(r:Int)<n:=by omega
   obtain⟨c2,w2,v3,w3,hcv,hap,hsz,P3⟩:=P.more s (by simp[kL,List.getD,hs]) (by simp[kZ,List.getD,hs]) (by omega)
   have HCV:=Hd hcv;have HAP:=Hd hap;have HP:=Hd P3
   clear hcv hap P3 P hs HS
   go_wp2_with fail
   rw[uh HCV]
   go_wp2_with (first | (at_builtin;(try rw[hsz]);refine wpList_append_run rfl (.tmp 15) (.tmp 18) 224 rfl _ _ rfl rfl v3 w3 (uh HAP) ?_) | fail)
   exact⟨⟨r+1,by omega,by simp,uh HP⟩,by simp[RowKit.intOf];omega⟩
  ·have e:r=n:=by omega
   subst e
   have hlt':¬(r:Int)<r:=by omega
   obtain⟨pa,pc,rfl⟩:=rows_form P.choose_spec.choose_spec.1
   have fr:St w1 wr:=P.choose_spec.choose_spec.2.2
   obtain⟨A,C,PA⟩:=P.parts (fun i t=>byF_lt _ _)
   have JO:=join_ok pa r pc A (kL K) C (kZ K) wr PA (by omega) hk
   obtain⟨fW,oW,sW⟩:=uh HX
   have f0:St w wr:=(fW.trans' f1 nE).trans' fr nE
   have f0W:St W wr:=f1.trans' fr nE
   have HF:=Hd (ai f0 f0W)
   clear P PA HS fr f1 fW oW sW f0 f0W
   go_wp2_with (first | (go_at_call 198;refine JO.mono ?_;rintro e w2 ⟨jv,rfl,mj⟩) | fail)
   refine(HG _).mono ?_
   rintro e w3 ⟨rfl,fh⟩
   obtain⟨f0,f0W⟩:=uh HF
   have f2:St wr w3:=(show St wr w2 from Fr.ofBelow mj.bel).trans' fh nE
   have mo:=own_still mj.own fh
   have f03:St w w3:=f0.trans' f2 nE
   have f0W3:St W w3:=f0W.trans' f2 nE
   obtain⟨ja,jc,rfl,_,_⟩:=mj.own.nats
   have IT:=uh HI w3 f03
   have HM:=Hd (ai mo (ai f03 (show w.heap.size+1<=wr.heap.size by have:=(uh HX).2.2;have:=f0W.size;omega)))
   have HF3:=Hd f0W3
   clear mj mo fh f2 f03 f0W3 f0 f0W HF HI JO
   go_wp2_with fail
   refine IT.mono ?_
   rintro e w4 ⟨iv,rfl,hiv,f4⟩
   obtain⟨ia,ic,rfl⟩:=rows_form hiv
   obtain⟨fW,oW,sW⟩:=uh HX
   have o4:w4.heap[w.heap.size]? = some (.cells #[.int .i64 0,.int .i64 0,.int .i64 0] 105 (0,0)):=((uh HF3).trans' f4 nE).obj oW id
   have r0:w4.cell? ⟨w.heap.size,0,none⟩=some (.int .i64 0):=cOo o4 0
   have r1:w4.cell? ⟨w.heap.size,1,none⟩=some (.int .i64 0):=cOo o4 1
   have r2:w4.cell? ⟨w.heap.size,2,none⟩=some (.int .i64 0):=cOo o4 2
   have rz:∀o,w4.frozen? ⟨w.heap.size,o,none⟩=false:=fun o=>by simp[World.frozen?,o4]
   have HO:=Hd (ai o4 f4)
   clear fW oW sW o4 hiv IT f4
   generalize hg:w.heap.size=g at *
   go_wp2
   obtain⟨o4,f4⟩:=uh HO
   obtain⟨mo,f03,hgw⟩:=uh HM
   have oF:=heap_setCell_same _ g 2 _ _ (.int .i64 ((joinL (kL K) (kZ K) r).length:Nat)) (heap_setCell_same _ g 1 _ _ (.int .i64 (q:Nat)) (heap_setCell_same w4 g 0 _ _ (.int .i64 (hh:Nat)) o4))
   have f5:Fr (fun k=>k=g) w4 (((w4.setCell ⟨g,0,none⟩ (.int .i64 (hh:Nat))).setCell ⟨g,1,none⟩ (.int .i64 (q:Nat))).setCell ⟨g,2,none⟩ (.int .i64 ((joinL (kL K) (kZ K) r).length:Nat))):=(((Fr.refl (fun k=>k=g) w4).setCell (.inl rfl) _).setCell (.inl rfl) _).setCell (.inl rfl) _
   refine bodyPost_ret (results_ct Tryz.results174 _ _ g #[.int .i64 (hh:Nat),.int .i64 (q:Nat),.int .i64 ((joinL (kL K) (kZ K) r).length:Nat)] (by rfl) (run_loadVar_row _ g 105 105 _ (0,0) _ oF Tryz.underlying105 rfl (by kernel_rfl))) rfl ?_
   have ej:jk K=joinL (kL K) (kZ K) r:=by unfold jk;rw[show K.length=r from uh HN]
   rw[ej]
   refine⟨_,rfl,?_,(f03.trans' f4 nE).trans' f5 (fun k hk=>.inr (by rw[hk,hg];exact Nat.le_refl _))⟩
   exact own_lo (owns_same (own_still mo f4) fun k hk=>f5.block k ((own_still mo f4).lt k hk).2 (fun e=>by have:=(mo.lt k hk).1;omega)) (by omega)
set_option maxRecDepth 100000 in
theorem y_wordsB (hh:Nat) (ba:Option Addr) (bc:Nat) (K:List ByteArray) (ka:Option Addr) (kc:Nat) (ks:List (Nat×Nat)) (w:World) (hKy:Kys w ba bc K) (hKd:Kds w ka kc ks) (hl:ks.length<=100) (hl2:K.length<=100) (hk:Kok K) (hkk:∀k∈ks,k.1<4294967296/\k.2<2147483648) (h16:hh<=16) :
  Calls Tryz.prog 139 #[.iface 96 (brV hh ba K.length bc ka ks.length kc)] w fun e w'=>∃v,e = .returned v/\OwnL .u64 27 w' w.heap.size v (Nd.br hh K ks).wds/\St w w':=by
 have HD:=y_headB hh ba bc K ka kc ks w hKy hKd hl hl2 (fun i hi=>by have:=kL_at hk i hi;omega) hkk
 have IT:=fun w1 (f:St w w1)=>b_items hh ba K.length bc ka kc ks w1 (hKd.still f) (by omega) hkk
 have hb:(jk K).length<60000:=by
  rw[jk_len hk]
  have:=kb_le hk
  omega
 have hB:=jk_lt hk
 have WD:=y_word hh ks.length (jk K).length (by omega) (by omega) (by omega)
 have hlw:(Nd.br hh K ks).wds=hwN hh ks.length (jk K).length :: (ks.map (fun k=>itN k.1 k.2) ++ pkW (jk K)):=by
  unfold Nd.wds
  simp only[Nd.high,Nd.items,Nd.keys,List.length_map,jk_len hk]
 obtain⟨B,hBd⟩:∃B,jk K=B:=⟨_,rfl⟩
 rw[hBd] at HD WD hlw hb hB
 obtain⟨hw,hhw⟩:∃hw,hwN hh ks.length B.length=hw:=⟨_,rfl⟩
 rw[hhw] at WD hlw
 have hml:(ks.map (fun k=>itN k.1 k.2)).length=ks.length:=by simp
 generalize ks.map (fun k=>itN k.1 k.2)=M at *
 have HLW:=Hd hlw
 have HI:=@Hd _ IT
 clear IT hKy hKd hk hkk hBd hhw hlw
 generalize (Nd.br hh K ks).wds=R at *
 generalize ks.length=n at *
 go_enter Tryz.func139,Tryz.ntmps139
 go_wp2_with (first | (go_at_call 174;refine HD.mono ?_;rintro e w1 ⟨jv,rfl,hj,f1⟩) | (go_at_call 176;refine(WD _).mono ?_;rintro e w3 ⟨rfl,f3⟩) | fail)
 have f3':St w w3:=(f1.alloc _).trans' f3 nE
 have f13:St w1 w3:=((Fr.refl _ w1).alloc _).trans' f3 nE
 obtain⟨W4,hW4⟩:∃W4,w3.alloc (.cells #[.int .u64 (hw:Nat)] 27)=W4:=⟨_,rfl⟩
 have f4:St w3 W4:=hW4▸(Fr.refl _ w3).alloc _
 have o4:W4.heap[w3.heap.size]? = some (.cells #[.int .u64 (hw:Nat)] 27 (0,0)):=hW4▸heap_alloc_new w3 _
 have f04:St w W4:=f3'.trans' f4 nE
 rw[hW4]
 refine(uh HI W4 f04).mono ?_
 rintro e w5 ⟨iv,rfl,hiv,f5⟩
 obtain⟨ia,ic,rfl⟩:=rows_form hiv
 obtain⟨ja,jc,rfl,_,hN⟩:=hj.nats
 have f15:St w1 w5:=(f13.trans' f4 nE).trans' f5 nE
 have PK:=pack_ok ja B.length jc (fun t=>B.getD t 0) w5 (nats_fr hN f15 (fun _ _ x=>x)) (fun t _=>hB t) (by omega)
 have hq:1<=need B.length/\need B.length<=10000:=by unfold need;omega
 have hq2:=pkW_len B
 have hpk:∀j,j<need B.length - 1->(vals .u64 (pkW B))[j]? = some (.int .u64 (packF (fun t=>B.getD t 0) B.length (j+1):Nat)):=fun j hj=>by
  have:j<(B.length+7) / 8:=by unfold need at hj;omega
  simp[vals,pkW,this]
 generalize need B.length=q at *
 generalize packF (fun t=>B.getD t 0) B.length=pf at *
 have s1:∀g w,(Instr.slice 141 (.slice (some ⟨g,0,none⟩) q q) (some (.int .i64 1)) none none).run Tryz.prog w = .ok (.slice (cutZ 1 (some ⟨g,0,none⟩) q 1) (q - 1) (q - 1)) w:=fun g w=>slice_fromZ elt_W elem_u64s (some ⟨g,0,none⟩) q q 1 w hq.1
 have HX:=Hd (ai o4 (ai f04 (ai f5 hiv)))
 have HPK:=Hd (ai hpk hq2)
 clear o4 f04 f5 hiv hpk hq2 f3 f3' f13 f4 f15 hN HI HD WD hj f1 hB
 go_wp2_with (first | (go_at_call 177;refine PK.mono ?_;rintro e w6 ⟨rfl,m6⟩) | fail)
 obtain⟨o4,f04,f5,hiv⟩:=uh HX
 obtain⟨hpk,hq2⟩:=uh HPK
 have f6:St w5 w6:=Fr.ofBelow m6.bel
 have f46:St W4 w6:=f5.trans' f6 nE
 have o6:=f46.obj o4 id
 have S1:Sl w6 1 (some ⟨w3.heap.size,0,none⟩) 1 1 (vals .u64 [hw]):=⟨rfl,Nat.le_refl _,(fun e=>by cases e),vals_one _ _,(fun j u hu=>⟨w3.heap.size,0,rfl,by
  rw[Nat.zero_add,cOo o6 j,<-hu]
  simp[vals]⟩),(fun x e=>by cases e;rfl)⟩
 have S2:Sl w6 1 ia n ic (vals .u64 M):=(sl_of_row hiv (vals_one _ _)).still f6
 have S0:Sl w6 1 (some ⟨w5.heap.size,0,none⟩) q q ((List.range q).map fun j=>.int .u64 (pf j:Nat)):=⟨by simp,Nat.le_refl _,(fun e=>by cases e),(fun u hu=>by
  obtain⟨t,_,rfl⟩:=List.mem_map.1 hu
  rfl),(fun j u hu=>⟨w5.heap.size,0,rfl,by
  rw[List.getElem?_map] at hu
  have hj:j<q:=by
   refine Nat.lt_of_not_le fun hh=>?_
   rw[List.getElem?_eq_none (by simpa using hh)] at hu
   cases hu
  rw[List.getElem?_range hj] at hu
  rw[Nat.zero_add,m6.cell j hj,<-hu]
  rfl⟩),(fun x e=>by cases e;rfl)⟩
 have S3:=S0.drop 1 hq.1
 have e3:((List.range q).map fun j=>Value.int .u64 (pf j:Nat)).drop (1 * 1)=vals .u64 (pkW B):=by
  apply List.ext_getElem?
  intro j
  by_cases hj:j<q - 1
  ·rw[hpk j hj,List.getElem?_drop,List.getElem?_map,List.getElem?_range (by omega),show 1 * 1+j=j+1 by omega]
   rfl
  ·rw[List.getElem?_eq_none (by simp;omega),List.getElem?_eq_none (by simp[vals];omega)]
 rw[e3] at S3
 have CC:=cat3_W w6 _ _ _ _ _ _ _ _ _ _ _ _ S1 S2 S3 (by omega)
 have hR:=uh HLW
 have eR:vals .u64 [hw] ++ vals .u64 M ++ vals .u64 (pkW B)=vals .u64 R:=by rw[hR];simp[vals]
 have eL:1+n+(q - 1)=R.length:=by rw[hR];simp[hml,hq2];omega
 rw[eR,eL] at CC
 have f06:St w w6:=f04.trans' f46 nE
 have HF:=Hd f06
 clear o4 f04 f5 hiv hpk hq2 f6 f46 o6 S1 S2 S0 S3 e3 hR eR eL f06 m6 HX HPK HLW PK
 refine CC.mono ?_
 rintro e w8 ⟨v,rfl,hv,f8⟩
 go_wp2_with fail
 go_ret
 exact⟨_,rfl,own_lo hv (uh HF).size,(uh HF).trans' f8 nE⟩
theorem wds_leaf (l:List Pr) (h:Kok (l.map (·.1))):(Nd.lf l).wds=lwN l:=by
 unfold Nd.wds lwN
 simp only[Nd.high,Nd.items,Nd.keys,List.length_map,jk_len h]
theorem y_words {F:Nat->Prop} {w:World} {v:Value} {n:Nd} (h:NdO F w v n) (hk:Kok n.keys) (hl:n.items.length<=100) (hf:n.Form) (h16:n.high<=16) :
  Calls Tryz.prog 139 #[v] w fun e w'=>∃v,e = .returned v/\OwnL .u64 27 w' w.heap.size v n.wds/\St w w':=by
 cases n using Nd.cs with
 | lf l=>
  obtain⟨a,c,rfl,h,_⟩:=h
  have hl':l.length<=100:=by simpa [Nd.items] using hl
  have hk':Kok (l.map (·.1)):=hk
  rw[wds_leaf l hk']
  exact y_wordsL a c l w h hl' (fun i hi=>by have:=kL_at hk' i (by simpa using hi);omega) (by rw[jk_len hk'];have:=kb_le hk';simp at this;omega) (jk_lt hk')
 | br hh B ks=>
  obtain⟨ba,bc,ka,kc,rfl,h1,h2,_,_⟩:=h
  have hl':ks.length<=100:=by simpa [Nd.items] using hl
  obtain⟨f1,f2,f3,f4⟩:=hf
  exact y_wordsB hh ba bc B ka kc ks w h1 h2 hl' (by omega) hk f4 h16
theorem y_sizeN {F:Nat->Prop} {w:World} {v:Value} {n:Nd} (h:NdO F w v n) (hk:Kok n.keys) (hl:n.items.length<=100) (hf:n.keys.length<=100) (hkk:∀hh B ks,n = .br hh B ks->∀k∈ks,k.1<4294967296/\k.2<2147483648) :
  Calls Tryz.prog 137 #[v] w fun e w'=>e = .returned (.int .i64 n.size)/\St w w':=by
 have hb:=kb_le hk
 cases n using Nd.cs with
 | lf l=>
  obtain⟨a,c,rfl,h,_⟩:=h
  have hl':l.length<=100:=by simpa [Nd.items] using hl
  have hk':Kok (l.map (·.1)):=hk
  have e:(Nd.lf l).size=hsz l.length (jk (l.map (·.1))).length:=by unfold Nd.size;simp only[Nd.items,Nd.keys,List.length_map,jk_len hk']
  rw[e]
  refine y_sizeOf _ 1 l.length _ (by omega) (by rw[jk_len hk'];simp[Nd.keys] at hb;omega) w ((y_headL a c l w h hl' (fun i hi=>by have:=kL_at hk' i (by simpa using hi);omega)).mono ?_)
  rintro e w' ⟨v,rfl,_,f⟩
  exact⟨v,rfl,f⟩
 | br hh B ks=>
  obtain⟨ba,bc,ka,kc,rfl,h1,h2,_,_⟩:=h
  have hl':ks.length<=100:=by simpa [Nd.items] using hl
  have hk':Kok B:=hk
  have e:(Nd.br hh B ks).size=hsz ks.length (jk B).length:=by unfold Nd.size;simp only[Nd.items,Nd.keys,List.length_map,jk_len hk']
  rw[e]
  have hf':B.length<=100:=hf
  refine y_sizeOf _ hh ks.length _ (by omega) (by rw[jk_len hk'];have:kb B<=81 * B.length:=hb;omega) w ((y_headB hh ba bc B ka kc ks w h1 h2 hl' hf (fun i hi=>by have:=kL_at hk' i hi;omega) (hkk hh B ks rfl)).mono ?_)
  rintro e w' ⟨v,rfl,_,f⟩
  exact⟨v,rfl,f⟩
def Pok (l:List Pr):Prop:=∀p∈l,(1<=p.1.size/\p.1.size<=80)/\p.2<18446744073709551616
theorem Pok.kok {l:List Pr} (h:Pok l):Kok (l.map (·.1)):=fun k hk=>by
 obtain⟨p,hp,rfl⟩:=List.mem_map.1 hk
 exact(h p hp).1
theorem Pok.put {l:List Pr} (h:Pok l) {x:ByteArray} {v:Nat} (hx:1<=x.size/\x.size<=80) (hv:v<18446744073709551616):Pok (putP l x v):=fun p hp=>by
 rcases putP_mem hp with rfl | hp
 ·exact⟨hx,hv⟩
 ·exact h p hp
theorem Rise.keys {l:List Pr} (h:Rise l):(l.map (·.1)).Pairwise ltK:=List.pairwise_map.2 h
theorem Tr.std {nu sz:Nat} {f:Nat->Int} {h u:Nat} {l:List Pr} {Q:List Nat} (x:Tr nu sz f h u l Q):∃n,Std nu sz f u n:=by
 cases h with
 | zero=>exact x.elim
 | succ h=>obtain⟨n,Q',s,_⟩:=x;exact⟨n,s⟩
theorem For.sub {T:Nat->List Pr->List Nat->Prop} {B:List ByteArray} {ks:List (Nat×List Pr×List Nat)} {l:List Pr} {Q:List Nat} (F:For T B ks l Q) {k:Nat×List Pr×List Nat} (hk:k∈ks):k.2.1.Sublist l/\∀v∈k.2.2,v∈Q:=by
 refine⟨?_,fun v hv=>?_⟩
 ·rw[F.2.1]
  exact List.sublist_flatten_of_mem (List.mem_map.2 ⟨k,hk,rfl⟩)
 ·rw[F.2.2.1]
  exact List.mem_flatten.2 ⟨k.2.2,List.mem_map.2 ⟨k,hk,rfl⟩,hv⟩
theorem Rise.sub {l m:List Pr} (h:Rise l) (s:m.Sublist l):Rise m:=List.Pairwise.sublist s h
theorem Pok.sub {l m:List Pr} (h:Pok l) (s:m.Sublist l):Pok m:=fun p hp=>h p (s.subset hp)
theorem Un.ok {nu sz:Nat} {f:Nat->Int} {h:Nat} {n:Nd} {l:List Pr} {Q:List Nat} (x:Un nu (Tr nu sz f h) (h+1) n l Q) (hz:sz<=40000) (pk:Pok l) (ri:Rise l) (hl:l.length<1000000) (h16:h+1<=16) (h2:1<=h->2<=n.items.length):n.Ok:=by
 rcases x with ⟨e1,rfl,e3,e4⟩ | ⟨h2',B,ks,rfl,F⟩
 ·refine⟨pk.kok,ri.keys,Nat.le_refl _,by show 1<=16;omega,fun y hy=>?_,e3⟩
  obtain⟨p,hp,rfl⟩:=List.mem_map.1 hy
  exact(pk p hp).2
 ·have hb:∀k∈ks.map (kidN nu),k.1<4294967296/\k.2<2147483648:=fun k hk=>by
   obtain⟨q,hq,rfl⟩:=List.mem_map.1 hk
   obtain⟨m,s⟩:=(F.1 q hq).std
   have:=s.fit
   have:=(F.sub hq).1.length_le
   exact⟨by show fi nu+8 * q.1<_;omega,by show q.2.1.length<_;omega⟩
  have hn:=F.2.2.2.1.len
  rw[List.length_map] at hn
  refine⟨F.2.2.2.2,F.2.2.2.1.rise,by show 1<=h+1;omega,h16,fun y hy=>?_,by show 2<=h+1;omega,by rw[List.length_map];exact hn,?_,hb⟩
  ·obtain⟨k,hk,rfl⟩:=List.mem_map.1 hy
   obtain⟨a1,a2⟩:=hb k hk
   unfold itN
   omega
  ·have:=h2 (by omega)
   simpa [Nd.items] using this
theorem For.put {T:Nat->List Pr->List Nat->Prop} {B B':List ByteArray} {ks ks':List (Nat×List Pr×List Nat)} {l:List Pr} {Q Q':List Nat} {x:ByteArray} {v i:Nat} {kk:Nat×List Pr×List Nat} (F:For T B ks l Q) (w:Way B x i) (hk:ks[i]? = some kk) (F':For T B' ks' (putP kk.2.1 x v) Q') :
  ∃Q2,For T (B.take i ++ B' ++ B.drop i) (ks.take i ++ ks' ++ ks.drop (i+1)) (putP l x v) Q2/\∀u∈Q2,u∈Q\/u∈Q':=by
 obtain⟨f1,f2,f3,f4,f5⟩:=F
 obtain⟨g1,g2,g3,g4,g5⟩:=F'
 have hik:i<ks.length:=(List.getElem?_eq_some_iff.1 hk).1
 have hm:(ks.map (·.2.1)).getD i []=kk.2.1:=by simp[List.getD,hk]
 refine⟨_,⟨fun k hk=>?_,?_,rfl,?_,(f5.take i).app g5 |>.app (f5.drop i)⟩,fun u hu=>?_⟩
 ·rcases List.mem_append.1 hk with hk | hk
  ·rcases List.mem_append.1 hk with hk | hk
   ·exact f1 k (List.mem_of_mem_take hk)
   ·exact g1 k hk
  ·exact f1 k (List.mem_of_mem_drop hk)
 ·rw[f2,putP_way w f4,hm,List.map_append,List.map_append,List.flatten_append,List.flatten_append,List.map_take,List.map_drop,<-g2,List.append_assoc]
 ·rw[List.map_append,List.map_append,List.map_take,List.map_drop,List.append_assoc,List.append_assoc]
  refine sep_replace f4 w.le g4 (fun h0 p hp=>?_) (fun h0 p hp=>?_)
  ·rw[<-g2] at hp
   rcases putP_mem hp with rfl | hp
   ·exact w.lo (i - 1) (by omega)
   ·have h2:=f4
    have hn:=f4.len
    rw[getD_split B default (i - 1) (by have:=w.le;omega),<-List.take_append_drop i (ks.map (·.2.1))] at h2
    obtain⟨_,_,_,s4⟩:=sep_split (by rw[List.length_take,List.length_take];omega) h2
    refine s4 p ?_
    rw[<-List.getElem_cons_drop (by rw[List.length_map];exact hik),List.flatten_cons]
    refine List.mem_append_left _ ?_
    have:(ks.map (·.2.1))[i]'(by rw[List.length_map];exact hik)=kk.2.1:=by
     rw[List.getElem_map]
     rw[(List.getElem?_eq_some_iff.1 hk).2]
    rw[this];exact hp
  ·rw[<-g2] at hp
   rcases putP_mem hp with rfl | hp
   ·exact w.hi i (Nat.le_refl _) h0
   ·have h2:=f4
    have hn:=f4.len
    rw[getD_split B default i h0,<-List.take_append_drop (i+1) (ks.map (·.2.1))] at h2
    obtain⟨_,_,s3,_⟩:=sep_split (by rw[List.length_take,List.length_take];omega) h2
    refine s3 p ?_
    rw[<-List.take_append_getElem (by rw[List.length_map];exact hik),List.flatten_append]
    refine List.mem_append_right _ ?_
    have:(ks.map (·.2.1))[i]'(by rw[List.length_map];exact hik)=kk.2.1:=by
     rw[List.getElem_map]
     rw[(List.getElem?_eq_some_iff.1 hk).2]
    rw[this];simpa using hp
 ·rw[List.map_append,List.map_append,List.flatten_append,List.flatten_append] at hu
  rcases List.mem_append.1 hu with hu | hu
  ·rcases List.mem_append.1 hu with hu | hu
   ·refine .inl ?_
    rw[f3]
    obtain⟨r,hr,hu⟩:=List.mem_flatten.1 hu
    obtain⟨k,hk,rfl⟩:=List.mem_map.1 hr
    exact List.mem_flatten.2 ⟨_,List.mem_map.2 ⟨k,List.mem_of_mem_take hk,rfl⟩,hu⟩
   ·rw[<-g3] at hu
    exact .inr hu
  ·refine .inl ?_
   rw[f3]
   obtain⟨r,hr,hu⟩:=List.mem_flatten.1 hu
   obtain⟨k,hk,rfl⟩:=List.mem_map.1 hr
   exact List.mem_flatten.2 ⟨_,List.mem_map.2 ⟨k,List.mem_of_mem_drop hk,rfl⟩,hu⟩
theorem For.cut {T:Nat->List Pr->List Nat->Prop} {B:List ByteArray} {ks:List (Nat×List Pr×List Nat)} {l:List Pr} {Q:List Nat} (F:For T B ks l Q) (i:Nat) (h1:1<=i) (hi:i<=B.length) :
  ∃l1 l2 Q1 Q2,l=l1 ++ l2/\Q=Q1 ++ Q2/\For T (B.take (i - 1)) (ks.take i) l1 Q1/\For T (B.drop i) (ks.drop i) l2 Q2/\Blw l1 (B.getD (i - 1) default)/\Nbl l2 (B.getD (i - 1) default):=by
 obtain⟨f1,f2,f3,f4,f5⟩:=F
 have hn:=f4.len
 have h2:=f4
 rw[getD_split B default (i - 1) (by omega),<-List.take_append_drop i (ks.map (·.2.1))] at h2
 obtain⟨s1,s2,s3,s4⟩:=sep_split (by rw[List.length_take,List.length_take];omega) h2
 rw[show i - 1+1=i by omega] at s2
 rw[<-List.map_take] at s1 s3
 rw[<-List.map_drop] at s2 s4
 refine⟨_,_,_,_,?_,?_,⟨fun k hk=>f1 k (List.mem_of_mem_take hk),rfl,rfl,s1,f5.take _⟩,⟨fun k hk=>f1 k (List.mem_of_mem_drop hk),rfl,rfl,s2,f5.drop _⟩,s3,s4⟩
 ·rw[f2,<-List.flatten_append,<-List.map_append,List.take_append_drop]
 ·rw[f3,<-List.flatten_append,<-List.map_append,List.take_append_drop]
theorem For.one {T:Nat->List Pr->List Nat->Prop} {u:Nat} {l:List Pr} {Q:List Nat} (t:T u l Q) (hn:l ≠ []):For T [] [(u,l,Q)] l Q:=
 ⟨fun k hk=>by rw[List.mem_singleton.1 hk];exact t,by simp,by simp,hn,fun k hk=>by cases hk⟩
theorem For.two {T:Nat->List Pr->List Nat->Prop} {u u2:Nat} {l l2:List Pr} {Q Q2:List Nat} {x:ByteArray} (t:T u l Q) (t2:T u2 l2 Q2) (hn:l ≠ []) (hn2:l2 ≠ []) (hb:Blw l x) (hb2:Nbl l2 x) (hx:1<=x.size/\x.size<=80):For T [x] [(u,l,Q),(u2,l2,Q2)] (l ++ l2) (Q ++ Q2):=
 ⟨fun k hk=>by
  rcases List.mem_cons.1 hk with rfl | hk
  ·exact t
  ·rw[List.mem_singleton.1 hk];exact t2,by simp,by simp,⟨hn,hb,by simpa using hb2,hn2⟩,fun k hk=>by rw[List.mem_singleton.1 hk];exact hx⟩
theorem grown_size {B B':List ByteArray} {i n:Nat} (hB':Kok B') (hb:B'.length<=1) (hs:hsz n (kb B)<=32):hsz (n+B'.length) (kb (B.take i ++ B' ++ B.drop i))<=46:=by
 have h1:=kb_le hB'
 have h2:=kb_split B i
 rw[kb_app,kb_app]
 unfold hsz need at *
 omega
theorem Inv.apartB {nu:Nat} {F:Nat->Nat->Bool} {K:Nat->Nat} {u v:Nat} (h:Inv nu F K (fun _=>0)) (hu:K u≠0) (hv:K v≠0) (hlt:u<v):u+2 ^ lv (K u)<=v:=by
 refine Classical.byContradiction fun hn=>?_
 obtain⟨h1,_,h3⟩:=h.lift hu
 have hd:v / 2 ^ lv (K u)=u / 2 ^ lv (K u):=by
  have e:u=2 ^ lv (K u) * (u / 2 ^ lv (K u)):=by rw[Nat.mul_comm];exact h3.symm
  have p:=two_pos (lv (K u))
  generalize u / 2 ^ lv (K u)=c at *
  generalize 2 ^ lv (K u)=Y at *
  refine Nat.div_eq_of_lt_le ?_ ?_
  ·rw[Nat.mul_comm];omega
  ·rw[Nat.add_mul,Nat.mul_comm c Y];omega
 have:=h1.unasked (u:=v) (h.asks v hv).1 (by unfold ind;rw[if_pos hd])
 unfold setK at this
 rw[if_neg (by omega)] at this
 exact hv this

section
section
variable {nu sz:Nat} {w w' w0:World} {hb sb b:Nat} {T:Tay} {A:Ab} {P:List (Int×Int)}
def gwN (g:Nat->Int) (a:Nat) (wd:Nat->Nat) (o j:Nat):Nat->Int:=fun i=>if a<=i/\i<a+j then ((wd (o+(i - a)):Nat):Int) else g i
theorem gw_zero (g:Nat->Int) (a:Nat) (wd:Nat->Nat) (o:Nat):gwN g a wd o 0=g:=by
 funext i;unfold gwN;rw[if_neg (by omega)]
theorem gw_step (g:Nat->Int) (a:Nat) (wd:Nat->Nat) (o j:Nat):upd (gwN g a wd o j) (a+j) ((wd (o+j):Nat):Int)=gwN g a wd o (j+1):=by
 funext i
 by_cases h:i=a+j
 ·subst h
  rw[upd_same]
  unfold gwN
  rw[if_pos (by omega),show a+j - a=j by omega]
 ·rw[upd_other _ _ h]
  unfold gwN
  by_cases h2:a<=i/\i<a+j
  ·rw[if_pos h2,if_pos (by omega)]
  ·rw[if_neg h2,if_neg (by omega)]
end
end

section
theorem pow_split {i m:Nat} (h:i<=m):(2:Nat) ^ m=2 ^ i * 2 ^ (m - i):=by rw[<-Nat.pow_add];congr 1;omega
theorem in_block {i m v:Nat} (h:i<=m):v / 2 ^ i * 2 ^ i / 2 ^ m=v / 2 ^ m:=by
 rw[pow_split h,Nat.mul_comm (v / 2 ^ i),Nat.mul_div_mul_left _ _ (two_pos i),Nat.div_div_eq_div_mul]
theorem up_block {j i c:Nat} (h:j<=i):c * 2 ^ j / 2 ^ i=c / 2 ^ (i - j):=by
 rw[pow_split h,Nat.mul_comm c,Nat.mul_div_mul_left _ _ (two_pos j)]
theorem bud_up {j i c:Nat} (h:j<i):bud c * 2 ^ j / 2 ^ i=c * 2 ^ j / 2 ^ i:=by
 rw[up_block (by omega),up_block (by omega)]
 obtain⟨d,hd⟩:∃d,i - j=d+1:=⟨i - j - 1,by omega⟩
 rw[hd,Nat.pow_succ,Nat.mul_comm,<-Nat.div_div_eq_div_mul,<-Nat.div_div_eq_div_mul,bud_half]
section
variable {nu:Nat} {F:Nat->Nat->Bool} {K:Nat->Nat}
theorem Inv.who (h:Inv nu F K (fun _=>0)) {v:Nat} (hv':v<nu):∃i,i<7/\(F i (v / 2 ^ i)=true\/pc K i (v / 2 ^ i)=true):=by
 have h1:hv F K v+0=1:=h.cov v hv'
 obtain⟨i,hi,h2⟩:=sum7_pos (g:=fun k=>(F k (v / 2 ^ k)).toNat+(pc K k (v / 2 ^ k)).toNat) (by unfold hv at h1;omega)
 refine⟨i,hi,?_⟩
 cases e1:F i (v / 2 ^ i)
 ·cases e2:pc K i (v / 2 ^ i)
  ·simp only[e1,e2] at h2
   simp at h2
  ·exact .inr rfl
 ·exact .inl rfl
theorem Inv.not_two (h:Inv nu F K (fun _=>0)) {v i j:Nat} (hv':v<nu) (hi:i<7) (hj:j<7) (hne:i≠j) (h1:F i (v / 2 ^ i)=true) (h2:F j (v / 2 ^ j)=true):False:=by
 have h3:hv F K v+0=1:=h.cov v hv'
 have h4:=sum7_le2 (fun k=>(F k (v / 2 ^ k)).toNat+(pc K k (v / 2 ^ k)).toNat) hi hj hne
 simp only[h1,h2] at h4
 unfold hv at h3
 simp at h4
 omega
theorem Inv.dense (h:Inv nu F K (fun _=>0)) {m:Nat} (hm:m<7) (hp:∀u,K u≠0->lv (K u)<=m) (hf:∀j,m<=j->j<7->∀c,F j c=false) {b:Nat} (hb:b<nu / 2 ^ m):∃u,K u≠0/\u / 2 ^ m=b:=by
 refine Classical.byContradiction fun hno=>?_
 have hno':∀u,K u≠0->u / 2 ^ m≠b:=fun u h1 h2=>hno ⟨u,h1,h2⟩
 have nopc:∀v i,v / 2 ^ m=b->pc K i (v / 2 ^ i)=true->False:=fun v i hvb hpc=>by
  unfold pc at hpc
  have hpc':=of_decide_eq_true hpc
  have him:i<=m:=by rw[<-hpc'.2];exact hp _ hpc'.1
  exact hno' _ hpc'.1 (by rw[in_block him];exact hvb)
 have key:∀j,j<=m->∀i,i<j->∀c,c * 2 ^ i / 2 ^ m=b->F i c=false:=by
  intro j
  induction j with
  | zero=>intro _ i hi;omega
  | succ j ih=>
   intro hj i hi c hc
   by_cases e:i<j
   ·exact ih (by omega) i e c hc
   ·have:i=j:=by omega
    subst this
    cases hF:F i c with
    | false=>rfl
    | true=>
     exfalso
     have hin:=h.inside i (by omega) c hF
     have c1:=block_lt hin
     have hbu:bud c * 2 ^ i / 2 ^ m=b:=by rw[bud_up (by omega)];exact hc
     have bb:=block_lt hb
     have hvN:bud c * 2 ^ i<nu:=by
      have h1:bud c * 2 ^ i<(b+1) * 2 ^ m:=by
       have:=Nat.lt_mul_div_succ (bud c * 2 ^ i) (two_pos m)
       rw[hbu] at this
       rw[Nat.mul_comm (b+1)];exact this
      rw[Nat.add_mul,Nat.one_mul] at h1
      omega
     obtain⟨k,hk,hw⟩:=h.who hvN
     rcases hw with hw | hw
     ·by_cases k1:k<i
      ·have:=ih (by omega) k k1 (bud c * 2 ^ i / 2 ^ k) (by rw[in_block (by omega)];exact hbu)
       rw[this] at hw;cases hw
      ·by_cases k2:k=i
       ·subst k2
        rw[block_self] at hw
        have:=h.half k (by omega) c hF
        rw[this] at hw;cases hw
       ·rw[bud_up (by omega)] at hw
        refine h.not_two (v:=c * 2 ^ i) (by have:=two_pos i;omega) hk (show i<7 by omega) (by omega) hw ?_
        rw[block_self];exact hF
     ·exact nopc _ k hbu hw
 obtain⟨k,hk,hw⟩:=h.who (block_in hb)
 have hself:b * 2 ^ m / 2 ^ m=b:=block_self m b
 rcases hw with hw | hw
 ·by_cases k1:k<m
  ·have:=key m (Nat.le_refl _) k k1 (b * 2 ^ m / 2 ^ k) (by rw[in_block (by omega)];exact hself)
   rw[this] at hw;cases hw
  ·rw[hf k (by omega) hk] at hw;cases hw
 ·exact nopc _ k hself hw
theorem sumTo_up (g:Nat->Nat) {a c:Nat} (h:a<=c):sumTo g a<=sumTo g c:=by
 obtain⟨d,rfl⟩:∃d,c=a+d:=⟨c - a,by omega⟩
 induction d with
 | zero=>exact Nat.le_refl _
 | succ d ih=>rw[<-Nat.add_assoc];simp only[sumTo];have:=ih (by omega);omega
theorem sumTo_has (g:Nat->Nat) {a c u:Nat} (h1:a<=u) (h2:u<c) (h3:1<=g u):sumTo g a+1<=sumTo g c:=by
 have x1:=sumTo_up g h1
 have x2:=sumTo_up g (show u+1<=c by omega)
 simp only[sumTo] at x2
 omega
theorem Inv.many (h:Inv nu F K (fun _=>0)) {m:Nat} (hm:m<7) (hp:∀u,K u≠0->lv (K u)<=m) (hf:∀j,m<=j->j<7->∀c,F j c=false):nu / 2 ^ m<=cnt nu K:=by
 have key:∀n,n<=nu / 2 ^ m->n<=sumTo (fun u=>if K u=0 then 0 else 1) (n * 2 ^ m):=by
  intro n
  induction n with
  | zero=>intro _;exact Nat.zero_le _
  | succ n ih=>
   intro hn
   obtain⟨u,h1,h2⟩:=h.dense hm hp hf (b:=n) (by omega)
   rw[Nat.div_eq_iff (two_pos m)] at h2
   have:=sumTo_has (fun u=>if K u=0 then 0 else 1) (a:=n * 2 ^ m) (c:=(n+1) * 2 ^ m) (u:=u) h2.1 (by rw[Nat.add_mul,Nat.one_mul];have:=two_pos m;omega) (by simp[h1])
   have:=ih (by omega)
   omega
 exact Nat.le_trans (key _ (Nat.le_refl _)) (sumTo_up _ (Nat.div_mul_le_self nu (2 ^ m)))
theorem Inv.roomy (h:Inv nu F K (fun _=>0)) {m k:Nat} (hm:m<7) (hk:k<=m) (hp:∀u,K u≠0->lv (K u)<=m) (hc:cnt nu K<nu / 2 ^ m) (hf:∀j,k<=j->j<7->∀c,F j c=false):False:=by
 have:=h.many hm hp (fun j h1 h2=>hf j (by omega) h2)
 omega
theorem cnt_le (nu:Nat) (K:Nat->Nat):cnt nu K<=nu:=by
 have:cnt nu K<=sumTo (fun _=>1) nu:=sumTo_le fun u _=>by split <;> omega
 rwa [sumTo_one] at this
theorem cnt_none (nu:Nat):cnt nu (fun _=>0)=0:=sumTo_zero fun u _=>by simp
end
end
structure Chg (nu:Nat) (f:Nat->Int) (k:Nat) (g:Nat->Int):Prop where
 st:HpS nu g
 sam:∀v,ask nu f v≠0->Sam nu f g v
 few:cnt nu (ask nu g)<=cnt nu (ask nu f)+k
 used:inP nu (ask nu g)<=inP nu (ask nu f)+4 * k
 low:(∀u,ask nu f u<=32)->∀u,ask nu g u<=32
 root:∀i,2<=i->i<18->g i=f i
theorem Chg.refl {nu:Nat} {f:Nat->Int} (s:HpS nu f):Chg nu f 0 f:=⟨s,fun _ _=>⟨rfl,fun _ _=>rfl⟩,Nat.le_refl _,Nat.le_refl _,fun h=>h,fun _ _ _=>rfl⟩
theorem Sam.trans {nu:Nat} {f g h:Nat->Int} {v:Nat} (a:Sam nu f g v) (b:Sam nu g h v):Sam nu f h v:=⟨b.1.trans a.1,fun i hi=>(b.2 i (by rw[a.1];exact hi)).trans (a.2 i hi)⟩
theorem Chg.trans {nu j k:Nat} {f g h:Nat->Int} (a:Chg nu f j g) (b:Chg nu g k h):Chg nu f (j+k) h:=
 ⟨b.st,fun v hv=>(a.sam v hv).trans (b.sam v (by rw[(a.sam v hv).1];exact hv)),by have:=a.few;have:=b.few;omega,by have:=a.used;have:=b.used;omega,fun hl=>b.low (a.low hl),fun i h1 h2=>(b.root i h1 h2).trans (a.root i h1 h2)⟩
theorem Chg.tree {nu sz k:Nat} {f g:Nat->Int} (a:Chg nu f k g) {h u:Nat} {l:List Pr} {Q:List Nat} (t:Tr nu sz f h u l Q) (hq:∀v∈Q,ask nu f v≠0):Tr nu sz g h u l Q:=t.same fun v hv=>a.sam v (hq v hv)
theorem Tr.asked {nu sz:Nat} {f:Nat->Int}:∀{h u:Nat} {l:List Pr} {Q:List Nat},Tr nu sz f h u l Q->∀v∈Q,ask nu f v≠0
 | 0,_,_,_,x,_,_=>x.elim
 | h+1,u,l,Q,⟨n,Q',s,x,e⟩,v,hv=>by
  rw[e] at hv
  rcases List.mem_cons.1 hv with rfl | hv
  ·rw[s.ak]
   omega
  ·rcases x with ⟨_,_,_,rfl⟩ | ⟨h2,B,ks,e1,F⟩
   ·cases hv
   ·rw[F.2.2.1] at hv
    obtain⟨r,hr,hv⟩:=List.mem_flatten.1 hv
    obtain⟨k,hk,rfl⟩:=List.mem_map.1 hr
    exact(F.1 k hk).asked v hv
theorem Chg.tr {nu sz k:Nat} {f g:Nat->Int} (a:Chg nu f k g) {h u:Nat} {l:List Pr} {Q:List Nat} (t:Tr nu sz f h u l Q):Tr nu sz g h u l Q:=a.tree t t.asked
theorem Chg.un {nu sz k:Nat} {f g:Nat->Int} (a:Chg nu f k g) {h h':Nat} {n:Nd} {l:List Pr} {Q:List Nat} (t:Un nu (Tr nu sz f h) h' n l Q):Un nu (Tr nu sz g h) h' n l Q:=t.mono fun _ _ _ x _=>a.tr x
theorem Chg.fo {nu sz k:Nat} {f g:Nat->Int} (a:Chg nu f k g) {h:Nat} {B:List ByteArray} {ks:List (Nat×List Pr×List Nat)} {l:List Pr} {Q:List Nat} (F:For (Tr nu sz f h) B ks l Q):For (Tr nu sz g h) B ks l Q:=⟨fun k hk=>a.tr (F.1 k hk),F.2⟩
def wrt (nu:Nat) (g:Nat->Int) (u:Nat) (n:Nd):Nat->Int:=gwN g (fi nu+8 * u) (fun i=>n.wds.getD i 0) 0 n.size
theorem lv2 {x:Nat} (h:x<=32):lv x<=2:=by
 unfold lv
 split
 ·omega
 ·split
  ·omega
  ·omega
theorem lv2b {x:Nat} (h:x<=32):2 ^ lv x<=4:=by
 have:=Nat.pow_le_pow_right (n:=2) (by omega) (lv2 h)
 exact this
theorem wrote {nu sz:Nat} {f g:Nat->Int} {u:Nat} {n:Nd} (geo:Geo nu sz) (t:Took nu f 32 u g) (ok:n.Ok) (le:n.size<=32):Std nu sz (wrt nu g u n) u n/\Chg nu f 1 (wrt nu g u n):=by
 have h1:=n.size_pos
 have hw:n.wds.length=n.size:=n.wds_len ok.kok
 obtain⟨c,e,hc⟩:=t.blk
 have hp:=lv_holds 32 (by omega)
 have hb:=lv2b (x:=32) (by omega)
 have hroom:=geo.room
 have hun:u+2 ^ lv 32<=nu:=by
  have h3:(c+1) * 2 ^ lv 32<=nu / 2 ^ lv 32 * 2 ^ lv 32:=Nat.mul_le_mul_right _ hc
  have h4:=Nat.div_mul_le_self nu (2 ^ lv 32)
  rw[Nat.add_mul] at h3
  omega
 have lo:∀i,i<fi nu->wrt nu g u n i=g i:=fun i hi=>by
  unfold wrt gwN
  rw[if_neg (by omega)]
 have ea:ask nu (wrt nu g u n)=setK (ask nu f) u 32:=(ask_own lo).trans t.ak
 have st:HpS nu (wrt nu g u n):=t.st.own lo
 have au:ask nu (wrt nu g u n) u=32:=by rw[ea];simp[setK]
 refine⟨⟨au,le,by omega,fun i x hx=>?_,ok⟩,st,fun v hv=>?_,?_,?_,fun hl v=>?_,fun i i1 i2=>?_⟩
 ·have hi:=(List.getElem?_eq_some_iff.1 hx).1
  unfold wrt gwN
  rw[if_pos (by omega),show 0+(fi nu+8 * u+i - (fi nu+8 * u))=i by omega]
  simp[List.getD,hx]
 ·have hne:v≠u:=fun e=>hv (by rw[e];exact t.was)
  have av:ask nu (wrt nu g u n) v=ask nu f v:=by rw[ea];simp[setK,hne]
  refine⟨av,fun i hi=>?_⟩
  have hx:=lv_holds _ (st.inv.asks v (by omega)).2.1
  have hap:fi nu+8 * v+i<fi nu+8 * u\/fi nu+8 * u+8 * 2 ^ lv 32<=fi nu+8 * v+i:=by
   rcases Nat.lt_or_gt_of_ne hne with h | h
   ·have:=st.inv.apartB (u:=v) (v:=u) (by omega) (by omega) h
    omega
   ·have:=st.inv.apartB (u:=u) (v:=v) (by omega) (by omega) h
    rw[au] at this
    omega
  unfold wrt gwN
  rw[if_neg (by omega)]
  exact t.keep _ (by omega) hap
 ·have:=cnt_set (K:=ask nu f) (u:=u) (nu:=nu) (by omega) 32
  rw[t.was] at this
  rw[ea]
  simp at this
  omega
 ·have:=inP_lay (nu:=nu) (K:=ask nu f) (x:=32) (b:=c) hc rfl (by omega) (by rw[<-e];exact t.was)
  rw[<-e] at this
  rw[ea,this]
  omega
 ·rw[ea]
  unfold setK
  split
  ·exact Nat.le_refl _
  ·exact hl v
 ·rw[lo i (by have:=geo.b;omega)]
  exact t.root i i1 i2
theorem roomy2 {nu:Nat} {f:Nat->Int} {x:Nat} (s:HpS nu f) (hx:x<=32) (hl:∀u,ask nu f u<=32) (hc:cnt nu (ask nu f)<nu / 4) (hf:∀j,lv x<=j->j<7->∀c,fre nu f j c=false):False:=
 s.inv.roomy (m:=2) (k:=lv x) (by omega) (lv2 hx) (fun u _=>lv2 (hl u)) hc hf

section
structure Cg (nu sz:Nat) (w0:World) (hb sb b:Nat) (T0:Tay) (A:Ab) (cb:Nat) (w:World) (T:Tay) (P:List (Int×Int)) (tv:Value) (m:Nat):Prop where
 on:Onx w0 sb b T0 w T sz A P false
 hp:Hp nu sz w hb sb b T A P
 new:w0.heap.size<=cb
 hb0:hb<w0.heap.size
 z0:0<w0.heap.size
 ncb:¬tfoot sb b T cb
 ob:w.heap[cb]? = some (.cells #[ptr sb,ptr hb,tv] 81 (0,0))
 row:∃xs,w.ownsRow w0.heap.size 3 1 tv m xs
 nrow:∀k,tv.ownBlock=some k->k≠cb/\¬tfoot sb b T k
def Off (sb b:Nat) (T:Tay) (cb:Nat) (tv:Value) (w:World) (k:Nat):Prop:=k<w.heap.size/\¬tfoot sb b T k/\k≠cb/\tv.ownBlock≠some k
section
variable {nu sz:Nat} {w w' w0:World} {hb sb b cb m:Nat} {T T0 T':Tay} {A:Ab} {P P':List (Int×Int)} {tv:Value} {g:Nat->Int}
theorem Cg.lt (c:Cg nu sz w0 hb sb b T0 A cb w T P tv m):cb<w.heap.size:=World.block_lt_of_cell? _ ⟨cb,0,none⟩ (cOo c.ob 0)
theorem Cg.still (c:Cg nu sz w0 hb sb b T0 A cb w T P tv m) (f:St w w'):Cg nu sz w0 hb sb b T0 A cb w' T P tv m:=by
 obtain⟨xs,r⟩:=c.row
 exact⟨c.on.quiet f,c.hp.still f,c.new,c.hb0,c.z0,c.ncb,f.obj c.ob id,⟨xs,own_still r f⟩,c.nrow⟩
theorem Off.still {k:Nat} (h:Off sb b T cb tv w k) (f:St w w'):w'.heap[k]? = w.heap[k]?/\Off sb b T cb tv w' k:=⟨f.block k h.1 id,Nat.lt_of_lt_of_le h.1 f.size,h.2⟩
theorem Cg.fresh (c:Cg nu sz w0 hb sb b T0 A cb w T P tv m) {k:Nat} (h1:w.heap.size<=k) (h2:k<w'.heap.size):Off sb b T cb tv w' k:=by
 obtain⟨xs,r⟩:=c.row
 exact⟨h2,fun x=>by have:=c.hp.st.lt k x;omega,fun e=>by have:=c.lt;omega,fun e=>by have:=(r.lt k e).2;omega⟩
theorem Cg.store (c:Cg nu sz w0 hb sb b T0 A cb w T P tv m) (o:Onx w sb b T w' T' sz A P' false):Cg nu sz w0 hb sb b T0 A cb w' T' P' tv m/\∀k,Off sb b T cb tv w k->w'.heap[k]? = w.heap[k]?/\Off sb b T' cb tv w' k:=by
 obtain⟨xs,r⟩:=c.row
 refine⟨⟨c.on.trans o,c.hp.call o,c.new,c.hb0,c.z0,o.other c.lt c.ncb,o.fr.obj c.ob c.ncb,⟨xs,owns_same r fun k hk=>o.fr.block k (r.lt k hk).2 (c.nrow k hk).2⟩,fun k hk=>⟨(c.nrow k hk).1,o.other (r.lt k hk).2 (c.nrow k hk).2⟩⟩,fun k hk=>⟨o.fr.block k hk.1 hk.2.1,Nat.lt_of_lt_of_le hk.1 o.fr.size,o.other hk.1 hk.2.1,hk.2.2⟩⟩
end
end
end Go.Proofs.YtbiopjmpdhcjgaaGreatDoor
