/- Joined: Wc Ya Yb. -/
import Derived.Deep.RegionHeld
import Derived.Shelf.Small.Strs
import Derived.Sort.Walk0
import Derived.Test.YtbiopjmpdhcjgaaGreatDoorZ05
import Derived.Test.YtbiopjmpdhcjgaaGreatDoorZ13
namespace Go.Proofs
open Go.Shelf
def Tryz.lays106_ren : Go.Shelf.Ren := ⟨fun | 106 => 100 | 213 => 148 | 265 => 185 | n => n, fun | 9 => 9 | 3 => 3 | n => n, fun | n => n⟩
theorem Tryz.lays106 : Go.Proofs.Lays.n106 Tryz.prog Tryz.lays106_ren := {
  mixed := by kernel_rfl
  f106 := Tryz.func100.trans (congrArg some (by kernel_rfl))
  f213 := Tryz.func148.trans (congrArg some (by kernel_rfl))
  f265 := Tryz.func185.trans (congrArg some (by kernel_rfl))
  t3 := Tryz.underlying3
  a3 := Tryz.isAgg3
  z3 := Tryz.sizeOf3
  v3 := Tryz.zeroValue3
  t9 := Tryz.underlying9
  a9 := Tryz.isAgg9
  z9 := Tryz.sizeOf9
  v9 := Tryz.zeroValue9 }
end Go.Proofs
namespace Go.Proofs.YtbiopjmpdhcjgaaGreatDoor
open Go.RowKit
set_option maxHeartbeats 4000000
theorem rows_form {t:TypeId} {w:World} {base n:Nat} {v:Value} {xs:List Value} (h:w.ownsRow base t 1 v n xs):∃pa pc,v = .slice pa n pc:=by
 rcases h.2 with ⟨hv,hn⟩ | ⟨g,cap,cur,hv,_⟩
 ·exact⟨none,0,by rw[hn];exact hv⟩
 ·exact⟨_,cap,hv⟩
theorem infoS:(Tryz.prog.info? 89).map (fun i=>(i.zero,i.size,i.bytes))=some (some (.slice none 0 0),1,24):=by kernel_rfl
theorem infoT:(Tryz.prog.info? 9).map (fun i=>(i.zero,i.size,i.bytes))=some (some (.string ⟨#[]⟩),1,16):=by kernel_rfl
def cutA (a:Option Addr) (cap l:Nat):Option Addr:=if cap=l then a else a.map (·.add (l * 1))
theorem slice_run (a:Option Addr) (len cap l:Nat) (k:IntKind) (w:World) (hl:l<=len):(Instr.slice 89 (.slice a len cap) (some (.int k (l:Nat))) none none).run Tryz.prog w = .ok (.slice (cutA a cap l) (len - l) (cap - l)) w:=by
 obtain⟨i,hi,hzz⟩:=Option.map_eq_some_iff.1 infoB
 simp only[Prod.mk.injEq] at hzz
 have he:Tryz.prog.elem 89=5:=by kernel_rfl
 have hs:(sizeOf 5).run Tryz.prog w = .ok 1 w:=by simp[sizeOf,typeInfo,hi,hzz.2.1]
 rw[run_slice_l (P:=Tryz.prog) w 89 a len cap (by rw[he];exact Tryz.underlying89) k (l:Nat) (by omega) (by omega),he,hs]
 simp[Result.andThen,sliced,cutA]
theorem cut_nats (a:Option Addr) (len cap l:Nat) (w:World) (hc:len<=cap) (f:Nat->Nat) (hN:Nats .u8 w a len f):Nats .u8 w (cutA a cap l) (len - l) (fun t=>f (l+t)):=by
 intro i hi
 obtain⟨xb,xo,rfl,c⟩:=hN (l+i) (by omega)
 unfold cutA
 rw[if_neg (by omega)]
 have hadd:(⟨xb,xo,none⟩:Addr).add (l * 1)=⟨xb,xo+l,none⟩:=by unfold Addr.add;split <;> simp_all
 exact⟨xb,xo+l,by simp only[Option.map_some,hadd],by rw[Nat.add_assoc];exact c⟩
theorem make_bytes64 (n:Nat) (hn:n<=1000000) (w:World):∃w',(Instr.makeSlice 89 (.int .u64 (n:Int)) (.int .u64 (n:Int))).run Tryz.prog w = .ok (.slice (some ⟨w.heap.size,0,none⟩) n n) w'/\(∃cur:List Value,w'.heap[w.heap.size]? = some (.cells cur.toArray 5 (0,0))/\cur.length=n)/\Below w.heap.size w w':=
 ⟨_,run_make_row' 89 5 (.int .u8 0) 1 Tryz.underlying89 infoB rfl .u64 .u64 n (by omega) (by omega) w,⟨(madeCells #[.int .u8 0] n).toList,by rw[heap_alloc_new],by simp[madeCells]⟩,(Below.refl _ w).alloc (Nat.le_refl _) _⟩
theorem cells_u8:(Tryz.prog.info? 5).map (·.size)=some 1:=by
 obtain⟨i,hi,hzz⟩:=Option.map_eq_some_iff.1 infoB
 simp only[Prod.mk.injEq] at hzz
 rw[hi];simp[hzz.2.1]
theorem copy_all (w:World) (g d:Nat) (cur:List Value) (a:Option Addr) (n c:Nat) (f:Nat->Nat) (hg:w.heap[g]? = some (.cells cur.toArray 5 (0,0))) (hl:cur.length=d) (hd:d<=n) (hN:Nats .u8 w a n f) :
  ∃w' v,(Builtin.copy_ #[89,89] 3 #[.slice (some ⟨g,0,none⟩) d d,.slice a n c]).run Tryz.prog w = .ok v w'/\w'.heap[g]? = some (.cells (vals .u8 (rowL f d)).toArray 5 (0,0))/\Fr (fun k=>k=g) w w':=by
 by_cases h0:d=0
 ·have hc:cur = []:=List.eq_nil_of_length_eq_zero (by omega)
  refine⟨w,_,run_copy_none (P:=Tryz.prog) w 89 89 3 5 _ _ d d n c Tryz.underlying89 cells_u8 (by subst h0;exact Nat.min_zero _),?_,Fr.refl _ _⟩
  rw[hg,hc,h0];rfl
 ·obtain⟨xb,xo,rfl,_⟩:=hN 0 (by omega)
  refine⟨_,_,run_copy_row (P:=Tryz.prog) w 89 89 3 5 g 0 d d ⟨xb,xo,none⟩ n c cur.toArray 5 (vals .u8 (rowL f d)) Tryz.underlying89 cells_u8 hg ?_ ?_ ?_ ?_,?_,Fr.setRow _ _ _⟩
  ·simp[rowL];exact(Nat.min_eq_right hd).symm
  ·intro j u hu
   have hj:j<d:=by have:=(List.getElem?_eq_some_iff.1 hu).1;simpa [rowL] using this
   obtain⟨_,_,e,c⟩:=hN j (by omega)
   cases e
   have hadd:(⟨xb,xo,none⟩:Addr).add j=⟨xb,xo+j,none⟩:=by unfold Addr.add;split <;> simp_all
   rw[hadd,c,<-hu]
   simp[rowL,hj]
  ·simp[rowL];omega
  ·intro u hu;simp at hu;obtain⟨_,_,rfl⟩:=hu;rfl
  ·rw[setRow_heap w g _ _ 5 (0,0) hg]
   congr 2
   simp[vals,rowL,hl]
theorem run_val {et st:TypeId} {z:Value} {bytes:Nat} (hinfo:(Tryz.prog.info? et).map (fun i=>(i.zero,i.size,i.bytes))=some (some z,1,bytes)) (hz1:z.cells.size=1) (hbb:bytes<=24) (hun:Tryz.prog.underlying st=some (.slice et))
  (w:World) (lo:Nat) (v:Value) (n:Nat) (xs:List Value) (hown:w.ownsRow lo et 1 v n xs) (y:Value) (hy:y.oneCell'=true) (hl:n<=1000) (hlo:lo<=w.heap.size) :
  ∃v' w',(Builtin.append_ #[st,st] st #[v,.slice (some ⟨w.heap.size,0,none⟩) 1 1]).run Tryz.prog (w.alloc (.cells #[y] et)) = .ok v' w'/\w'.ownsRow lo et 1 v' (n+1) (xs ++ [y])/\Fr (fun k=>v.ownBlock=some k) w w'/\(v'.ownBlock=v.ownBlock\/v'.ownBlock=some (w.heap.size+1)):=by
 obtain⟨i,hi,hzz⟩:=Option.map_eq_some_iff.1 hinfo
 simp only[Prod.mk.injEq] at hzz
 obtain⟨hz,hsize,hby⟩:=hzz
 have hA:(w.alloc (.cells #[y] et)).heap.size=w.heap.size+1:=by simp
 have own1:(w.alloc (.cells #[y] et)).ownsRow lo et 1 v n xs:=owns_same hown fun k hk=>((Fr.refl (fun _=>False) w).alloc _).block k (hown.lt k hk).2 id
 obtain⟨v',w',hr,h2,h3,_,h5⟩:=run_append_own_at (P:=Tryz.prog) (w.alloc (.cells #[y] et)) lo st st et i z 1 bytes hun hi hz hsize hby hz1 (by decide) v n xs own1 ⟨w.heap.size,0,none⟩ 1 1 [y] rfl (cell_one_new w _ _) (by intro q hq;simp at hq;subst hq;exact hy) (by unfold maxLen;omega) (by have:(n+1) * bytes<=1001 * 24:=Nat.mul_le_mul (by omega) hbb;omega) (by rw[hA];omega)
 exact⟨v',w',hr,by simpa using h2,((Fr.refl (fun k=>v.ownBlock=some k) w).alloc _).grown h3 (fun r e=>.inl e),by rw[hA] at h5;exact h5⟩
theorem joinF_data (L:Nat->Nat) (Z:Nat->Nat->Nat) (n i t:Nat) (h:i<n) (hL:∀i,i<n->L i<16384) (ht:t<L i):joinF L Z n (offL L i+(ul (L i)+t))=Z i t:=by
 obtain⟨rest,e⟩:=join_part L Z n i h
 have hl:=join_len L Z i (fun j hj=>hL j (by omega))
 have hu:=uv_ul _ (hL i h)
 unfold joinF
 rw[List.getD_eq_getElem?_getD,e,List.getElem?_append_right (by omega),hl,show offL L i+(ul (L i)+t) - offL L i=ul (L i)+t by omega]
 unfold partL
 rw[List.append_assoc,List.getElem?_append_right (by omega),hu,show ul (L i)+t - ul (L i)=t by omega,List.getElem?_append_left (by rw[rowL_len];exact ht),<-List.getD_eq_getElem?_getD,rowL_get _ _ _ ht]
theorem nats_fr {k:IntKind} {w w':World} {a:Option Addr} {n:Nat} {bt:Nat->Nat} (h:Nats k w a n bt) {F:Nat->Prop} (f:Fr F w w') (hn:∀x,a=some x->¬F x.block):Nats k w' a n bt:=fun i hi=>by
 obtain⟨xb,xo,e,c⟩:=h i hi
 exact⟨xb,xo,e,f.cell' c (hn ⟨xb,xo,none⟩ e)⟩
def ptsV (G L:Nat->Nat) (i:Nat):List Value:=(List.range i).map fun t=>.slice (some ⟨G t,0,none⟩) (L t) (L t)
theorem ptsV_succ (G L:Nat->Nat) (i:Nat):ptsV G L (i+1)=ptsV G L i ++ [.slice (some ⟨G i,0,none⟩) (L i) (L i)]:=by simp[ptsV,List.range_succ]
theorem ptsV_congr (G G' L:Nat->Nat) (i:Nat) (h:∀t,t<i->G t=G' t):ptsV G L i=ptsV G' L i:=by
 unfold ptsV
 exact List.map_congr_left fun t ht=>by rw[h t (by simpa using ht)]
def PtB (w:World) (g n:Nat) (f:Nat->Nat):Prop:=w.heap[g]? = some (.cells (vals .u8 (rowL f n)).toArray 5 (0,0))
theorem PtB.kept {w w':World} {g n:Nat} {f:Nat->Nat} (h:PtB w g n f) {F:Nat->Prop} (fr:Fr F w w') (hn:¬F g):PtB w' g n f:=fr.obj h hn
theorem PtB.nats {w:World} {g n:Nat} {f:Nat->Nat} (h:PtB w g n f):Nats .u8 w (some ⟨g,0,none⟩) n f:=fun i hi=>⟨g,0,rfl,by
 have:=cOo h (0+i)
 rw[this]
 simp[vals,rowL,hi]⟩
def lenOf:Value->Nat | .slice _ m _=>m | _=>0
set_option maxRecDepth 100000 in
theorem split_all (a:Option Addr) (k cap n:Nat) (L:Nat->Nat) (Z:Nat->Nat->Nat) (w:World) (hN:Nats .u8 w a k (joinF L Z n)) (hk:k=offL L n) (hkc:k<=cap) (hn:n<=200) (hL:∀i,i<n->L i<=3000) (hk2:k<=100000) :
  Calls Tryz.prog 183 #[.slice a k cap] w fun e w'=>∃G pv,e = .returned (.tuple #[pv,.int .i64 0])/\St w w'/\w'.ownsRow w.heap.size 89 1 pv n (ptsV G L n)/\∀t,t<n->w.heap.size<=G t/\pv.ownBlock≠some (G t)/\PtB w' (G t) (L t) (Z t):=by
 have HN:=@Hd _ hN
 have HL:=@Hd _ hL
 have HAt:=@Hd _ (fun i hi=>joinF_at L Z n i hi (fun j hj=>by have:=hL j hj;omega))
 have HDt:=@Hd _ (fun i t hi ht=>joinF_data L Z n i t hi (fun j hj=>by have:=hL j hj;omega) ht)
 have KV:=@Hd _ var_ok
 have HKC:=Hd hkc
 have offm:∀i,i<=n->offL L i<=k:=fun i hi=>by
  rcases Nat.lt_or_ge i n with h | h
  ·have:=off_lt L i n h;omega
  ·have e:i=n:=by omega
   subst e;omega
 have HOF:=@Hd _ offm
 clear hN hL offm
 go_enter Tryz.func183,Tryz.ntmps183
 go_wp2_with fail
 go_loopw [0,4] (fun vb vp wr=>∃(i c:Nat) (ab:Option Addr) (G:Nat->Nat),vb = .slice ab (k - offL L i) c/\Hid (i<=n/\k - offL L i<=c/\(∀w2,St w w2->Nats .u8 w2 ab (k - offL L i) (fun t=>joinF L Z n (offL L i+t)))/\wr.ownsRow w.heap.size 89 1 vp i (ptsV G L i)/\(∀t,t<i->w.heap.size<=G t/\vp.ownBlock≠some (G t)/\PtB wr (G t) (L t) (Z t))/\St w wr)) (fun vb vp wr=>lenOf vb)
 case atStart=>exact⟨0,cap,a,fun _=>0,rfl,Hd ⟨Nat.zero_le _,by simpa [offL] using uh HKC,fun w2 h=>by simpa [offL] using nats_fr (uh HN) h (fun _ _ x=>x),World.ownsRow_nil _ _ _ _,fun t ht=>by omega,Fr.refl _ _⟩⟩
 case round=>
  obtain⟨i,c,ab,G,rfl,HI⟩:=hrel
  generalize wr=wq at *
  clear wr
  obtain⟨hin,hc,hNa,hX,hG,hB⟩:=uh HI
  have hof:=uh HOF i hin
  by_cases hend:i=n
  ·subst hend
   have he:k - offL L i=0:=by omega
   rw[he]
   obtain⟨pa,pc,rfl⟩:=rows_form hX
   have HE:=Hd (ai hX (ai hG hB))
   clear HI hX hG hNa hB hc hof he HN HL HAt HDt KV HKC HOF
   go_wp2
   go_ret2
   obtain⟨hX,hG,hB⟩:=uh HE
   exact⟨G,_,rfl,hB,hX,hG⟩
  ·have hi:i<n:=by omega
   have hli:=uh HL i hi
   obtain⟨hA1,hA2⟩:=uh HAt i hi
   have hstep:offL L (i+1)=offL L i+(ul (L i)+L i):=rfl
   have hup:=ul_pos (L i)
   have hnx:=uh HOF (i+1) (by omega)
   have hpos:(0:Int)<((k - offL L i:Nat):Int):=by omega
   have KV1:=Hd (uh KV ab (k - offL L i) c (fun t=>joinF L Z n (offL L i+t)) (L i) wq (hNa wq hB) (by omega) (by omega) (by omega) hA1 (fun h=>⟨(hA2 h).1,fun _=>(hA2 h).2⟩))
   have htorn:L i<128\/2<=k - offL L i:=by
    by_cases h:L i<128
    ·exact .inl h
    ·right;unfold ul at hstep;rw[if_neg h] at hstep;omega
   have hv:varR (L i) (k - offL L i)=#[.int .u64 (L i:Nat),.int .i64 (ul (L i):Nat),.int .i64 0]:=by unfold varR;rw[if_pos htorn]
   rw[hv] at KV1
   have hum:ul (L i)<=k - offL L i:=by omega
   have hs1:=slice_run ab (k - offL L i) c (ul (L i)) .i64 wq hum
   have hbig':¬((k - offL L i - ul (L i):Nat):Int)<(L i:Nat):=by omega
   have hmm:k - offL L i - ul (L i)<=100000:=by omega
   have hNB:∀w2,St w w2->Nats .u8 w2 (cutA ab c (ul (L i))) (k - offL L i - ul (L i)) (fun t=>joinF L Z n (offL L i+(ul (L i)+t))):=fun w2 h=>cut_nats ab (k - offL L i) c (ul (L i)) w2 hc _ (hNa w2 h)
   obtain⟨w1,hmk,⟨cur,hcur,hcl⟩,hB1⟩:=make_bytes64 (L i) (by omega) wq
   have f1:St wq w1:=Fr.ofBelow hB1
   have f01:St w w1:=hB.trans' f1 nE
   obtain⟨w2,cv,hcp,hcell,f2⟩:=copy_all w1 wq.heap.size (L i) cur (cutA ab c (ul (L i))) (k - offL L i - ul (L i)) (c - ul (L i)) _ hcur hcl (by omega) (hNB w1 f01)
   have f02:St wq w2:=f1.trans' f2 (fun k hk=>.inr (by have hk:k=wq.heap.size:=hk;omega))
   have pb2:PtB w2 wq.heap.size (L i) (Z i):=by
    unfold PtB
    rw[hcell]
    congr 2
    unfold rowL vals
    rw[List.map_map,List.map_map]
    congr 1
    exact List.map_congr_left fun t ht=>by
     show Value.int .u8 ((joinF L Z n (offL L i+(ul (L i)+t)):Nat):Int)=Value.int .u8 ((Z i t:Nat):Int)
     rw[uh HDt i t hi (by simpa using ht)]
   obtain⟨v3,w3,h36,own3,fr3,loc3⟩:=run_val infoS rfl (by decide) Tryz.underlying224 w2 w.heap.size u4 i (ptsV G L i) (owns_same hX fun k hk=>f02.block k (hX.lt k hk).2 id) (.slice (some ⟨wq.heap.size,0,none⟩) (L i) (L i)) rfl (by omega) (Nat.le_trans hB.size f02.size)
   have z2:wq.heap.size<w2.heap.size:=(Array.getElem?_eq_some_iff.1 hcell).1
   have gol:∀t,t<i->G t<wq.heap.size:=fun t ht=>(Array.getElem?_eq_some_iff.1 (hG t ht).2.2).1
   have HNX:=Hd (show ∃G',w3.ownsRow w.heap.size 89 1 v3 (i+1) (ptsV G' L (i+1))/\(∀t,t<i+1->w.heap.size<=G' t/\v3.ownBlock≠some (G' t)/\PtB w3 (G' t) (L t) (Z t))/\St w w3 from by
    refine⟨fun t=>if t=i then wq.heap.size else G t,?_,fun t ht=>?_,?_⟩
    ·rw[ptsV_succ,ptsV_congr _ G L i (fun t ht=>if_neg (by omega))]
     simpa using own3
    ·have hx4:∀g,u4.ownBlock=some g->g<wq.heap.size:=fun g hg=>(hX.lt g hg).2
     by_cases e:t=i
     ·subst e
      simp only[if_true]
      refine⟨hB.size,fun e=>?_,pb2.kept fr3 (fun e=>by have:=hx4 _ e;omega)⟩
      rcases loc3 with h | h
      ·rw[h] at e;have:=hx4 _ e;omega
      ·rw[h] at e;have:=Option.some.inj e;omega
     ·simp only[if_neg e]
      obtain⟨p1,p2,p3⟩:=hG t (by omega)
      have:=gol t (by omega)
      refine⟨p1,fun e=>?_,(p3.kept f02 id).kept fr3 p2⟩
      rcases loc3 with h | h
      ·rw[h] at e;exact p2 e
      ·rw[h] at e;have:=Option.some.inj e;omega
    ·exact(hB.trans' f02 nE).trans' fr3 (fun k hk=>.inr (hX.lt k hk).1))
   have H36:=Hd h36
   have HST:=Hd (ai hstep (ai hc (ai hum hnx)))
   have HNB:=@Hd _ hNB
   have hs2:=fun w=>slice_run (cutA ab c (ul (L i))) (k - offL L i - ul (L i)) (c - ul (L i)) (L i) .u64 w (by omega)
   clear HI hX hG hNa hB hA1 hA2 hv hstep htorn hend hcur hcl hB1 f1 f01 f2 f02 pb2 own3 fr3 loc3 h36 hcell z2 gol hNB hc hnx hof HN HL HAt HDt KV HOF
   generalize hu:ul (L i)=u at *
   generalize hm2:k - offL L i - u=m2 at *
   generalize hm:k - offL L i=m at *
   generalize ha2:cutA ab c u=ab2 at *
   generalize hlk:L i=li at *
   have HEQ:=Hd (ai hu (ai hm2 (ai hm (ai ha2 hlk))))
   clear hu hm2 hm ha2 hlk
   go_wp2_with fail
   refine(uh KV1).mono ?_
   rintro e w' ⟨rfl,h⟩;rw[h];clear h w'
   go_wp2_with (at_builtin;refine wpList_append_run rfl (.tmp 34) (.tmp 36) 224 rfl _ _ rfl rfl v3 w3 (uh H36) ?_)
   have HFN:=Hd (show k - offL L (i+1)=m2 - li/\k - offL L (i+1)<=c - u - li/\m2 - li<m/\∀t,offL L i+(u+(li+t))=offL L (i+1)+t by
    obtain⟨e1,e2,e3,_,e5⟩:=uh HEQ
    obtain⟨e6,e7,e8,e9⟩:=uh HST
    rw[e6]
    refine⟨by omega,by omega,by omega,fun t=>by omega⟩)
   go_wp2
   go_roundw
   case rel=>
    obtain⟨f2,f3,_,f5⟩:=uh HFN
    obtain⟨G',o3,g3,b3⟩:=uh HNX
    refine⟨i+1,c - u - li,cutA ab2 (c - u) li,G',by rw[f2],Hd ⟨by omega,f3,fun w4 h4=>?_,o3,g3,b3⟩⟩
    have h5:=cut_nats ab2 m2 (c - u) li w4 (by have:=(uh HST).2.1;have e:=uh HEQ;omega) _ (uh HNB w4 h4)
    rw[f2]
    intro t ht
    obtain⟨xb,xo,e,cc⟩:=h5 t ht
    refine⟨xb,xo,e,?_⟩
    rw[cc]
    show some (Value.int .u8 ((joinF L Z n (offL L i+(u+(li+t))):Nat):Int))=_
    rw[f5 t]
   case measure=>
    have:=uh HFN
    simp[lenOf];omega
abbrev hdV (h i b:Nat):Value:=.agg #[.int .i64 h,.int .i64 i,.int .i64 b]
abbrev hdO (h i b:Nat):Obj:=.cells #[.int .i64 h,.int .i64 i,.int .i64 b] 105
def hsz (i b:Nat):Nat:=i+need b
def hwN (h i b:Nat):Nat:=8390880540210757632+h * 16777216+i * 65536+b
abbrev kdV (a p:Nat):Value:=.agg #[.int .u64 a,.int .i64 p]
def itN (a p:Nat):Nat:=p * 4294967296+a
theorem y_must (w:World):Calls Tryz.prog 69 #[.bool true] w fun e w'=>e = .returned (.tuple #[])/\w'=w:=by
 go_enter Tryz.func69,Tryz.ntmps69
 go_wp2
 go_end0
 exact⟨rfl,rfl⟩
theorem it_parts (a p:Nat) (ha:a<4294967296) (hp:p<2147483648):bits .and .u64 ((itN a p:Nat):Int) 4294967295=(a:Nat)/\((itN a p:Nat):Int) / 4294967296=(p:Nat)/\itN a p<18446744073709551616:=by
 have hl:itN a p<18446744073709551616:=by unfold itN;omega
 refine⟨?_,?_,hl⟩
 ·rw[show(4294967295:Int)=((4294967295:Nat):Int) from rfl,u64_and_nat _ _ hl (by decide),show(4294967295:Nat)=2 ^ 32 - 1 from rfl,Nat.and_two_pow_sub_one_eq_mod]
  unfold itN
  congr 1
  omega
 ·unfold itN;omega
theorem y_kidOf (a p:Nat) (ha:a<4294967296) (hp:p<2147483648) (w:World):Calls Tryz.prog 71 #[.int .u64 (itN a p)] w fun e w'=>e = .returned (kdV a p)/\St w w':=by
 obtain⟨e1,e2,_⟩:=it_parts a p ha hp
 generalize itN a p=x at *
 have e3:IntKind.i64.wrap (p:Int)=p:=(wrap_small _ (by omega) (by omega)).1
 go_enter Tryz.func71,Tryz.ntmps71
 go_wp2
 refine bodyPost_ret (results_cell_row Tryz.results71 _ _ w.heap.size 123 #[.int .u64 a,.int .i64 p] (0,0) _ (by rfl) (heap_alloc_new w _) Tryz.underlying123 rfl (by kernel_rfl)) rfl ?_
 exact⟨rfl,(Fr.refl _ w).alloc _⟩
theorem y_size (h i b:Nat) (hi:i<256) (hb:b<65536) (w:World):Calls Tryz.prog 103 #[hdV h i b] w fun e w'=>e = .returned (.int .i64 (hsz i b))/\St w w':=by
 have ND:=wneed_ok b (by omega)
 have hd:1<=need b/\need b<=10000:=by unfold need;omega
 unfold hsz
 unfold hdV
 obtain⟨W,hW⟩:∃W,w.alloc (hdO h i b)=W:=⟨_,rfl⟩
 have fW:St w W:=hW▸(Fr.refl _ w).alloc _
 have bW:W.heap[w.heap.size]? = some (.cells #[.int .i64 h,.int .i64 i,.int .i64 b] 105 (0,0)):=hW▸heap_alloc_new w _
 have c1:W.cell? ⟨w.heap.size,1,none⟩=some (.int .i64 i):=cOo bW 1
 have c2:W.cell? ⟨w.heap.size,2,none⟩=some (.int .i64 b):=cOo bW 2
 generalize need b=d at *
 have HW:=Hd hW;have HF:=Hd fW
 clear hW fW bW
 go_enter Tryz.func103,Tryz.ntmps103
 go_wp2_with fail
 rw[uh HW]
 generalize w.heap.size=g at *
 go_region_held (fun w'=>w'.cell? ⟨g,1,none⟩=some (.int .i64 i)/\w'.cell? ⟨g,2,none⟩=some (.int .i64 b)) (go_keep) (first | (go_at_call 151;refine(ND _).mono ?_;rintro e w' ⟨rfl,rfl⟩))
 have w1:IntKind.i64.wrap ((i:Int)+d)=(i:Int)+d:=(wrap_small _ (by omega) (by omega)).1
 rw[w1]
 go_wp2
 go_ret
 exact⟨by simp only[Int.natCast_add];rfl,(uh HF).drewN 1⟩
theorem or_head (h i b:Nat) (hh:h<256) (hi:i<256) (hb:b<65536):bits .or .u64 (bits .or .u64 (bits .or .u64 8390880540210757632 ((h * 16777216:Nat):Int)) ((i * 65536:Nat):Int)) ((b:Nat):Int)=((hwN h i b:Nat):Int):=by
 rw[show(8390880540210757632:Int)=((8390880540210757632:Nat):Int) from rfl,u64_or_nat _ _ (by omega) (by omega)]
 have e1:8390880540210757632 ||| h * 16777216=8390880540210757632+h * 16777216:=by
  have:=Nat.two_pow_add_eq_or_of_lt (i:=32) (b:=h * 16777216) (by omega) 1953654117
  rw[show(2:Nat) ^ 32 * 1953654117=8390880540210757632 by omega] at this
  exact this.symm
 rw[e1,u64_or_nat _ _ (by omega) (by omega)]
 have e2:(8390880540210757632+h * 16777216) ||| i * 65536=8390880540210757632+h * 16777216+i * 65536:=by
  have:=Nat.two_pow_add_eq_or_of_lt (i:=24) (b:=i * 65536) (by omega) (500135453952+h)
  rw[show(2:Nat) ^ 24 * (500135453952+h)=8390880540210757632+h * 16777216 by omega] at this
  exact this.symm
 rw[e2,u64_or_nat _ _ (by omega) (by omega)]
 have e3:(8390880540210757632+h * 16777216+i * 65536) ||| b=hwN h i b:=by
  have:=Nat.two_pow_add_eq_or_of_lt (i:=16) (b:=b) (by omega) (128034676211712+h * 256+i)
  rw[show(2:Nat) ^ 16 * (128034676211712+h * 256+i)=8390880540210757632+h * 16777216+i * 65536 by omega] at this
  exact this.symm
 rw[e3]
theorem y_word (h i b:Nat) (hh:h<256) (hi:i<256) (hb:b<65536) (w:World):Calls Tryz.prog 176 #[hdV h i b] w fun e w'=>e = .returned (.int .u64 (hwN h i b))/\St w w':=by
 have HO:=Hd (or_head h i b hh hi hb)
 have w1:IntKind.u64.wrap ((h:Int) * 16777216)=((h * 16777216:Nat):Int):=by rw[IntKind.wrap_u64];omega
 have w2:IntKind.u64.wrap ((i:Int) * 65536)=((i * 65536:Nat):Int):=by rw[IntKind.wrap_u64];omega
 have w3:IntKind.u64.wrap (h:Int)=h:=by rw[IntKind.wrap_u64];omega
 have w4:IntKind.u64.wrap (i:Int)=i:=by rw[IntKind.wrap_u64];omega
 have w5:IntKind.u64.wrap (b:Int)=b:=by rw[IntKind.wrap_u64];omega
 go_enter Tryz.func176,Tryz.ntmps176
 go_wp2
 go_ret
 refine⟨?_,(Fr.refl _ w).alloc _⟩
 have:=uh HO
 simp only[Int.natCast_mul] at this ⊢
 rw[<-this];rfl
abbrev ltK (a b:ByteArray):Prop:=a.data.toList<b.data.toList
theorem bytes_ext {a b:ByteArray} (h:a.data.toList=b.data.toList):a=b:=by
 cases a with | mk x=>cases b with | mk y=>cases x with | mk x=>cases y with | mk y=>exact congrArg (fun l=>ByteArray.mk (Array.mk l)) h
theorem ltK_irr (a:ByteArray):¬ltK a a:=List.lt_irrefl _
theorem ltK_trans {a b c:ByteArray} (h:ltK a b) (g:ltK b c):ltK a c:=List.lt_trans h g
theorem ltK_tri {a b:ByteArray} (h:¬ltK a b) (g:¬ltK b a):a=b:=bytes_ext (List.le_antisymm (List.not_lt.1 g) (List.not_lt.1 h))
theorem ltK_asym {a b:ByteArray} (h:ltK a b):¬ltK b a:=fun g=>ltK_irr a (ltK_trans h g)
theorem ltK_le_trans {a b c:ByteArray} (h:¬ltK b a) (g:ltK b c):ltK a c:=by
 by_cases x:ltK a b
 ·exact ltK_trans x g
 ·rw[ltK_tri x h];exact g
theorem ltK_trans_le {a b c:ByteArray} (h:ltK a b) (g:¬ltK c b):ltK a c:=by
 by_cases x:ltK b c
 ·exact ltK_trans h x
 ·rw[<-ltK_tri x g];exact h
theorem cmp_lt:∀(a b:List UInt8),(Lib.compareBytes a b<0)=(a<b)/\(Lib.compareBytes a b=0)=(a=b)
 | [],[]=>by simp[Lib.compareBytes]
 | [],_ :: _=>by simp[Lib.compareBytes]
 | _ :: _,[]=>by simp[Lib.compareBytes]
 | x :: a,y :: b=>by
  obtain⟨i1,i2⟩:=cmp_lt a b
  unfold Lib.compareBytes
  by_cases h:x<y
  ·have hn:x≠y:=fun e=>by subst e;exact UInt8.lt_irrefl x h
   simp[h,hn,List.cons_lt_cons_iff]
  ·by_cases g:y<x
   ·have hn:x≠y:=fun e=>by subst e;exact UInt8.lt_irrefl x g
    simp[h,g,hn,List.cons_lt_cons_iff]
   ·have e:x=y:=UInt8.le_antisymm (UInt8.not_lt.1 g) (UInt8.not_lt.1 h)
    subst e
    simp only[h,if_false,i1,i2,List.cons_lt_cons_iff,List.cons.injEq,true_and,false_or]
def cmpK (a b:ByteArray):Int:=Lib.compareBytes a.data.toList b.data.toList
theorem cmpK_lt (a b:ByteArray):(cmpK a b<0)=ltK a b:=(cmp_lt _ _).1
theorem cmpK_eq (a b:ByteArray):(cmpK a b=0)=(a=b):=by
 unfold cmpK
 rw[(cmp_lt _ _).2]
 exact propext ⟨bytes_ext,fun h=>h▸rfl⟩
theorem s_compare (a b:ByteArray) (w:World):Calls Tryz.prog 100 #[.string a,.string b] w fun e w'=>e = .returned (.int .i64 (cmpK a b))/\w'=w:=
 Any.strings_Compare Tryz.lays106 a b w
theorem c_nan (a:ByteArray) (w:World):Calls Tryz.prog 184 #[.string a] w fun e w'=>e = .returned (.bool false)/\w'=w:=by
 go_enter Tryz.func184,Tryz.ntmps184
 go_wp2
 go_ret
 exact⟨by simp,rfl⟩
theorem s_nan (a:ByteArray) (w:World):Calls Tryz.prog 147 #[.string a] w fun e w'=>e = .returned (.bool false)/\w'=w:=by
 go_enter Tryz.func147,Tryz.ntmps147
 go_wp2
 go_ret
 exact⟨by simp,rfl⟩
theorem less_eq (a b:ByteArray):Op.bytesLess a.toList b.toList=decide (ltK a b):=by
 rw[bytesLess_eq,Lib.toList_data,Lib.toList_data]
theorem c_less (a b:ByteArray) (w:World):Calls Tryz.prog 146 #[.string a,.string b] w fun e w'=>e = .returned (.bool (decide (ltK a b)))/\w'=w:=by
 rw[<-less_eq]
 go_enter Tryz.func146,Tryz.ntmps146
 go_wp2_with (go_at_call 184;refine(c_nan _ _).mono ?_;rintro e w' ⟨rfl,rfl⟩)
 go_ret
 exact⟨rfl,rfl⟩
def StrsAt (w:World) (a:Option Addr) (n:Nat) (S:Nat->ByteArray):Prop:=∀i,i<n->∃b o,a=some ⟨b,o,none⟩/\w.cell? ⟨b,o+i,none⟩=some (.string (S i))
set_option maxRecDepth 100000 in
theorem s_search (a:Option Addr) (n cap:Nat) (S:Nat->ByteArray) (x:ByteArray) (k:Nat) (w:World) (hS:StrsAt w a n S) (hn:n<=100000) (hk:k<=n) (h1:∀t,t<k->ltK (S t) x) (h2:∀t,k<=t->t<n->¬ltK (S t) x) :
  Calls Tryz.prog 97 #[.slice a n cap,.string x] w fun e w'=>e = .returned (.tuple #[.int .i64 k,.bool (decide (k<n/\S k=x))])/\w'=w:=by
 obtain⟨fd,hfd⟩:∃fd,decide (k<n/\S k=x)=fd:=⟨_,rfl⟩
 rw[hfd]
 go_enter Tryz.func97,Tryz.ntmps97
 go_wp2_with fail
 go_loop [7,8] (fun s7 s8=>∃lo hi:Nat,s7 = .int .i64 lo/\s8 = .int .i64 hi/\lo<=k/\k<=hi/\hi<=n) (fun s7 s8=>(RowKit.intOf s8 - RowKit.intOf s7).toNat)
 case atStart=>exact⟨0,n,rfl,rfl,by omega,hk,by omega⟩
 case round=>
  obtain⟨lo,hi,rfl,rfl,hlk,hkh,hin⟩:=hrel
  by_cases hlt:lo<hi
  ·obtain⟨b,o,rfl,cm⟩:=hS ((lo+hi) / 2) (by omega)
   have em:((lo:Int)+(hi:Int)) / 2=(((lo+hi) / 2:Nat):Int):=by omega
   obtain⟨m,hm⟩:∃m,(lo+hi) / 2=m:=⟨_,rfl⟩
   rw[hm] at cm em
   have hmb:lo<=m/\m<hi:=by omega
   have LT:=c_less (S m) x
   by_cases hl:ltK (S m) x
   ·have hmk:m<k:=Nat.lt_of_not_le fun h=>h2 m h (by omega) hl
    rw[decide_eq_true hl] at LT
    have hlt':(lo:Int)<hi:=by omega
    clear hS h1 h2 hm
    go_wp2_with (first | (go_at_call 146;refine(LT _).mono ?_;rintro e w' ⟨rfl,rfl⟩))
    exact⟨⟨m+1,hi,by simp,rfl,by omega,hkh,hin⟩,by simp[RowKit.intOf];omega⟩
   ·have hmk:k<=m:=Nat.le_of_not_lt fun h=>hl (h1 m h)
    rw[decide_eq_false hl] at LT
    have hlt':(lo:Int)<hi:=by omega
    clear hS h1 h2 hm
    go_wp2_with (first | (go_at_call 146;refine(LT _).mono ?_;rintro e w' ⟨rfl,rfl⟩))
    exact⟨⟨lo,m,rfl,rfl,hlk,hmk,by omega⟩,by simp[RowKit.intOf];omega⟩
  ·have e1:hi=k:=by omega
   have e2:lo=k:=by omega
   subst e1 e2
   by_cases hkn:lo<n
   ·obtain⟨b,o,rfl,cm⟩:=hS lo hkn
    have hkn':(lo:Int)<n:=by omega
    clear hS h1 h2
    by_cases he:S lo=x
    ·have hf:fd=true:=by rw[<-hfd,decide_eq_true (ai hkn he)]
     clear hfd
     rw[he] at cm
     go_wp2_with (first | (go_at_call 147;refine(s_nan _ _).mono ?_;rintro e w' ⟨rfl,rfl⟩))
     go_ret2
     exact⟨by first | rfl | (rw[hf];rfl),rfl⟩
    ·have hf:fd=false:=by rw[<-hfd,decide_eq_false (fun h:lo<n/\S lo=x=>he h.2)]
     clear hfd
     have hne:((S lo).toList == x.toList)=false:=by
      rw[beq_eq_false_iff_ne,Lib.toList_data,Lib.toList_data]
      exact fun h=>he (bytes_ext h)
     generalize S lo=y at *
     go_wp2_with (first | (go_at_call 147;refine(s_nan _ _).mono ?_;rintro e w' ⟨rfl,rfl⟩))
     go_ret2
     exact⟨by first | rfl | (rw[hf];rfl),rfl⟩
   ·have hf:fd=false:=by rw[<-hfd,decide_eq_false (fun h:lo<n/\S lo=x=>hkn h.1)]
    have hkn':¬(lo:Int)<n:=by omega
    clear hS h1 h2
    go_wp2_with fail
    go_ret2
    exact⟨by first | rfl | (rw[hf];rfl),rfl⟩
abbrev prV (k:ByteArray) (v:Nat):Value:=.agg #[.string k,.int .u64 v]
theorem f_cmp (k x:ByteArray) (v:Nat) (w:World):Calls Tryz.prog 99 #[prV k v,.string x] w fun e w'=>e = .returned (.int .i64 (cmpK k x))/\St w w':=by
 have C:=s_compare k x
 go_enter Tryz.func99,Tryz.ntmps99
 go_wp2_with (go_at_call 100;refine(C _).mono ?_;rintro e w' ⟨rfl,rfl⟩)
 go_ret
 exact⟨rfl,(Fr.refl _ w).alloc _⟩
set_option maxRecDepth 100000 in
theorem s_searchF (a:Option Addr) (n cap:Nat) (S:Nat->ByteArray) (v:Nat->Nat) (x:ByteArray) (k:Nat) (w:World) (hS:∀i,i<n->∃b o,a=some ⟨b,o,none⟩/\w.cell? ⟨b,o+i * 2,none⟩=some (.string (S i))/\w.cell? ⟨b,o+i * 2+1,none⟩=some (.int .u64 (v i))) (hn:n<=100000) (hk:k<=n) (h1:∀t,t<k->ltK (S t) x) (h2:∀t,k<=t->t<n->¬ltK (S t) x) :
  Calls Tryz.prog 98 #[.slice a n cap,.string x,.func (.func 99) #[] #[]] w fun e w'=>e = .returned (.tuple #[.int .i64 k,.bool (decide (k<n/\S k=x))])/\St w w':=by
 obtain⟨fd,hfd⟩:∃fd,decide (k<n/\S k=x)=fd:=⟨_,rfl⟩
 rw[hfd]
 go_enter Tryz.func98,Tryz.ntmps98
 go_wp2_with fail
 go_loopw [9,10] (fun s7 s8 wr=>∃lo hi:Nat,s7 = .int .i64 lo/\s8 = .int .i64 hi/\lo<=k/\k<=hi/\hi<=n/\St w wr) (fun s7 s8 wr=>(RowKit.intOf s8 - RowKit.intOf s7).toNat)
 case atStart=>exact⟨0,n,rfl,rfl,by omega,hk,by omega,Fr.refl _ _⟩
 case round=>
  obtain⟨lo,hi,rfl,rfl,hlk,hkh,hin,fr⟩:=hrel
  by_cases hlt:lo<hi
  ·obtain⟨b,o,rfl,cm,cv⟩:=hS ((lo+hi) / 2) (by omega)
   have em:((lo:Int)+(hi:Int)) / 2=(((lo+hi) / 2:Nat):Int):=by omega
   obtain⟨m,hm⟩:∃m,(lo+hi) / 2=m:=⟨_,rfl⟩
   rw[hm] at cm em cv
   replace cm:=fr.cell' cm id
   replace cv:=fr.cell' cv id
   have hmb:lo<=m/\m<hi:=by omega
   have LT:=f_cmp (S m) x (v m)
   have HC:=cmpK_lt (S m) x
   have hlt':(lo:Int)<hi:=by omega
   by_cases hl:ltK (S m) x
   ·have hmk:m<k:=Nat.lt_of_not_le fun h=>h2 m h (by omega) hl
    have hc0:cmpK (S m) x<0:=HC▸hl
    clear hS h1 h2 hm HC
    generalize cmpK (S m) x=c at *
    go_wp2_with (first | (go_at_call 99;refine(LT _).mono ?_;rintro e w' ⟨rfl,f1⟩))
    exact⟨⟨m+1,hi,by simp,rfl,by omega,hkh,hin,fr.trans' f1 nE⟩,by simp[RowKit.intOf];omega⟩
   ·have hmk:k<=m:=Nat.le_of_not_lt fun h=>hl (h1 m h)
    have hc0:¬cmpK (S m) x<0:=HC▸hl
    clear hS h1 h2 hm HC
    generalize cmpK (S m) x=c at *
    go_wp2_with (first | (go_at_call 99;refine(LT _).mono ?_;rintro e w' ⟨rfl,f1⟩))
    exact⟨⟨lo,m,rfl,rfl,hlk,hmk,by omega,fr.trans' f1 nE⟩,by simp[RowKit.intOf];omega⟩
  ·have e1:hi=k:=by omega
   have e2:lo=k:=by omega
   subst e1 e2
   by_cases hkn:lo<n
   ·obtain⟨b,o,rfl,cm,cv⟩:=hS lo hkn
    have hkn':(lo:Int)<n:=by omega
    replace cm:=fr.cell' cm id
    replace cv:=fr.cell' cv id
    have LT:=f_cmp (S lo) x (v lo)
    have HC:=cmpK_eq (S lo) x
    have hfd':fd=(cmpK (S lo) x == 0):=by
     rw[<-hfd,Bool.eq_iff_iff,beq_iff_eq,HC,decide_eq_true_eq]
     exact⟨fun h=>h.2,fun h=>⟨hkn,h⟩⟩
    clear hS h1 h2 HC hfd
    generalize cmpK (S lo) x=c at *
    go_wp2_with (first | (go_at_call 99;refine(LT _).mono ?_;rintro e w' ⟨rfl,f1⟩))
    go_ret2
    refine⟨?_,fr.trans' f1 nE⟩
    rw[hfd']
    rfl
   ·have hf:fd=false:=by rw[<-hfd,decide_eq_false (fun h:lo<n/\S lo=x=>hkn h.1)]
    have hkn':¬(lo:Int)<n:=by omega
    clear hS h1 h2
    go_wp2_with fail
    go_ret2
    exact⟨by first | rfl | (rw[hf];rfl),fr⟩
theorem l_find (a:Option Addr) (n cap:Nat) (S:Nat->ByteArray) (v:Nat->Nat) (x:ByteArray) (k:Nat) (w:World) (hS:∀i,i<n->∃b o,a=some ⟨b,o,none⟩/\w.cell? ⟨b,o+i * 2,none⟩=some (.string (S i))/\w.cell? ⟨b,o+i * 2+1,none⟩=some (.int .u64 (v i))) (hn:n<=100000) (hk:k<=n) (h1:∀t,t<k->ltK (S t) x) (h2:∀t,k<=t->t<n->¬ltK (S t) x) :
  Calls Tryz.prog 55 #[.slice a n cap,.string x] w fun e w'=>e = .returned (.tuple #[.int .i64 k,.bool (decide (k<n/\S k=x))])/\St w w':=by
 have K:=s_searchF a n cap S v x k w hS hn hk h1 h2
 generalize decide (k<n/\S k=x)=fd at *
 clear hS h1 h2
 go_enter Tryz.func55,Tryz.ntmps55
 go_wp2_with (go_at_call 98;refine K.mono ?_;rintro e w' ⟨rfl,f1⟩)
 go_ret2
 exact⟨rfl,f1⟩
end Go.Proofs.YtbiopjmpdhcjgaaGreatDoor
