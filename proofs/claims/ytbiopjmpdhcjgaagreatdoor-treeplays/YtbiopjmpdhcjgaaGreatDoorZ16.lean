/- Joined: Ye Yf Yg Yh Yi Yj Yk. -/
import Derived.Lib.ConvBytes
import Derived.Laws.ResultCell
import Derived.Test.YtbiopjmpdhcjgaaGreatDoorZ13
import Derived.Test.YtbiopjmpdhcjgaaGreatDoorZ15
namespace Go.Proofs.YtbiopjmpdhcjgaaGreatDoor
open Go.RowKit
set_option maxHeartbeats 4000000
def cutZ (sz:Nat) (a:Option Addr) (cap l:Nat):Option Addr:=if cap=l then a else a.map (·.add (l * sz))
theorem slice_fromZ {et st:TypeId} {sz:Nat} (E:ElT et st sz) (he:Tryz.prog.elem st=et) (a:Option Addr) (len cap l:Nat) (w:World) (hl:l<=len):(Instr.slice st (.slice a len cap) (some (.int .i64 (l:Nat))) none none).run Tryz.prog w = .ok (.slice (cutZ sz a cap l) (len - l) (cap - l)) w:=by
 obtain⟨hu,h0,i,z,hi,hz,hsize,hby,hzs⟩:=E
 have hs:(sizeOf et).run Tryz.prog w = .ok sz w:=by simp[sizeOf,typeInfo,hi,hsize]
 rw[run_slice_l (P:=Tryz.prog) w st a len cap (by rw[he];exact hu) .i64 (l:Nat) (by omega) (by omega),he,hs]
 simp[Result.andThen,sliced,cutZ]
theorem slice_toZ {et st:TypeId} {sz:Nat} (E:ElT et st sz) (he:Tryz.prog.elem st=et) (a:Option Addr) (len cap l:Nat) (w:World) (hl:l<=cap):(Instr.slice st (.slice a len cap) none (some (.int .i64 (l:Nat))) none).run Tryz.prog w = .ok (.slice a l cap) w:=by
 obtain⟨hu,h0,i,z,hi,hz,hsize,hby,hzs⟩:=E
 have hs:(sizeOf et).run Tryz.prog w = .ok sz w:=by simp[sizeOf,typeInfo,hi,hsize]
 have ha:a.map (fun x:Addr=>x.add 0)=a:=by
  cases a with
  | none=>rfl
  | some x=>obtain⟨b,o,s⟩:=x;simp[Addr.add]
 rw[run_slice_h (P:=Tryz.prog) w st a len cap (by rw[he];exact hu) .i64 (l:Nat) (by omega) (by omega),he,hs]
 simp[Result.andThen,sliced,ha]
theorem Sl.take {w:World} {sz n c:Nat} {a:Option Addr} {xs:List Value} (h:Sl w sz a n c xs) {k:Nat} (hk:k<=n):Sl w sz a k c (xs.take (k * sz)):=
 ⟨by rw[List.length_take,h.len];have:=Nat.mul_le_mul_right sz hk;omega,Nat.le_trans hk h.cap,(fun e=>by have:=h.nil e;omega),fun u hu=>h.one u (List.mem_of_mem_take hu),(fun j u hu=>by
  rw[List.getElem?_take] at hu
  split at hu
  ·exact h.cells j u hu
  ·cases hu),h.flat⟩
theorem Sl.drop {w:World} {sz n c:Nat} {a:Option Addr} {xs:List Value} (h:Sl w sz a n c xs) (k:Nat) (hk:k<=n):Sl w sz (cutZ sz a c k) (n - k) (c - k) (xs.drop (k * sz)):=by
 have hc:=h.cap
 refine⟨by rw[List.length_drop,h.len,Nat.sub_mul],by omega,fun e=>?_,fun u hu=>h.one u (List.mem_of_mem_drop hu),fun j u hu=>?_,fun x e=>?_⟩
 ·unfold cutZ at e
  split at e
  ·have:=h.nil e;omega
  ·cases a with
   | none=>have:=h.nil rfl;omega
   | some _=>cases e
 ·rw[List.getElem?_drop] at hu
  obtain⟨b,o,e,c1⟩:=h.cells _ _ hu
  have hlt:k * sz+j<n * sz:=by rw[<-h.len];exact(List.getElem?_eq_some_iff.1 hu).1
  have hkn:k<n:=Nat.lt_of_not_le fun hh=>by have:=Nat.mul_le_mul_right sz hh;omega
  unfold cutZ
  rw[if_neg (by omega),e]
  refine⟨b,o+k * sz,?_,by rw[Nat.add_assoc];exact c1⟩
  simp[Addr.add]
 ·unfold cutZ at e
  split at e
  ·exact h.flat x e
  ·cases a with
   | none=>cases e
   | some y=>
    have hs:=h.flat y rfl
    obtain⟨b,o,s⟩:=y
    cases hs
    simp only[Option.map_some,Option.some.injEq] at e
    rw[<-e]
    unfold Addr.add
    split <;> rfl
def putL (l:List Pr) (k j:Nat) (x:ByteArray) (v:Nat):List Pr:=l.take k ++ ((x,v) :: l.drop j)
theorem elem_leaf:Tryz.prog.elem 100=43:=by kernel_rfl
set_option maxRecDepth 100000 in
theorem l_with (a:Option Addr) (c:Nat) (l:List Pr) (x:ByteArray) (v k j:Nat) (w:World) (h:Lf w a c l) (hl:l.length<=500) (hk:k<=l.length) (h1:∀t,t<k->ltK (l.getD t default).1 x) (h2:∀t,k<=t->t<l.length->¬ltK (l.getD t default).1 x)
  (hj:j=if k<l.length/\(l.getD k default).1=x then k+1 else k) :
  Calls Tryz.prog 92 #[.slice a l.length c,.string x,.int .u64 v] w fun e w'=>∃u,e = .returned u/\w'.ownsRow w.heap.size 43 2 u (putL l k j x v).length (pcl (putL l k j x v))/\St w w':=by
 have FD:=l_find a l.length c (fun t=>(l.getD t default).1) (fun t=>(l.getD t default).2) x k w (fun i hi=>h.pair (p:=l.getD i default) (by simp[List.getD,List.getElem?_eq_getElem hi])) (by omega) hk h1 h2
 have hjn:j<=l.length:=by rw[hj];split <;> omega
 have hc:=h.cap
 have s1:=fun w=>slice_toZ elt_P elem_leaf a l.length c k w (by omega)
 have s2:=fun w=>slice_fromZ elt_P elem_leaf a l.length c j w hjn
 have S1:=h.take hk
 have S2:=h.drop j hjn
 rw[pcl_take] at S1
 rw[pcl_drop] at S2
 have HL:(putL l k j x v).length=k+1+(l.length - j):=by
  unfold putL
  simp
  omega
 have HP:pcl (putL l k j x v)=(pcl (l.take k) ++ [.string x,.int .u64 v]) ++ pcl (l.drop j):=by
  unfold putL
  rw[pcl_app]
  simp[pcl]
 generalize cutZ 2 a c j=a2 at *
 have CT:∀w1,St w w1->∀W,W=(w1.alloc (.cells #[.string x,.int .u64 v] 43))->Calls Tryz.prog 141 #[.slice (some ⟨w1.heap.size+1,0,none⟩) 3 3] (W.alloc (.cells #[.slice a k c,.slice (some ⟨w1.heap.size,0,none⟩) 1 1,.slice a2 (l.length - j) (c - j)] 100)) fun e w'=>∃u,e = .returned u/\w'.ownsRow w.heap.size 43 2 u (putL l k j x v).length (pcl (putL l k j x v))/\St w w':=by
  intro w1 f1 W hW
  obtain⟨W2,hW2⟩:∃W2,W.alloc (.cells #[.slice a k c,.slice (some ⟨w1.heap.size,0,none⟩) 1 1,.slice a2 (l.length - j) (c - j)] 100)=W2:=⟨_,rfl⟩
  rw[hW2]
  have fW:St w1 W:=hW▸(Fr.refl _ w1).alloc _
  have fW2:St W W2:=hW2▸(Fr.refl _ W).alloc _
  have hs:W.heap.size=w1.heap.size+1:=by rw[hW];simp
  have oP:W2.heap[w1.heap.size]? = some (.cells #[.string x,.int .u64 v] 43 (0,0)):=fW2.obj (by rw[hW];exact heap_alloc_new w1 _) id
  have oR:W2.heap[w1.heap.size+1]? = some (.cells #[.slice a k c,.slice (some ⟨w1.heap.size,0,none⟩) 1 1,.slice a2 (l.length - j) (c - j)] 100 (0,0)):=by rw[<-hs,<-hW2];exact heap_alloc_new W _
  have f2:St w W2:=(f1.trans' fW nE).trans' fW2 nE
  have SP:Sl W2 2 (some ⟨w1.heap.size,0,none⟩) 1 1 [.string x,.int .u64 v]:=⟨rfl,Nat.le_refl _,(fun e=>by cases e),(fun u hu=>by
   rcases List.mem_cons.1 hu with rfl | hu
   ·rfl
   ·rcases List.mem_cons.1 hu with rfl | hu
    ·rfl
    ·cases hu),(fun j u hu=>⟨w1.heap.size,0,rfl,by
    rw[Nat.zero_add,cOo oP j]
    rw[<-hu]
    simp⟩),(fun x e=>by cases e;rfl)⟩
  have K:=cat_P (some ⟨w1.heap.size+1,0,none⟩) 3 3 (fun t=>if t=0 then a else if t=1 then some ⟨w1.heap.size,0,none⟩ else a2) (fun t=>if t=0 then k else if t=1 then 1 else l.length - j) (fun t=>if t=0 then c else if t=1 then 1 else c - j) (fun t=>if t=0 then pcl (l.take k) else if t=1 then [.string x,.int .u64 v] else pcl (l.drop j)) W2 (fun i hi=>by
   rcases (show i=0\/i=1\/i=2 by omega) with rfl | rfl | rfl
   ·exact⟨⟨w1.heap.size+1,0,rfl,show W2.cell? ⟨w1.heap.size+1,0,none⟩=some (.slice a k c) from cOo oR 0⟩,S1.still f2⟩
   ·exact⟨⟨w1.heap.size+1,0,rfl,show W2.cell? ⟨w1.heap.size+1,1,none⟩=some (.slice (some ⟨w1.heap.size,0,none⟩) 1 1) from cOo oR 1⟩,SP⟩
   ·exact⟨⟨w1.heap.size+1,0,rfl,show W2.cell? ⟨w1.heap.size+1,2,none⟩=some (.slice a2 (l.length - j) (c - j)) from cOo oR 2⟩,S2.still f2⟩) (by omega) (by simp[offN];omega)
  refine K.mono ?_
  rintro e w' ⟨u,rfl,hu,f3⟩
  refine⟨u,rfl,?_,f2.trans' f3 nE⟩
  rw[HL,HP]
  have e1:offN (fun t=>if t=0 then k else if t=1 then 1 else l.length - j) 3=k+1+(l.length - j):=by simp[offN]
  have e2:catX (fun t=>if t=0 then pcl (l.take k) else if t=1 then [.string x,.int .u64 v] else pcl (l.drop j)) 3=(pcl (l.take k) ++ [.string x,.int .u64 v]) ++ pcl (l.drop j):=by simp[catX]
  rw[e1,e2] at hu
  exact own_lo hu f2.size
 clear S1 S2
 generalize l.length - j=n2 at s2 CT
 generalize c - j=c2 at s2 CT
 have HCT:=@Hd _ CT
 have hjk:(decide (k<l.length/\(l.getD k default).1=x)=true/\j=k+1)\/(decide (k<l.length/\(l.getD k default).1=x)=false/\j=k):=by
  rw[hj]
  by_cases hh:k<l.length/\(l.getD k default).1=x
  ·rw[if_pos hh];exact .inl ⟨decide_eq_true hh,rfl⟩
  ·rw[if_neg hh];exact .inr ⟨decide_eq_false hh,rfl⟩
 clear CT h1 h2 HP h hj
 generalize decide (k<l.length/\(l.getD k default).1=x)=fd at *
 clear HL
 generalize (putL l k j x v).length=m1 at *
 generalize pcl (putL l k j x v)=m2 at *
 generalize l.length=n at *
 have hk5:k<=500:=by omega
 have HH:=Hd (ai hl (ai hk (ai hjn hc)))
 clear hl hk hjn hc
 rcases hjk with ⟨rfl,rfl⟩ | ⟨rfl,e⟩
 ·rw[show((k+1:Nat):Int)=(k:Int)+1 by omega] at s2
  go_enter Tryz.func92,Tryz.ntmps92
  go_wp2_with (first | (go_at_call 55;refine FD.mono ?_;rintro e w1 ⟨rfl,f1⟩) | fail)
  clear FD
  refine wp_region_held_drew (S:=fun _=>True) (by kernel_rfl) trivial (fun hHeld=>?_)
  refine tkO 0 ?_ hHeld rfl ?_ ?_
  rotate_left
  ·intro w q;go_simp;try with_reducible rfl
  simp only[apt,List.set]
  refine tkO 1 ?_ hHeld rfl ?_ ?_
  rotate_left
  ·intro w q;go_simp;try with_reducible rfl
  simp only[apt,List.set]
  refine tkO 2 (.slice a k c) hHeld rfl ?_ ?_
  ·(intro w q;go_simp;first | done | (rw[s1 w];rfl) | (simp[s1 w]))
  simp only[apt,List.set]
  refine tkO 3 ?_ hHeld rfl ?_ ?_
  rotate_left
  ·intro w q;go_simp;try with_reducible rfl
  simp only[apt,List.set]
  refine tkO 4 ?_ hHeld rfl ?_ ?_
  rotate_left
  ·intro w q;go_simp;try with_reducible rfl
  simp only[apt,List.set]
  refine tkO 5 ?_ hHeld rfl ?_ ?_
  rotate_left
  ·intro w q;go_simp;try with_reducible rfl
  simp only[apt,List.set]
  refine tkO 7 ?_ hHeld rfl ?_ ?_
  rotate_left
  ·intro w q;go_simp;try with_reducible rfl
  simp only[apt,List.set]
  refine tkO 8 ?_ hHeld rfl ?_ ?_
  rotate_left
  ·intro w q;go_simp;try with_reducible rfl
  simp only[apt,List.set]
  refine tkO 9 (.slice a2 n2 c2) hHeld rfl ?_ ?_
  ·(intro w q;go_simp;first | done | (rw[s2 w];rfl) | (simp[s2 w];try rfl))
  simp only[apt,List.set]
  refine rdO 6 rfl (fun K hK=>?_)
  go_simp
  refine hK.out _ _ trivial (fun _=>?_)
  clear hK K
  refine rdO 10 rfl (fun K hK=>?_)
  go_simp
  refine hK.out _ _ trivial (fun _=>?_)
  clear hK K
  refine rdO 11 rfl (fun K hK=>?_)
  go_simp
  go_wp2_with fail
  have f1':St w w1.drew:=f1.drewN 1
  refine(uh HCT w1.drew f1' _ rfl).mono ?_
  clear HCT
  rintro e w3 ⟨u,rfl,hu,f3⟩
  refine hK.out _ _ trivial (fun _=>?_)
  clear hK K
  refine rdO 12 rfl (fun K hK=>?_)
  go_simp
  refine hK.out _ _ trivial (fun _=>?_)
  clear hK K
  refine wpAnyH_done (by kernel_rfl) ?_ _
  go_wp2
  go_ret
  exact⟨u,rfl,hu,f3⟩
 ·replace e:=e.symm
  subst e
  go_enter Tryz.func92,Tryz.ntmps92
  go_wp2_with (first | (go_at_call 55;refine FD.mono ?_;rintro e w1 ⟨rfl,f1⟩) | fail)
  clear FD
  refine wp_region_held_drew (S:=fun _=>True) (by kernel_rfl) trivial (fun hHeld=>?_)
  refine tkO 0 ?_ hHeld rfl ?_ ?_
  rotate_left
  ·intro w q;go_simp;try with_reducible rfl
  simp only[apt,List.set]
  refine tkO 1 ?_ hHeld rfl ?_ ?_
  rotate_left
  ·intro w q;go_simp;try with_reducible rfl
  simp only[apt,List.set]
  refine tkO 2 (.slice a k c) hHeld rfl ?_ ?_
  ·(intro w q;go_simp;first | done | (rw[s1 w];rfl) | (simp[s1 w]))
  simp only[apt,List.set]
  refine tkO 3 ?_ hHeld rfl ?_ ?_
  rotate_left
  ·intro w q;go_simp;try with_reducible rfl
  simp only[apt,List.set]
  refine tkO 4 ?_ hHeld rfl ?_ ?_
  rotate_left
  ·intro w q;go_simp;try with_reducible rfl
  simp only[apt,List.set]
  refine tkO 5 ?_ hHeld rfl ?_ ?_
  rotate_left
  ·intro w q;go_simp;try with_reducible rfl
  simp only[apt,List.set]
  refine tkO 7 ?_ hHeld rfl ?_ ?_
  rotate_left
  ·intro w q;go_simp;try with_reducible rfl
  simp only[apt,List.set]
  refine tkO 8 ?_ hHeld rfl ?_ ?_
  rotate_left
  ·intro w q;go_simp;try with_reducible rfl
  simp only[apt,List.set]
  refine tkO 9 (.slice a2 n2 c2) hHeld rfl ?_ ?_
  ·(intro w q;go_simp;first | done | (rw[s2 w];rfl) | (simp[s2 w];try rfl))
  simp only[apt,List.set]
  refine rdO 6 rfl (fun K hK=>?_)
  go_simp
  refine hK.out _ _ trivial (fun _=>?_)
  clear hK K
  refine rdO 10 rfl (fun K hK=>?_)
  go_simp
  refine hK.out _ _ trivial (fun _=>?_)
  clear hK K
  refine rdO 11 rfl (fun K hK=>?_)
  go_simp
  go_wp2_with fail
  have f1':St w w1.drew:=f1.drewN 1
  refine(uh HCT w1.drew f1' _ rfl).mono ?_
  clear HCT
  rintro e w3 ⟨u,rfl,hu,f3⟩
  refine hK.out _ _ trivial (fun _=>?_)
  clear hK K
  refine rdO 12 rfl (fun K hK=>?_)
  go_simp
  refine hK.out _ _ trivial (fun _=>?_)
  clear hK K
  refine wpAnyH_done (by kernel_rfl) ?_ _
  go_wp2
  go_ret
  exact⟨u,rfl,hu,f3⟩
def byF (s:ByteArray) (t:Nat):Nat:=(s.data.toList.getD t 0).toNat
theorem byF_lt (s:ByteArray) (t:Nat):byF s t<256:=(s.data.toList.getD t 0).toNat_lt
theorem conv_bytes (s:ByteArray) (w:World):∃c w',(convert 9 89 (.string s)).run Tryz.prog w = .ok (.slice (some ⟨w.heap.size,0,none⟩) s.size c) w'/\Nats .u8 w' (some ⟨w.heap.size,0,none⟩) s.size (byF s)/\St w w'/\w'.heap.size=w.heap.size+1:=
 ⟨_,_,Lib.run_convert_string_bytes (P:=Tryz.prog) w 9 89 5 s Tryz.underlying9 Tryz.underlying89 Tryz.underlying5,fun i hi=>⟨_,_,rfl,by rw[Nat.zero_add];exact Lib.bytesWorld_cell w 5 s i hi⟩,⟨rfl,rfl,rfl,by rw[Lib.bytesWorld_size];omega,fun j hj _=>Lib.bytesWorld_at_old w 5 s j hj⟩,Lib.bytesWorld_size w 5 s⟩
def ptsC (G L C:Nat->Nat) (i:Nat):List Value:=(List.range i).map fun t=>.slice (some ⟨G t,0,none⟩) (L t) (C t)
theorem ptsC_succ (G L C:Nat->Nat) (i:Nat):ptsC G L C (i+1)=ptsC G L C i ++ [.slice (some ⟨G i,0,none⟩) (L i) (C i)]:=by simp[ptsC,List.range_succ]
theorem ptsC_congr (G G' L C C':Nat->Nat) (i:Nat) (h:∀t,t<i->G t=G' t/\C t=C' t):ptsC G L C i=ptsC G' L C' i:=by
 unfold ptsC
 exact List.map_congr_left fun t ht=>by
  obtain⟨h1,h2⟩:=h t (by simpa using ht)
  rw[h1,h2]
def Pts (w0 w:World) (v:Value) (L:Nat->Nat) (Z:Nat->Nat->Nat) (r:Nat):Prop:=
 ∃G C:Nat->Nat,w.ownsRow w0.heap.size 89 1 v r (ptsC G L C r)/\(∀t,t<r->w0.heap.size<=G t/\G t<w.heap.size/\v.ownBlock≠some (G t)/\Nats .u8 w (some ⟨G t,0,none⟩) (L t) (Z t))/\St w0 w
theorem Pts.parts {w0 w:World} {a:Option Addr} {c r:Nat} {L:Nat->Nat} {Z:Nat->Nat->Nat} (h:Pts w0 w (.slice a r c) L Z r) (hZ:∀i t,Z i t<256):∃A C,PartsAt w a r A L C Z:=by
 obtain⟨G,C,ow,hG,_⟩:=h
 refine⟨fun t=>some ⟨G t,0,none⟩,C,fun k hk=>⟨?_,(hG k hk).2.2.2,fun i _=>hZ k i,fun e=>by cases e⟩⟩
 have hs:=sl_of_row ow (fun u hu=>by
  obtain⟨t,_,rfl⟩:=List.mem_map.1 hu
  rfl)
 exact hs.cells k _ (by simp[ptsC,hk])
theorem Pts.more {w0 w:World} {v:Value} {r:Nat} {L:Nat->Nat} {Z:Nat->Nat->Nat} (h:Pts w0 w v L Z r) (s:ByteArray) (hL:L r=s.size) (hZ:Z r=byF s) (hr:r<=500) :
  ∃c w1 v2 w2,(convert 9 89 (.string s)).run Tryz.prog w = .ok (.slice (some ⟨w.heap.size,0,none⟩) s.size c) w1/\(Builtin.append_ #[224,224] 224 #[v,.slice (some ⟨w.heap.size+1,0,none⟩) 1 1]).run Tryz.prog (w1.alloc (.cells #[.slice (some ⟨w.heap.size,0,none⟩) s.size c] 89)) = .ok v2 w2/\w1.heap.size=w.heap.size+1/\Pts w0 w2 v2 L Z (r+1):=by
 obtain⟨G,C,ow,hG,f⟩:=h
 obtain⟨c,w1,hc,hN,f1,hs1⟩:=conv_bytes s w
 obtain⟨v2,w2,hap,ow2,f2,hloc⟩:=run_val infoS rfl (by decide) Tryz.underlying224 w1 w0.heap.size v r (ptsC G L C r) (own_still ow f1) (.slice (some ⟨w.heap.size,0,none⟩) s.size c) rfl (by omega) (Nat.le_trans f.size f1.size)
 rw[hs1] at hap hloc
 have hv:∀g,v.ownBlock=some g->g<w.heap.size:=fun g hg=>(ow.lt g hg).2
 have hlt2:=f2.size
 refine⟨c,w1,v2,w2,hc,hap,hs1,fun t=>if t=r then w.heap.size else G t,fun t=>if t=r then c else C t,?_,fun t ht=>?_,(f.trans' f1 nE).trans' f2 (fun k hk=>.inr (ow.lt k hk).1)⟩
 ·rw[ptsC_succ,ptsC_congr _ G L _ C r (fun t ht=>⟨if_neg (by omega),if_neg (by omega)⟩)]
  simp only[if_true,hL]
  exact ow2
 ·by_cases e:t=r
  ·subst e
   simp only[if_true]
   refine⟨f.size,by omega,fun e=>?_,?_⟩
   ·rcases hloc with h | h
    ·rw[h] at e;have:=hv _ e;omega
    ·rw[h] at e;have:=Option.some.inj e;omega
   ·rw[hL,hZ]
    exact nats_fr hN f2 (fun x e=>by cases e;exact fun e=>absurd (hv _ e) (Nat.lt_irrefl _))
  ·simp only[if_neg e]
   obtain⟨p1,p2,p3,p4⟩:=hG t (by omega)
   refine⟨p1,by have:=f1.size;omega,fun e=>?_,nats_fr (nats_fr p4 f1 (fun _ _ x=>x)) f2 (fun x e=>by cases e;exact p3)⟩
   rcases hloc with h | h
   ·rw[h] at e;exact p3 e
   ·rw[h] at e;have:=Option.some.inj e;omega
def kL (K:List ByteArray) (i:Nat):Nat:=(K.getD i default).size
def kZ (K:List ByteArray) (i:Nat):Nat->Nat:=byF (K.getD i default)
def jk (K:List ByteArray):List Nat:=joinL (kL K) (kZ K) K.length
theorem l_height (a:Option Addr) (n c:Nat) (w:World):Calls Tryz.prog 232 #[.slice a n c] w fun e w'=>e = .returned (.int .i64 1)/\w'=w:=by
 go_enter Tryz.func232,Tryz.ntmps232
 go_wp2
 go_ret
 exact⟨rfl,rfl⟩
theorem results_ct {fn:Func} {p u:Tmp} {ty:TypeId} (h:fn.results=#[.cell p ty,.tmp u]) (tmps:Array Value) (w:World) (g:Nat) (cs:Array Value)
  (hp:tmps.getD p undef = .pointer (some ⟨g,0,none⟩)) (hl:(loadVar ty ⟨g,0,none⟩).run Tryz.prog w = .ok (.agg cs) w) :
  (results fn tmps).run Tryz.prog w = .ok (.tuple #[.agg cs,tmps.getD u undef]) w:=by
 rw[results_cell_tmp h,hp]
 simp[asAddr,Result.andThen,hl]
set_option maxRecDepth 100000 in
theorem y_headL (a:Option Addr) (c:Nat) (l:List Pr) (w:World) (h:Lf w a c l) (hl:l.length<=100) (hk:∀i,i<l.length->kL (l.map (·.1)) i<=3000) :
  Calls Tryz.prog 174 #[.iface 100 (.slice a l.length c)] w fun e w'=>∃v,e = .returned (.tuple #[hdV 1 l.length (jk (l.map (·.1))).length,v])/\OwnL .u8 5 w' w.heap.size v (jk (l.map (·.1)))/\St w w':=by
 obtain⟨W,hW⟩:∃W,w.alloc (.cells #[.int .i64 0,.int .i64 0,.int .i64 0] 105)=W:=⟨_,rfl⟩
 have fW:St w W:=hW▸(Fr.refl _ w).alloc _
 have oW:W.heap[w.heap.size]? = some (.cells #[.int .i64 0,.int .i64 0,.int .i64 0] 105 (0,0)):=hW▸heap_alloc_new w _
 have sW:W.heap.size=w.heap.size+1:=by rw[<-hW];simp
 have KY:=l_keys a c l W (h.still fW) (by omega)
 have IT:=fun w1 (f:St w w1)=>l_items a c l w1 (h.still f) (by omega)
 have HG:=fun w1=>l_height a l.length c w1
 obtain⟨K,hK⟩:∃K,l.map (·.1)=K:=⟨_,rfl⟩
 have hKl:K.length=l.length:=by rw[<-hK];simp
 have hKm:l.map (fun p=>Value.string p.1)=K.map Value.string:=by rw[<-hK];simp
 rw[hKm] at KY
 rw[hK] at hk ⊢
 have HW:=Hd hW
 have HX:=Hd (ai fW (ai oW sW))
 have HI:=@Hd _ IT
 clear hW fW oW sW IT h hKm hK
 generalize l.length=n at *
 go_enter Tryz.func174,Tryz.ntmps174
 go_wp2_with fail
 rw[uh HW]
 refine KY.mono ?_
 rintro e w1 ⟨kv,rfl,hkv,f1⟩
 clear KY HW
 obtain⟨ka,kc,rfl⟩:=rows_form hkv
 have HS:=Hd (sl_of_row hkv (fun u hu=>by
  obtain⟨t,_,rfl⟩:=List.mem_map.1 hu
  rfl))
 clear hkv
 go_wp2_with fail
 go_loopw [4,11] (fun v i wr=>∃r:Nat,r<=n/\i = .int .i64 r/\Pts w1 wr v (kL K) (kZ K) r) (fun _ i _=>n - (RowKit.intOf i).toNat)
 case atStart=>exact⟨0,by omega,rfl,fun _=>0,fun _=>0,World.ownsRow_nil _ _ _ _,fun t ht=>by omega,Fr.refl _ _⟩
 case round=>
  obtain⟨r,hrn,rfl,P⟩:=hrel
  by_cases hlt:r<n
  ·obtain⟨s,hs⟩:∃s,K[r]? = some s:=⟨_,List.getElem?_eq_getElem (by omega)⟩
   obtain⟨b,o,e,c1⟩:=(uh HS).cells r (.string s) (by rw[List.getElem?_map,hs];rfl)
   subst e
   replace c1:=P.choose_spec.choose_spec.2.2.cell' c1 id
   have hlt':(r:Int)<n:=by omega
   obtain⟨c2,w2,v3,w3,hcv,hap,hsz,P3⟩:=P.more s (by simp[kL,List.getD,hs]) (by simp[kZ,List.getD,hs]) (by omega)
   have HCV:=Hd hcv;have HAP:=Hd hap;have HP:=Hd P3
   clear hcv hap P3 P hs HS
   go_wp2_with fail
   rw[uh HCV]
   go_wp2_with (first | (at_builtin;(try rw[hsz]);refine wpList_append_run rfl (.tmp 15) (.tmp 18) 224 rfl _ _ rfl rfl v3 w3 (uh HAP) ?_) | fail)
   exact⟨⟨r+1,by omega,by simp,uh HP⟩,by simp[RowKit.intOf];omega⟩
  ·have e:r=n:=by omega
   subst e
   have hlt':¬(r:Int)<r:=by omega
   obtain⟨pa,pc,rfl⟩:=rows_form P.choose_spec.choose_spec.1
   have fr:St w1 wr:=P.choose_spec.choose_spec.2.2
   obtain⟨A,C,PA⟩:=P.parts (fun i t=>byF_lt _ _)
   have JO:=join_ok pa r pc A (kL K) C (kZ K) wr PA (by omega) hk
   obtain⟨fW,oW,sW⟩:=uh HX
   have f0:St w wr:=(fW.trans' f1 nE).trans' fr nE
   have f0W:St W wr:=f1.trans' fr nE
   have HF:=Hd (ai f0 f0W)
   clear P PA HS fr f1 fW oW sW f0 f0W
   go_wp2_with (first | (go_at_call 198;refine JO.mono ?_;rintro e w2 ⟨jv,rfl,mj⟩) | fail)
   refine(HG _).mono ?_
   rintro e w3 ⟨rfl,rfl⟩
   obtain⟨f0,f0W⟩:=uh HF
   have f2:St wr w3:=Fr.ofBelow mj.bel
   have f03:St w w3:=f0.trans' f2 nE
   have f0W3:St W w3:=f0W.trans' f2 nE
   obtain⟨ja,jc,rfl,_,_⟩:=mj.own.nats
   have IT:=uh HI w3 f03
   have HM:=Hd (ai mj (ai f03 (show w.heap.size+1<=wr.heap.size by have:=(uh HX).2.2;have:=f0W.size;omega)))
   have HF3:=Hd f0W3
   clear mj f2 f03 f0W3 f0 f0W HF HI JO
   go_wp2_with fail
   refine IT.mono ?_
   rintro e w4 ⟨iv,rfl,hiv,f4⟩
   obtain⟨ia,ic,rfl⟩:=rows_form hiv
   obtain⟨fW,oW,sW⟩:=uh HX
   have o4:w4.heap[w.heap.size]? = some (.cells #[.int .i64 0,.int .i64 0,.int .i64 0] 105 (0,0)):=((uh HF3).trans' f4 nE).obj oW id
   have r0:w4.cell? ⟨w.heap.size,0,none⟩=some (.int .i64 0):=cOo o4 0
   have r1:w4.cell? ⟨w.heap.size,1,none⟩=some (.int .i64 0):=cOo o4 1
   have r2:w4.cell? ⟨w.heap.size,2,none⟩=some (.int .i64 0):=cOo o4 2
   have rz:∀o,w4.frozen? ⟨w.heap.size,o,none⟩=false:=fun o=>by simp[World.frozen?,o4]
   have HO:=Hd (ai o4 f4)
   clear fW oW sW o4 hiv IT f4
   generalize hg:w.heap.size=g at *
   go_wp2
   obtain⟨o4,f4⟩:=uh HO
   obtain⟨mj,f03,hgw⟩:=uh HM
   have oF:=heap_setCell_same _ g 2 _ _ (.int .i64 ((joinL (kL K) (kZ K) r).length:Nat)) (heap_setCell_same _ g 1 _ _ (.int .i64 (r:Nat)) (heap_setCell_same w4 g 0 _ _ (.int .i64 1) o4))
   have f5:Fr (fun k=>k=g) w4 (((w4.setCell ⟨g,0,none⟩ (.int .i64 1)).setCell ⟨g,1,none⟩ (.int .i64 (r:Nat))).setCell ⟨g,2,none⟩ (.int .i64 ((joinL (kL K) (kZ K) r).length:Nat))):=(((Fr.refl (fun k=>k=g) w4).setCell (.inl rfl) _).setCell (.inl rfl) _).setCell (.inl rfl) _
   refine bodyPost_ret (results_ct Tryz.results174 _ _ g #[.int .i64 1,.int .i64 (r:Nat),.int .i64 ((joinL (kL K) (kZ K) r).length:Nat)] (by rfl) (run_loadVar_row _ g 105 105 _ (0,0) _ oF Tryz.underlying105 rfl (by kernel_rfl))) rfl ?_
   have ej:jk K=joinL (kL K) (kZ K) r:=by unfold jk;rw[hKl]
   rw[ej]
   refine⟨_,rfl,?_,(f03.trans' f4 nE).trans' f5 (fun k hk=>.inr (by rw[hk,hg];exact Nat.le_refl _))⟩
   exact own_lo (owns_same (own_still mj.own f4) fun k hk=>f5.block k ((own_still mj.own f4).lt k hk).2 (fun e=>by have:=(mj.own.lt k hk).1;omega)) (by omega)
set_option maxRecDepth 100000 in
theorem y_sizeOf (nv:Value) (h i b:Nat) (hi:i<256) (hb:b<65536) (w:World) (HD:Calls Tryz.prog 174 #[nv] w fun e w'=>∃v,e = .returned (.tuple #[hdV h i b,v])/\St w w') :
  Calls Tryz.prog 137 #[nv] w fun e w'=>e = .returned (.int .i64 (hsz i b))/\St w w':=by
 have SZ:=y_size h i b hi hb
 go_enter Tryz.func137,Tryz.ntmps137
 go_wp2_with (first | (go_at_call 174;refine HD.mono ?_;rintro e w1 ⟨v,rfl,f1⟩) | (go_at_call 103;refine(SZ _).mono ?_;rintro e w2 ⟨rfl,f2⟩) | fail)
 go_ret
 exact⟨rfl,(f1.alloc _).trans' f2 nE⟩
theorem cat3_W (w:World) (a1 a2 a3:Option Addr) (n1 n2 n3 c1 c2 c3:Nat) (X1 X2 X3:List Value) (S1:Sl w 1 a1 n1 c1 X1) (S2:Sl w 1 a2 n2 c2 X2) (S3:Sl w 1 a3 n3 c3 X3) (hl:n1+n2+n3<=1000000) :
  Calls Tryz.prog 175 #[.slice (some ⟨w.heap.size,0,none⟩) 3 3] (w.alloc (.cells #[.slice a1 n1 c1,.slice a2 n2 c2,.slice a3 n3 c3] 141)) fun e w'=>∃v,e = .returned v/\w'.ownsRow w.heap.size 27 1 v (n1+n2+n3) (X1 ++ X2 ++ X3)/\St w w':=by
 obtain⟨W,hW⟩:∃W,w.alloc (.cells #[.slice a1 n1 c1,.slice a2 n2 c2,.slice a3 n3 c3] 141)=W:=⟨_,rfl⟩
 rw[hW]
 have fW:St w W:=hW▸(Fr.refl _ w).alloc _
 have oR:W.heap[w.heap.size]? = some (.cells #[.slice a1 n1 c1,.slice a2 n2 c2,.slice a3 n3 c3] 141 (0,0)):=hW▸heap_alloc_new w _
 have K:=cat_W (some ⟨w.heap.size,0,none⟩) 3 3 (fun t=>if t=0 then a1 else if t=1 then a2 else a3) (fun t=>if t=0 then n1 else if t=1 then n2 else n3) (fun t=>if t=0 then c1 else if t=1 then c2 else c3) (fun t=>if t=0 then X1 else if t=1 then X2 else X3) W (fun i hi=>by
  rcases (show i=0\/i=1\/i=2 by omega) with rfl | rfl | rfl
  ·exact⟨⟨w.heap.size,0,rfl,show W.cell? ⟨w.heap.size,0,none⟩=some (.slice a1 n1 c1) from cOo oR 0⟩,S1.still fW⟩
  ·exact⟨⟨w.heap.size,0,rfl,show W.cell? ⟨w.heap.size,1,none⟩=some (.slice a2 n2 c2) from cOo oR 1⟩,S2.still fW⟩
  ·exact⟨⟨w.heap.size,0,rfl,show W.cell? ⟨w.heap.size,2,none⟩=some (.slice a3 n3 c3) from cOo oR 2⟩,S3.still fW⟩) (by omega) (by simp[offN];omega)
 refine K.mono ?_
 rintro e w' ⟨u,rfl,hu,f3⟩
 refine⟨u,rfl,?_,fW.trans' f3 nE⟩
 have e1:offN (fun t=>if t=0 then n1 else if t=1 then n2 else n3) 3=n1+n2+n3:=by simp[offN]
 have e2:catX (fun t=>if t=0 then X1 else if t=1 then X2 else X3) 3=X1 ++ X2 ++ X3:=by simp[catX]
 rw[e1,e2] at hu
 exact own_lo hu fW.size
def pkW (B:List Nat):List Nat:=(List.range ((B.length+7) / 8)).map fun j=>packF (fun t=>B.getD t 0) B.length (j+1)
def lwN (l:List Pr):List Nat:=hwN 1 l.length (jk (l.map (·.1))).length :: (l.map (·.2) ++ pkW (jk (l.map (·.1))))
theorem pkW_len (B:List Nat):(pkW B).length=need B.length - 1:=by simp[pkW,need]
theorem elem_u64s:Tryz.prog.elem 141=27:=by kernel_rfl
theorem vals_one (k:IntKind) (l:List Nat):∀u∈vals k l,u.oneCell'=true:=fun u hu=>by
 obtain⟨t,_,rfl⟩:=List.mem_map.1 hu
 rfl
set_option maxRecDepth 100000 in
theorem y_wordsL (a:Option Addr) (c:Nat) (l:List Pr) (w:World) (h:Lf w a c l) (hl:l.length<=100) (hk:∀i,i<l.length->kL (l.map (·.1)) i<=3000) (hb:(jk (l.map (·.1))).length<60000) (hB:∀t,(jk (l.map (·.1))).getD t 0<256) :
  Calls Tryz.prog 139 #[.iface 100 (.slice a l.length c)] w fun e w'=>∃v,e = .returned v/\OwnL .u64 27 w' w.heap.size v (lwN l)/\St w w':=by
 have HD:=y_headL a c l w h hl hk
 have IT:=fun w1 (f:St w w1)=>l_items a c l w1 (h.still f) (by omega)
 have WD:=y_word 1 l.length (jk (l.map (·.1))).length (by omega) (by omega) (by omega)
 have hlw:lwN l=hwN 1 l.length (jk (l.map (·.1))).length :: (l.map (·.2) ++ pkW (jk (l.map (·.1)))):=rfl
 obtain⟨B,hBd⟩:∃B,jk (l.map (·.1))=B:=⟨_,rfl⟩
 rw[hBd] at HD WD hlw hb hB
 obtain⟨hw,hhw⟩:∃hw,hwN 1 l.length B.length=hw:=⟨_,rfl⟩
 rw[hhw] at WD hlw
 have hvm:l.map (fun p=>Value.int .u64 (p.2:Nat))=vals .u64 (l.map (·.2)):=by simp[vals]
 rw[hvm] at IT
 have hml:(l.map (·.2)).length=l.length:=by simp
 generalize l.map (·.2)=M at *
 have HLW:=Hd hlw
 have HI:=@Hd _ IT
 clear IT h hk hBd hhw hvm hlw
 generalize lwN l=R at *
 generalize l.length=n at *
 go_enter Tryz.func139,Tryz.ntmps139
 go_wp2_with (first | (go_at_call 174;refine HD.mono ?_;rintro e w1 ⟨jv,rfl,hj,f1⟩) | (go_at_call 176;refine(WD _).mono ?_;rintro e w3 ⟨rfl,f3⟩) | fail)
 have f3':St w w3:=(f1.alloc _).trans' f3 nE
 have f13:St w1 w3:=((Fr.refl _ w1).alloc _).trans' f3 nE
 obtain⟨W4,hW4⟩:∃W4,w3.alloc (.cells #[.int .u64 (hw:Nat)] 27)=W4:=⟨_,rfl⟩
 have f4:St w3 W4:=hW4▸(Fr.refl _ w3).alloc _
 have o4:W4.heap[w3.heap.size]? = some (.cells #[.int .u64 (hw:Nat)] 27 (0,0)):=hW4▸heap_alloc_new w3 _
 have f04:St w W4:=f3'.trans' f4 nE
 rw[hW4]
 refine(uh HI W4 f04).mono ?_
 rintro e w5 ⟨iv,rfl,hiv,f5⟩
 obtain⟨ia,ic,rfl⟩:=rows_form hiv
 obtain⟨ja,jc,rfl,_,hN⟩:=hj.nats
 have f15:St w1 w5:=(f13.trans' f4 nE).trans' f5 nE
 have PK:=pack_ok ja B.length jc (fun t=>B.getD t 0) w5 (nats_fr hN f15 (fun _ _ x=>x)) (fun t _=>hB t) (by omega)
 have hq:1<=need B.length/\need B.length<=10000:=by unfold need;omega
 have hq2:=pkW_len B
 have hpk:∀j,j<need B.length - 1->(vals .u64 (pkW B))[j]? = some (.int .u64 (packF (fun t=>B.getD t 0) B.length (j+1):Nat)):=fun j hj=>by
  have:j<(B.length+7) / 8:=by unfold need at hj;omega
  simp[vals,pkW,this]
 generalize need B.length=q at *
 generalize packF (fun t=>B.getD t 0) B.length=pf at *
 have s1:∀g w,(Instr.slice 141 (.slice (some ⟨g,0,none⟩) q q) (some (.int .i64 1)) none none).run Tryz.prog w = .ok (.slice (cutZ 1 (some ⟨g,0,none⟩) q 1) (q - 1) (q - 1)) w:=fun g w=>slice_fromZ elt_W elem_u64s (some ⟨g,0,none⟩) q q 1 w hq.1
 have HX:=Hd (ai o4 (ai f04 (ai f5 hiv)))
 have HPK:=Hd (ai hpk hq2)
 clear o4 f04 f5 hiv hpk hq2 f3 f3' f13 f4 f15 hN HI HD WD hj f1 hB
 go_wp2_with (first | (go_at_call 177;refine PK.mono ?_;rintro e w6 ⟨rfl,m6⟩) | fail)
 obtain⟨o4,f04,f5,hiv⟩:=uh HX
 obtain⟨hpk,hq2⟩:=uh HPK
 have f6:St w5 w6:=Fr.ofBelow m6.bel
 have f46:St W4 w6:=f5.trans' f6 nE
 have o6:=f46.obj o4 id
 have S1:Sl w6 1 (some ⟨w3.heap.size,0,none⟩) 1 1 (vals .u64 [hw]):=⟨rfl,Nat.le_refl _,(fun e=>by cases e),vals_one _ _,(fun j u hu=>⟨w3.heap.size,0,rfl,by
  rw[Nat.zero_add,cOo o6 j,<-hu]
  simp[vals]⟩),(fun x e=>by cases e;rfl)⟩
 have S2:Sl w6 1 ia n ic (vals .u64 M):=(sl_of_row hiv (vals_one _ _)).still f6
 have S0:Sl w6 1 (some ⟨w5.heap.size,0,none⟩) q q ((List.range q).map fun j=>.int .u64 (pf j:Nat)):=⟨by simp,Nat.le_refl _,(fun e=>by cases e),(fun u hu=>by
  obtain⟨t,_,rfl⟩:=List.mem_map.1 hu
  rfl),(fun j u hu=>⟨w5.heap.size,0,rfl,by
  rw[List.getElem?_map] at hu
  have hj:j<q:=by
   refine Nat.lt_of_not_le fun hh=>?_
   rw[List.getElem?_eq_none (by simpa using hh)] at hu
   cases hu
  rw[List.getElem?_range hj] at hu
  rw[Nat.zero_add,m6.cell j hj,<-hu]
  rfl⟩),(fun x e=>by cases e;rfl)⟩
 have S3:=S0.drop 1 hq.1
 have e3:((List.range q).map fun j=>Value.int .u64 (pf j:Nat)).drop (1 * 1)=vals .u64 (pkW B):=by
  apply List.ext_getElem?
  intro j
  by_cases hj:j<q - 1
  ·rw[hpk j hj,List.getElem?_drop,List.getElem?_map,List.getElem?_range (by omega),show 1 * 1+j=j+1 by omega]
   rfl
  ·rw[List.getElem?_eq_none (by simp;omega),List.getElem?_eq_none (by simp[vals];omega)]
 rw[e3] at S3
 have CC:=cat3_W w6 _ _ _ _ _ _ _ _ _ _ _ _ S1 S2 S3 (by omega)
 have hR:=uh HLW
 have eR:vals .u64 [hw] ++ vals .u64 M ++ vals .u64 (pkW B)=vals .u64 R:=by rw[hR];simp[vals]
 have eL:1+n+(q - 1)=R.length:=by rw[hR];simp[hml,hq2];omega
 rw[eR,eL] at CC
 have f06:St w w6:=f04.trans' f46 nE
 have HF:=Hd f06
 clear o4 f04 f5 hiv hpk hq2 f6 f46 o6 S1 S2 S0 S3 e3 hR eR eL f06 m6 HX HPK HLW PK
 refine CC.mono ?_
 rintro e w8 ⟨v,rfl,hv,f8⟩
 go_wp2_with fail
 go_ret
 exact⟨_,rfl,own_lo hv (uh HF).size,(uh HF).trans' f8 nE⟩

section
theorem hw_parts (h i b:Nat) (hh:h<256) (hi:i<256) (hb:b<65536):bits .and .u64 (((hwN h i b:Nat):Int) / 16777216) 255=(h:Nat)/\bits .and .u64 (((hwN h i b:Nat):Int) / 65536) 255=(i:Nat)/\bits .and .u64 ((hwN h i b:Nat):Int) 65535=(b:Nat)/\((hwN h i b:Nat):Int) / 4294967296=1953654117/\hwN h i b<18446744073709551616:=by
 have hl:hwN h i b<18446744073709551616:=by unfold hwN;omega
 have m8:∀x:Nat,x<18446744073709551616->bits .and .u64 (x:Int) 255=((x % 256:Nat):Int):=fun x hx=>by
  rw[show(255:Int)=((255:Nat):Int) from rfl,u64_and_nat _ _ hx (by decide),show(255:Nat)=2 ^ 8 - 1 from rfl,Nat.and_two_pow_sub_one_eq_mod]
 have m16:∀x:Nat,x<18446744073709551616->bits .and .u64 (x:Int) 65535=((x % 65536:Nat):Int):=fun x hx=>by
  rw[show(65535:Int)=((65535:Nat):Int) from rfl,u64_and_nat _ _ hx (by decide),show(65535:Nat)=2 ^ 16 - 1 from rfl,Nat.and_two_pow_sub_one_eq_mod]
 refine⟨?_,?_,?_,?_,hl⟩
 ·rw[show((hwN h i b:Nat):Int) / 16777216=((hwN h i b / 16777216:Nat):Int) by omega,m8 _ (by omega)]
  unfold hwN
  congr 1
  omega
 ·rw[show((hwN h i b:Nat):Int) / 65536=((hwN h i b / 65536:Nat):Int) by omega,m8 _ (by omega)]
  unfold hwN
  congr 1
  omega
 ·rw[m16 _ hl]
  unfold hwN
  congr 1
  omega
 ·unfold hwN;omega
section
variable {nu sz:Nat} {w:World} {hb sb b:Nat} {T:Tay} {A:Ab} {P:List (Int×Int)}
set_option maxRecDepth 100000 in
theorem y_headAt (h:Hp nu sz w hb sb b T A P) (p ht i bt:Nat) (h8:8<=p) (m8:p % 8=0) (hpz:p+32<=sz) (h1:1<=ht) (h16:ht<=16) (hi:i<256) (hbt:bt<65536) (hs:hsz i bt<=32) (hw:says P A p=(hwN ht i bt:Nat)) :
  Calls Tryz.prog 58 #[ptr sb,.int .u64 p] w fun e w'=>e = .returned (hdV ht i bt)/\St w w':=by
 obtain⟨g1,g2,g3,g4,g5,g6⟩:=h.hp.geo.b
 have hs1:1<=hsz i bt:=by unfold hsz need;omega
 have LD:∀w1,St w w1->Calls Tryz.prog 59 #[ptr sb,.int .i64 p] w1 fun e w'=>e = .returned (.int .u64 (hwN ht i bt:Nat))/\w'=w1:=fun w1 f1=>by
  have:=(h.still f1).load p (by omega)
  rw[hw] at this;exact this
 have SZ:∀w1,St w w1->Calls Tryz.prog 75 #[ptr sb] w1 fun e w'=>e = .returned (.int .i64 sz)/\w'=w1:=fun w1 f1=>t_size (n:=sz) (h.still f1).st.c2
 have HS:=y_size ht i bt hi hbt
 obtain⟨e1,e2,e3,e4,e5⟩:=hw_parts ht i bt (by omega) hi hbt
 have hsz6:sz<1000000:=by omega
 have l1:(8:Int)<=p:=by omega
 have l2:(p:Int)<sz:=by omega
 have l3:((p:Int) % 8 == 0)=true:=by simp;omega
 have l4:(1:Int)<=ht:=by omega
 have l5:(ht:Int)<=16:=by omega
 have w1:IntKind.u64.wrap (sz:Int)=sz:=by rw[IntKind.wrap_u64];omega
 have w2:IntKind.i64.wrap (p:Int)=p:=(wrap_small _ (by omega) (by omega)).1
 have w3:IntKind.i64.wrap (ht:Int)=ht:=(wrap_small _ (by omega) (by omega)).1
 have w4:IntKind.i64.wrap (i:Int)=i:=(wrap_small _ (by omega) (by omega)).1
 have w5:IntKind.i64.wrap (bt:Int)=bt:=(wrap_small _ (by omega) (by omega)).1
 have w7:IntKind.u64.wrap ((sz:Int) - p)=(sz:Int) - p:=by rw[IntKind.wrap_u64];omega
 have l6:(hsz i bt:Int)<=32:=by omega
 have l7:(32:Int)<=(sz:Int) - p:=by omega
 obtain⟨W,hW⟩:∃W,w.alloc (.cells #[.int .i64 0,.int .i64 0,.int .i64 0] 105)=W:=⟨_,rfl⟩
 have fW:St w W:=hW▸(Fr.refl _ w).alloc _
 have HLD:=Hd (LD W fW);have HSZ:=Hd (SZ W fW);have HW:=Hd hW
 clear LD SZ hW h hw g1 g2 g3 g4 g5 g6 hpz m8 h8 h1 h16 hs hs1
 generalize hsz i bt=rs at *
 generalize hwN ht i bt=wv at *
 go_enter Tryz.func58,Tryz.ntmps58
 go_wp2_with (first | (rw[uh HW];go_at_call 75;refine(uh HSZ).mono ?_;rintro e w' ⟨rfl,hh⟩;replace hh:=hh.symm;subst hh) | (go_at_call 69;refine(y_must _).mono ?_;rintro e w' ⟨rfl,hh⟩;replace hh:=hh.symm;subst hh) | fail)
 refine(uh HLD).mono ?_
 rintro e w' ⟨rfl,hh⟩
 replace hh:=hh.symm
 subst hh
 obtain⟨W2,hW2⟩:∃W2,W.alloc (.cells #[.int .i64 ht,.int .i64 i,.int .i64 bt] 105)=W2:=⟨_,rfl⟩
 obtain⟨g,hg⟩:∃g,w.heap.size=g:=⟨_,rfl⟩
 have z1:W.heap.size=g+1:=by rw[<-uh HW];simp[hg]
 have f2:St W W2:=hW2▸(Fr.refl _ W).alloc _
 have oR:W2.heap[g]? = some (.cells #[.int .i64 0,.int .i64 0,.int .i64 0] 105 (0,0)):=by
  have:=heap_alloc_new w (.cells #[.int .i64 0,.int .i64 0,.int .i64 0] 105)
  rw[uh HW,hg] at this;exact f2.obj this id
 have oP:W2.heap[g+1]? = some (.cells #[.int .i64 ht,.int .i64 i,.int .i64 bt] 105 (0,0)):=by
  have:=heap_alloc_new W (.cells #[.int .i64 ht,.int .i64 i,.int .i64 bt] 105)
  rw[hW2,z1] at this;exact this
 have d0:W2.cell? ⟨g+1,0,none⟩=some (.int .i64 ht):=cOo oP 0
 have d1:W2.cell? ⟨g+1,1,none⟩=some (.int .i64 i):=cOo oP 1
 have d2:W2.cell? ⟨g+1,2,none⟩=some (.int .i64 bt):=cOo oP 2
 have HX:=Hd (ai (fW.trans' f2 nE) (ai oR oP))
 have HW2:=Hd hW2
 clear HLD HSZ HW hW2 f2 oR oP fW
 go_wp2_with fail
 rw[uh HW2]
 refine(y_must _).mono ?_
 rintro e w' ⟨rfl,hh⟩
 replace hh:=hh.symm
 subst hh
 clear HW2
 go_wp2_with fail
 refine(HS W2).mono ?_
 rintro e w3 ⟨rfl,f3⟩
 have HY:=Hd (fun(w3:World) (f3:St W2 w3)=>ai (f3.cell' d0 id) (ai (f3.cell' d1 id) (f3.cell' d2 id)))
 clear d0 d1 d2
 obtain⟨d0,d1,d2⟩:=uh HY w3 f3
 obtain⟨f02,oR,oP⟩:=uh HX
 have o4:=f3.obj oR id
 have r0:w3.cell? ⟨g,0,none⟩=some (.int .i64 0):=cOo o4 0
 have r1:w3.cell? ⟨g,1,none⟩=some (.int .i64 0):=cOo o4 1
 have r2:w3.cell? ⟨g,2,none⟩=some (.int .i64 0):=cOo o4 2
 have rz:∀o,w3.frozen? ⟨g,o,none⟩=false:=fun o=>by simp[World.frozen?,o4]
 have HO:=Hd (ai o4 (f02.trans' f3 nE))
 clear oR oP o4 f02 f3 HX HY HS
 go_wp2_with (first | (go_at_call 69;refine(y_must _).mono ?_;rintro e w' ⟨rfl,hh⟩;replace hh:=hh.symm;subst hh) | fail)
 obtain⟨o4,f04⟩:=uh HO
 have oF:=heap_setCell_same _ g 2 _ _ (.int .i64 (bt:Nat)) (heap_setCell_same _ g 1 _ _ (.int .i64 (i:Nat)) (heap_setCell_same w3 g 0 _ _ (.int .i64 (ht:Nat)) o4))
 have f5:Fr (fun k=>k=g) w3 (((w3.setCell ⟨g,0,none⟩ (.int .i64 (ht:Nat))).setCell ⟨g,1,none⟩ (.int .i64 (i:Nat))).setCell ⟨g,2,none⟩ (.int .i64 (bt:Nat))):=(((Fr.refl (fun k=>k=g) w3).setCell (.inl rfl) _).setCell (.inl rfl) _).setCell (.inl rfl) _
 refine bodyPost_ret (results_cell_row Tryz.results58 _ _ g 105 #[.int .i64 ht,.int .i64 i,.int .i64 bt] (0,0) _ (by rfl) oF Tryz.underlying105 rfl (by kernel_rfl)) rfl ?_
 exact⟨rfl,f04.trans' f5 (fun k hk=>.inr (by rw[hk,hg];exact Nat.le_refl _))⟩
end
end
theorem sl_pair (w W:World) (p:Pr) (hW:w.alloc (.cells #[.string p.1,.int .u64 (p.2:Nat)] 43)=W):Sl W 2 (some ⟨w.heap.size,0,none⟩) 1 1 (pcl [p]):=by
 have o:W.heap[w.heap.size]? = some (.cells #[.string p.1,.int .u64 (p.2:Nat)] 43 (0,0)):=hW▸heap_alloc_new w _
 exact⟨rfl,Nat.le_refl _,(fun e=>by cases e),pcl_one,(fun j u hu=>⟨w.heap.size,0,rfl,by
  rw[Nat.zero_add,cOo o j,<-hu]
  simp[pcl]⟩),(fun x e=>by cases e;rfl)⟩
set_option maxRecDepth 100000 in
theorem y_leafOf (ka ia:Option Addr) (kc ic:Nat) (l:List Pr) (w:World) (hK:Sl w 1 ka l.length kc (l.map fun p=>.string p.1)) (hI:Sl w 1 ia l.length ic (l.map fun p=>.int .u64 (p.2:Nat))) (h1:1<=l.length) (hl:l.length<=500) :
  Calls Tryz.prog 144 #[.slice ka l.length kc,.slice ia l.length ic] w fun e w'=>∃v,e = .returned v/\w'.ownsRow w.heap.size 43 2 v l.length (pcl l)/\St w w':=by
 have h1':(1:Int)<=l.length:=by omega
 go_enter Tryz.func144,Tryz.ntmps144
 go_wp2_with (first | (go_at_call 69;refine(y_must _).mono ?_;rintro e w' ⟨rfl,hh⟩;replace hh:=hh.symm;subst hh) | fail)
 go_loopw [5,21] (fun v i wr=>∃r:Nat,r<=l.length/\i = .int .i64 r/\wr.ownsRow w.heap.size 43 2 v r (pcl (l.take r))/\St w wr) (fun _ i _=>l.length - (RowKit.intOf i).toNat)
 case atStart=>exact⟨0,by omega,rfl,World.ownsRow_nil _ _ _ _,Fr.refl _ _⟩
 case round=>
  obtain⟨r,hrn,rfl,hrow,fr⟩:=hrel
  by_cases hlt:r<l.length
  ·obtain⟨p,hp⟩:∃p,l[r]? = some p:=⟨_,List.getElem?_eq_getElem hlt⟩
   obtain⟨b,o,rfl,c1⟩:=hK.cells r (.string p.1) (by rw[List.getElem?_map,hp];rfl)
   obtain⟨b2,o2,rfl,c2⟩:=hI.cells r (.int .u64 (p.2:Nat)) (by rw[List.getElem?_map,hp];rfl)
   replace c1:=fr.cell' c1 id
   replace c2:=fr.cell' c2 id
   have hlt':(r:Int)<l.length:=by omega
   obtain⟨W1,hW1⟩:∃W1,wr.alloc (.cells #[.string p.1,.int .u64 (p.2:Nat)] 43)=W1:=⟨_,rfl⟩
   have f1:St wr W1:=hW1▸(Fr.refl _ wr).alloc _
   obtain⟨v',w2,hap,hw2,hgr,hloc⟩:=run_more elt_P 100 (own_still hrow f1) (sl_pair wr W1 p hW1) (by omega) (Nat.le_trans fr.size f1.size)
   have ht:pcl (l.take (r+1))=pcl (l.take r) ++ pcl [p]:=by
    rw[List.take_add_one,hp,pcl_app];rfl
   have HX:=Hd (show w2.ownsRow w.heap.size 43 2 v' (r+1) (pcl (l.take (r+1)))/\St w w2 from⟨by rw[ht];exact hw2,(fr.trans' f1 nE).grown hgr (fun k hk=>.inr (hrow.lt k hk).1)⟩)
   have HAP:=Hd hap
   have HW1:=Hd hW1
   clear hK hI hap hw2 hloc hgr hrow ht f1 hW1
   go_wp2_with (first | (at_builtin;rw[uh HW1];refine wpList_append_run rfl (.tmp 26) (.tmp 33) 100 rfl _ _ rfl rfl v' w2 (uh HAP) ?_) | fail)
   obtain⟨hw2,f2⟩:=uh HX
   exact⟨⟨r+1,by omega,by simp,hw2,f2⟩,by simp[RowKit.intOf];omega⟩
  ·have e:r=l.length:=by omega
   subst e
   clear hK hI
   have hlt':¬(l.length:Int)<l.length:=by omega
   go_wp2_with fail
   go_ret
   exact⟨_,rfl,by simpa using hrow,fr⟩
theorem strB_byF (s:ByteArray):strB (byF s) s.size=s:=by
 apply bytes_ext
 rw[strB,strOfNums_data,List.map_map]
 apply List.ext_getElem?
 intro j
 have hs:s.size=s.data.toList.length:=by rw[Array.length_toList];rfl
 by_cases hj:j<s.data.toList.length
 ·rw[List.getElem?_map,rowL,List.getElem?_map,List.getElem?_range (by omega)]
  show some (UInt8.ofNat ((byF s j:Nat):Int).toNat)=_
  unfold byF
  rw[Int.toNat_natCast,List.getElem?_eq_getElem hj]
  simp only[List.getD,List.getElem?_eq_getElem hj,Option.getD_some,UInt8.ofNat_toNat]
 ·rw[List.getElem?_eq_none (by simp[rowL];omega),List.getElem?_eq_none (by omega)]
theorem cat2_W (w:World) (a1 a2:Option Addr) (n1 n2 c1 c2:Nat) (X1 X2:List Value) (S1:Sl w 1 a1 n1 c1 X1) (S2:Sl w 1 a2 n2 c2 X2) (hl:n1+n2<=1000000) :
  Calls Tryz.prog 175 #[.slice (some ⟨w.heap.size,0,none⟩) 2 2] (w.alloc (.cells #[.slice a1 n1 c1,.slice a2 n2 c2] 141)) fun e w'=>∃v,e = .returned v/\w'.ownsRow w.heap.size 27 1 v (n1+n2) (X1 ++ X2)/\St w w':=by
 obtain⟨W,hW⟩:∃W,w.alloc (.cells #[.slice a1 n1 c1,.slice a2 n2 c2] 141)=W:=⟨_,rfl⟩
 rw[hW]
 have fW:St w W:=hW▸(Fr.refl _ w).alloc _
 have oR:W.heap[w.heap.size]? = some (.cells #[.slice a1 n1 c1,.slice a2 n2 c2] 141 (0,0)):=hW▸heap_alloc_new w _
 have K:=cat_W (some ⟨w.heap.size,0,none⟩) 2 2 (fun t=>if t=0 then a1 else a2) (fun t=>if t=0 then n1 else n2) (fun t=>if t=0 then c1 else c2) (fun t=>if t=0 then X1 else X2) W (fun i hi=>by
  rcases (show i=0\/i=1 by omega) with rfl | rfl
  ·exact⟨⟨w.heap.size,0,rfl,show W.cell? ⟨w.heap.size,0,none⟩=some (.slice a1 n1 c1) from cOo oR 0⟩,S1.still fW⟩
  ·exact⟨⟨w.heap.size,0,rfl,show W.cell? ⟨w.heap.size,1,none⟩=some (.slice a2 n2 c2) from cOo oR 1⟩,S2.still fW⟩) (by omega) (by simp[offN];omega)
 refine K.mono ?_
 rintro e w' ⟨u,rfl,hu,f3⟩
 refine⟨u,rfl,?_,fW.trans' f3 nE⟩
 have e1:offN (fun t=>if t=0 then n1 else n2) 2=n1+n2:=by simp[offN]
 have e2:catX (fun t=>if t=0 then X1 else X2) 2=X1 ++ X2:=by simp[catX]
 rw[e1,e2] at hu
 exact own_lo hu fW.size
theorem pk_nats {w:World} {a:Option Addr} {c lo:Nat} {B:List Nat} (h:w.ownsRow lo 27 1 (.slice a (1+(pkW B).length) c) (1+(pkW B).length) (vals .u64 (B.length :: pkW B))):1+(pkW B).length=need B.length/\Nats .u64 w a (need B.length) (packF (fun t=>B.getD t 0) B.length):=by
 have hq:1+(pkW B).length=need B.length:=by rw[pkW_len];unfold need;omega
 refine⟨hq,fun i hi=>?_⟩
 have S:=sl_of_row h (vals_one _ _)
 refine S.cells i _ ?_
 cases i with
 | zero=>simp[vals,packF]
 | succ j=>
  have:j<(B.length+7) / 8:=by unfold need at hi;omega
  simp[vals,pkW,this]
theorem unpack_back (a:Option Addr) (c:Nat) (B:List Nat) (w:World) (hN:Nats .u64 w a (need B.length) (packF (fun t=>B.getD t 0) B.length)) (hB:∀t,B.getD t 0<256) (hb:B.length<=60000) :
  Calls Tryz.prog 182 #[.slice a (need B.length) c] w fun e w'=>St w w'/\∃g,e = .returned (.tuple #[.slice (some ⟨g,0,none⟩) B.length B.length,.int .i64 0])/\Nats .u8 w' (some ⟨g,0,none⟩) B.length (fun t=>B.getD t 0):=by
 obtain⟨p1,p2,p3⟩:=pack_back (fun t=>B.getD t 0) B.length (fun i _=>hB i) hb
 refine(unpack_ok a (need B.length) c _ w hN (fun i _=>pack_lt _ _ i (fun t _=>hB t) hb) (by unfold need;omega)).mono ?_
 rintro e w' ⟨bl,⟨h1,_⟩ | ⟨_,g,rfl,m⟩⟩
 ·exact absurd p1 h1
 ·rw[p2] at m ⊢
  refine⟨Fr.ofBelow bl,g,rfl,fun i hi=>?_⟩
  obtain⟨b,o,e,c1⟩:=m.nats i hi
  exact⟨b,o,e,by rw[c1,p3 i hi]⟩
end Go.Proofs.YtbiopjmpdhcjgaaGreatDoor
