/- Joined: NvC Rng NvD. -/
import Derived.BigRegion
import Derived.RangeFuncNested
import Derived.Sort.BigQuietIn
import Derived.StillTail
import Derived.Defers
import Derived.Recover
import Derived.Laws.Bits64b
import Derived.Test.YtbiopjmpdhcjgaaGreatDoorZ00
import Derived.Test.YtbiopjmpdhcjgaaGreatDoorZ01
namespace Go.Proofs.YtbiopjmpdhcjgaaGreatDoor
open Go.RowKit
set_option maxHeartbeats 4000000
def nm (zs:Nat->Int):Nat->Nat->Bool
 | 0,_=>false
 | q+1,j=>if zs q=j then true else nm zs q j
def pw (W:List Nat) (named:Nat->Bool) (flip:Bool) (now lasts:Nat->Int) (q j:Nat):Int:=if j∈W.take q/\named j=flip then lasts j else now j
theorem DevL.keptF {w w':World} {b:Nat} {L:Lay} {A:Ab} (h:DevL w b L A) (hf:Fr (fun _=>False) w w'):DevL w' b L A:=h.kept hf fun _ _ h=>h
def zeroLines (n:Nat):Array Value:=madeCells (lineCells fun _=>0).toArray (n * 8)
def zeroInts (n:Nat):Array Value:=madeCells #[.int .i64 0] n
def Ab.fresh (n:Nat):Ab:={ n:=n,now:=fun _=>0,lasts:=fun _=>0,way:=fun _=>none,steps:=0,fuse:=-1,dead:=false }
theorem zeroInts_get (n j:Nat) (hj:j<n):(zeroInts n)[j]? = some (.int .i64 0):=by
 have h:(madeCells #[Value.int .i64 0] n).toList[j]? = some (.int .i64 0):=by rw[toList_madeCells_one];simp[hj]
 simpa [zeroInts] using h
theorem zeroLines_get (n j:Nat) (hj:j<n * 8):(zeroLines n)[j]? = some (u64 0):=by
 simp only[zeroLines,madeCells]
 rw[Array.getElem?_eq_getElem (by simpa using hj)]
 simp
 have:j % 8=0\/j % 8=1\/j % 8=2\/j % 8=3\/j % 8=4\/j % 8=5\/j % 8=6\/j % 8=7:=by omega
 rcases this with e | e | e | e | e | e | e | e <;> simp[lineCells,e]
theorem new_dev (w:World) (n b bn bl bp:Nat) (hn:n<=8192)
  (hb:w.heap[b]? = some (.cells #[row bn n,row bl n,.slice none 0 0,row bp n,.int .i64 0,.int .i64 (-1),.bool false] 170 (0,0)))
  (hbn:w.heap[bn]? = some (.cells (zeroLines n) 197 (0,0))) (hbl:w.heap[bl]? = some (.cells (zeroLines n) 197 (0,0))) (hbp:w.heap[bp]? = some (.cells (zeroInts n) 3 (0,0)))
  (d1:b≠bn) (d2:b≠bl) (d3:b≠bp) (d4:bn≠bl) (d5:bn≠bp) (d6:bl≠bp) :
  DevL w b { bn:=bn,bl:=bl,bp:=bp,kn:=n,kl:=n,kp:=n,sv:=.slice none 0 0,place:=fun _=>0,sent:=[] } (Ab.fresh n):=by
 have cb:∀o,w.cell? ⟨b,o,none⟩=_:=fun o=>cell_of_row w b o _ _ _ hb
 refine { n8:=hn,c0:=cb 0,c1:=cb 1,c2:=cb 2,c3:=cb 3,c4:=cb 4,c5:=cb 5,c6:=cb 6,zb:=fun o=>frozen_of_row w b o _ _ hb,zn:=fun o=>frozen_of_row w bn o _ _ hbn,zl:=fun o=>frozen_of_row w bl o _ _ hbl,zp:=fun o=>frozen_of_row w bp o _ _ hbp,now:=fun j hj=>?_,lasts:=fun j hj=>?_,plc:=fun a ha=>?_,own:=World.ownsRow_nil _ _ _ _,bbn:=d1,bbl:=d2,bbp:=d3,bnl:=d4,bnp:=d5,blp:=d6,sb:=by simp[Value.ownBlock],sn:=by simp[Value.ownBlock],sl:=by simp[Value.ownBlock],sp:=by simp[Value.ownBlock],ltb:=(Array.getElem?_eq_some_iff.1 hb).1,ltn:=(Array.getElem?_eq_some_iff.1 hbn).1,ltl:=(Array.getElem?_eq_some_iff.1 hbl).1,ltp:=(Array.getElem?_eq_some_iff.1 hbp).1,sentOk:=fun p a l hp=>by simp at hp,wayOk:=fun a ha=>.inl ⟨rfl,rfl⟩,few:=by simp[Ab.fresh] }
 ·rw[cell_of_row w bn j _ _ _ hbn,zeroLines_get n j hj];rfl
 ·rw[cell_of_row w bl j _ _ _ hbl,zeroLines_get n j hj];rfl
 ·rw[cell_of_row w bp a _ _ _ hbp,zeroInts_get n a ha];rfl
theorem info57w:(Tryz.prog.info? 197).map (fun i=>(i.zero,i.size,i.bytes))=some (some (.agg (lineCells fun _=>0).toArray),8,64):=by kernel_rfl
theorem make_lines (n:Nat) (hn:n<=8192) (w:World):(Instr.makeSlice 167 (.int .i64 (n:Int)) (.int .i64 (n:Int))).run Tryz.prog w = .ok (row w.heap.size n) (w.alloc (.cells (zeroLines n) 197)):=by
 have hi:=info57w
 obtain⟨i0,hi0⟩:∃i,Tryz.prog.info? 197=some i:=by
  cases h:Tryz.prog.info? 197 with
  | none=>rw[h] at hi;simp at hi
  | some i=>exact⟨i,rfl⟩
 rw[hi0] at hi
 simp only[Option.map_some,Option.some.injEq,Prod.mk.injEq] at hi
 have:=run_make (P:=Tryz.prog) w 167 197 i0 _ Tryz.underlying167 hi0 hi.1 .i64 .i64 (n:Int) (n:Int) (by omega) (Int.le_refl _) (by rw[hi.2.2];omega) (by omega)
 rw[this,hi.2.1,Int.toNat_natCast]
 rfl
theorem make_ints (n:Nat) (hn:n<=8192) (w:World):(Instr.makeSlice 45 (.int .i64 (n:Int)) (.int .i64 (n:Int))).run Tryz.prog w = .ok (row w.heap.size n) (w.alloc (.cells (zeroInts n) 3)):=by
 have hi:=info3
 obtain⟨i0,hi0⟩:∃i,Tryz.prog.info? 3=some i:=by
  cases h:Tryz.prog.info? 3 with
  | none=>rw[h] at hi;simp at hi
  | some i=>exact⟨i,rfl⟩
 rw[hi0] at hi
 simp only[Option.map_some,Option.some.injEq,Prod.mk.injEq] at hi
 have:=run_make (P:=Tryz.prog) w 45 3 i0 _ Tryz.underlying45 hi0 hi.1 .i64 .i64 (n:Int) (n:Int) (by omega) (Int.le_refl _) (by rw[hi.2.2];omega) (by omega)
 rw[this,hi.2.1,Int.toNat_natCast,Nat.mul_one]
 rfl
theorem four (w:World) (O1 O2 O3 O4:Obj):(((((w.alloc O1).alloc O2).alloc O3).alloc O4).drew).heap[w.heap.size]? = some O1/\(((((w.alloc O1).alloc O2).alloc O3).alloc O4).drew).heap[w.heap.size+1]? = some O2/\
  (((((w.alloc O1).alloc O2).alloc O3).alloc O4).drew).heap[w.heap.size+2]? = some O3/\(((((w.alloc O1).alloc O2).alloc O3).alloc O4).drew).heap[w.heap.size+3]? = some O4:=by
 have s1:(w.alloc O1).heap.size=w.heap.size+1:=by simp
 have s2:((w.alloc O1).alloc O2).heap.size=w.heap.size+2:=by simp
 have s3:(((w.alloc O1).alloc O2).alloc O3).heap.size=w.heap.size+3:=by simp
 refine⟨?_,?_,?_,?_⟩
 ·show((((w.alloc O1).alloc O2).alloc O3).alloc O4).heap[w.heap.size]? = _
  rw[Below.heap_alloc _ _ _ (by omega),Below.heap_alloc _ _ _ (by omega),Below.heap_alloc _ _ _ (by omega)];exact heap_alloc_new w O1
 ·show((((w.alloc O1).alloc O2).alloc O3).alloc O4).heap[w.heap.size+1]? = _
  rw[Below.heap_alloc _ _ _ (by omega),Below.heap_alloc _ _ _ (by omega),<-s1];exact heap_alloc_new _ O2
 ·show((((w.alloc O1).alloc O2).alloc O3).alloc O4).heap[w.heap.size+2]? = _
  rw[Below.heap_alloc _ _ _ (by omega),<-s2];exact heap_alloc_new _ O3
 ·show((((w.alloc O1).alloc O2).alloc O3).alloc O4).heap[w.heap.size+3]? = _
  rw[<-s3];exact heap_alloc_new _ O4
theorem new_close (w:World) (n:Nat) (hn:n<=8192) (O1 O2 O3:Obj) (bn bl bp:Nat)
  (h1:bn=w.heap.size/\O1 = .cells (zeroLines n) 197\/bn=w.heap.size+1/\O2 = .cells (zeroLines n) 197\/bn=w.heap.size+1+1/\O3 = .cells (zeroLines n) 197)
  (h2:bl=w.heap.size/\O1 = .cells (zeroLines n) 197\/bl=w.heap.size+1/\O2 = .cells (zeroLines n) 197\/bl=w.heap.size+1+1/\O3 = .cells (zeroLines n) 197)
  (h3:bp=w.heap.size/\O1 = .cells (zeroInts n) 3\/bp=w.heap.size+1/\O2 = .cells (zeroInts n) 3\/bp=w.heap.size+1+1/\O3 = .cells (zeroInts n) 3)
  (d4:bn≠bl) (d5:bn≠bp) (d6:bl≠bp) :
  ∃L,DevL ((((w.alloc O1).alloc O2).alloc O3).alloc (.cells #[row bn n,row bl n,.slice none 0 0,row bp n,.int .i64 0,.int .i64 (-1),.bool false] 170)).drew (w.heap.size+3) L (Ab.fresh n)/\
   Fr (fun _=>False) w ((((w.alloc O1).alloc O2).alloc O3).alloc (.cells #[row bn n,row bl n,.slice none 0 0,row bp n,.int .i64 0,.int .i64 (-1),.bool false] 170)).drew/\∀k,foot (w.heap.size+3) L k->w.heap.size<=k:=by
 obtain⟨f1,f2,f3,f4⟩:=four w O1 O2 O3 (.cells #[row bn n,row bl n,.slice none 0 0,row bp n,.int .i64 0,.int .i64 (-1),.bool false] 170)
 refine⟨_,new_dev _ n (w.heap.size+3) bn bl bp hn f4 ?_ ?_ ?_ (by omega) (by omega) (by omega) d4 d5 d6,(((((Fr.refl _ w).alloc _).alloc _).alloc _).alloc _).drew,?_⟩
 ·rcases h1 with ⟨rfl,e⟩ | ⟨rfl,e⟩ | ⟨rfl,e⟩
  ·rw[f1,e]
  ·rw[f2,e]
  ·rw[f3,e]
 ·rcases h2 with ⟨rfl,e⟩ | ⟨rfl,e⟩ | ⟨rfl,e⟩
  ·rw[f1,e]
  ·rw[f2,e]
  ·rw[f3,e]
 ·rcases h3 with ⟨rfl,e⟩ | ⟨rfl,e⟩ | ⟨rfl,e⟩
  ·rw[f1,e]
  ·rw[f2,e]
  ·rw[f3,e]
 ·rintro k (hk | hk | hk | hk | hk)
  ·omega
  ·simp at hk;omega
  ·simp at hk;omega
  ·simp at hk;omega
  ·simp[Value.ownBlock] at hk
def NewOk (n:Nat) (w:World) (e:Ending) (w':World):Prop:=
 e = .returned (.tuple #[ptr (w.heap.size+3),.int .i64 0])/\∃L,DevL w' (w.heap.size+3) L (Ab.fresh n)/\Fr (fun _=>False) w w'/\∀k,foot (w.heap.size+3) L k->w.heap.size<=k

section
/-! ### Regions: a quiet head, then a chain -/
section
variable {F:Fence} {n:Nat} {P:Program} {ops:Array Oper} {md:Region.Mode} {C:World->Prop}
def noDefer (l:List Oper):Bool:=l.all fun o=>match o.op with | .defer _=>false | _=>true
theorem noDefer_spec {l:List Oper} (h:noDefer l=true) {i:Nat} {o:Oper} (ho:l.toArray[i]? = some o):∀c,o.op ≠ .defer c:=by
 have hm:o∈l:=by
  have:l[i]? = some o:=by simpa using ho
  exact List.mem_of_getElem? this
 have:=List.all_eq_true.1 h o hm
 intro c hc
 simp[hc] at this
theorem opIn_of_quiet {i:Nat} {a:Act} {K:Act->Prop} {K':Act->World->Prop} {Q':Exit->Act->World->Prop} {w:World} (hnd:∀o,ops[i]? = some o->∀c,o.op ≠ .defer c) (hC:C w) (h:∀a w',C w'->K a->K' a w')
  (hh:qOpIn F n P ops C i K a):wpOpIn F n P ops Q' i K' a w:=by
 unfold qOpIn at hh
 unfold wpOpIn
 split
 ·rename_i ho;simp only[ho] at hh;exact h _ _ hC hh
 ·rename_i o ho
  simp only[ho] at hh
  obtain⟨ha,hh⟩:=hh
  split
  ·rename_i hw
   simp only[hw,if_true] at hh
   obtain⟨v,h1,h2⟩:=hh
   have h3:=h1 w hC
   unfold Oper.quietAtIn at h3
   unfold Oper.wpIn
   refine⟨ha w hC,?_⟩
   rw[Oper.semAt_eq _ _ _ (hnd o ho)]
   generalize (execOp a.eval o).run P w=r at *
   cases r with
   | ok x w'=>
    cases x <;> simp only[Oper.quietUponIn] at h3 <;> simp only[Oper.uponIn]
    case value u=>
     obtain⟨e1,e2⟩:=h3
     rw[e1,e2]
     exact h _ _ hC h2
    case skip=>
     obtain⟨e1,e2⟩:=h3
     rw[e1,<-e2]
     exact h _ _ hC h2
    case enter f args=>
     obtain⟨e1,hd,hc⟩:=h3
     rw[e1]
     exact⟨hd,hc.mono fun e w'' ⟨he,hw''⟩=>by subst he;exact h _ _ hw'' h2⟩
   | halt x w'=>simp only[Oper.quietUponIn] at h3
  ·rename_i hw;simp only[hw] at hh;exact⟨ha w hC,h _ _ hC hh⟩
def headIn (F:Fence) (m:Nat) (P:Program) (md:Region.Mode) (ops:Array Oper) (C:World->Prop) (n:Nat) (L:Array Bool->Act->Prop):Nat->Array Bool->Act->Prop
 | 0,listed,a=>L listed a
 | f+1,listed,a=>Region.ready md ops listed ≠ []/\∀i∈Region.ready md ops listed,i<n/\qOpIn F m P ops C i (headIn F m P md ops C n L f (listed.setIfInBounds i true)) a
theorem any_of_head {m n g:Nat} {L:Array Bool->Act->Prop} {Q':Exit->Act->World->Prop} (hnd:∀(i:Nat) (o:Oper),ops[i]? = some o->∀c,o.op ≠ .defer c)
  (hL:∀listed a w,C w->L listed a->wpAnyIn F m P md ops Q' g listed a w):∀(f:Nat) (listed:Array Bool) (a:Act) (w:World),C w->headIn F m P md ops C n L f listed a->wpAnyIn F m P md ops Q' (f+g) listed a w
 | 0,listed,a,w,hC,h=>by rw[Nat.zero_add];exact hL _ _ _ hC h
 | f+1,listed,a,w,hC,h=>by
  rw[show f+1+g=(f+g)+1 by omega]
  exact⟨fun h0=>absurd h0 h.1,fun i hi=>opIn_of_quiet (hnd i) hC (fun a' w' hC' h'=>any_of_head hnd hL f _ a' w' hC' h') (h.2 i hi).2⟩
theorem head_first {m n i:Nat} {oi:Oper} {v:Value} {L:Array Bool->Act->Prop} (hi:ops[i]? = some oi) (hsel:∀(j:Nat) (o:Oper) cs b,ops[j]? = some o->o.op ≠ .select cs b)
  (hs:Region.sinkB md ops n=true) (hc:Region.chainB md ops n=true) (hn:n<ops.size) (hin:i<n)
  (hdone:∀listed a,L listed a->∀j∈Region.ready md ops listed,n<=j) :
  ∀(f:Nat) (listed:Array Bool) (a:Act),HeadInv md ops n listed->
   (∀j oj,ops[j]? = some oj->j≠i->listed.getD j true=false->(∀e∈oj.after,Region.binds md e=true->e.on≠i)->oi.apart ops oj=true)->
   i∈Region.ready md ops listed->YieldsQuiet F m P ops C oi v a->
   headIn F m P md ops C n L f (listed.setIfInBounds i true) (a.put oi.dst v)->headIn F m P md ops C n L (f+1) listed a:=by
 intro f
 have low:∀(listed:Array Bool),HeadInv md ops n listed->i∈Region.ready md ops listed->∀j∈Region.ready md ops listed,j<n:=fun listed inv hr j hj=>by
  rcases Nat.lt_or_ge j n with h | h
  ·exact h
  ·exact absurd hj (tail_waits hs hc hn inv _ i rfl hin (mem_ready.1 hr).1 j h)
 induction f with
 | zero=>
  intro listed a inv _ hr hy H
  refine⟨fun h=>(by rw[h] at hr;cases hr),fun j hj=>⟨low listed inv hr j hj,?_⟩⟩
  by_cases hji:j=i
  ·subst hji;exact hy.qOpIn hi H
  ·have:=hdone _ _ H j (ready_mono hj hji)
   have:=low listed inv hr j hj
   omega
 | succ f ih=>
  intro listed a inv hfree hr hy H
  have hun:=(mem_ready.1 hr).1
  refine⟨fun h=>(by rw[h] at hr;cases hr),fun j hj=>⟨low listed inv hr j hj,?_⟩⟩
  by_cases hji:j=i
  ·subst hji;exact hy.qOpIn hi H
  ·have h1:=(H.2 j (ready_mono hj hji)).2
   obtain⟨hjun,oj,hoj,hall⟩:=mem_ready.1 hj
   have hnot:∀e∈oj.after,Region.binds md e=true->e.on≠i:=fun e he hb heq=>by
    have h1:=hall e he hb
    rw[heq,getD_both hun] at h1
    cases h1
   have h2:=qOpIn_put hoj (hfree j oj hoj hji hjun hnot) (fun cs b=>hsel i oi cs b hi) (fun cs b=>hsel j oj cs b hoj) hy h1
   have hfree':∀k ok,ops[k]? = some ok->k≠i->(listed.setIfInBounds j true).getD k true=false->
     (∀e∈ok.after,Region.binds md e=true->e.on≠i)->oi.apart ops ok=true:=fun k ok hk hki hun hno=>by
    refine hfree k ok hk hki ?_ hno
    by_cases hjk:j=k
    ·subst hjk;exact hjun
    ·rw[getD_set_ne true hjk] at hun;exact hun
   refine qOpIn_mono (fun a' h3=>ih (listed.setIfInBounds j true) a' (inv.set hj (low listed inv hr j hj)) hfree' (ready_mono hr (Ne.symm hji)) h3.1 ?_) h2
   rw[Array.setIfInBounds_comm _ _ hji]
   exact h3.2
theorem head_lex {m n g:Nat} {Lq:Act->Prop} (hsel:Region.noSelect ops=true) (hs:Region.sinkB md ops n=true) (hc:Region.chainB md ops n=true) (hn:n<ops.size) :
  ∀(l:List Oper) (k:Nat) (listed:Array Bool) (a:Act),(∀j,j<l.length->l[j]? = ops[k+j]?)->k+l.length=n->HeadInv md ops n listed->
  Region.lexHead md ops g l.length k listed=true->wpQuietIn F m P ops C Lq l a->
  headIn F m P md ops C n (fun listed' a'=>Region.seqB md ops g n listed'=true/\Lq a') l.length listed a
 | [],k,listed,a,_,hk,_,hB,h=>by
  have:k=n:=by simpa using hk
  subst this
  exact⟨by simpa [Region.lexHead] using hB,h⟩
 | o :: l,k,listed,a,hl,hk,inv,hB,h=>by
  have h0:ops[k]? = some o:=by simpa using (hl 0 (by simp)).symm
  simp only[List.length_cons,Region.lexHead,Bool.and_eq_true] at hB
  obtain⟨⟨hr,hf⟩,hB'⟩:=hB
  have hkn:k<n:=by simp only[List.length_cons] at hk;omega
  have hr':k∈Region.ready md ops listed:=by simpa using hr
  have hst:qOpIn F m P ops C k (wpQuietIn F m P ops C Lq l) a:=by unfold qOpIn;simp only[h0];exact h
  obtain⟨v,hy,hK⟩:=yieldsQuiet_of_qOpIn h0 hst
  exact head_first h0 (Region.noSelect_spec hsel) hs hc hn hkn (fun listed' a' hL=>seqB_ready hL.1) l.length listed a inv (Region.free_spec h0 hf) hr' hy
   (head_lex hsel hs hc hn l (k+1) _ _ (fun j hj=>by have:=hl (j+1) (by simp;omega);simpa [Nat.add_assoc,Nat.add_comm 1 j] using this) (by simp only[List.length_cons] at hk;omega) (inv.set hr' hkn) hB' hK)
theorem any_of_seq {m:Nat} {Q':Exit->Act->World->Prop}:∀(l:List Oper) (k:Nat) (listed:Array Bool) (a:Act) (w:World),(∀j,l[j]? = ops[k+j]?)->
  Region.seqB md ops l.length k listed=true->wpListIn F m P ops Q' l a w->wpAnyIn F m P md ops Q' l.length listed a w
 | [],_,_,_,_,_,hB,h=>⟨by simpa [Region.seqB] using hB,h⟩
 | o :: l,k,listed,a,w,hl,hB,h=>by
  have h0:ops[k]? = some o:=by simpa using (hl 0).symm
  simp only[List.length_cons,Region.seqB,Bool.and_eq_true,decide_eq_true_eq] at hB
  refine⟨fun h1=>(by rw[hB.1] at h1;cases h1),fun i hi=>?_⟩
  rw[hB.1] at hi
  have hik:i=k:=by simpa using hi
  subst hik
  have hw:wpOpIn F m P ops Q' i (wpListIn F m P ops Q' l) a w:=by unfold wpOpIn;simp only[h0];exact h
  exact wpOpIn_mono (fun a' w' h'=>any_of_seq l (i+1) _ a' w' (fun j=>by have:=hl (j+1);simpa [Nat.add_assoc,Nat.add_comm 1 j] using this) hB.2 h') hw
theorem region_tail {m id:Nat} {Q:Exit->Act->World->Prop} {a:Act} {w:World} {l:List Oper} (k:Nat) (hm:P.follows .mixedOrders=true) (hB:Region.lexTailB .any l.toArray k=true) (hd:noDefer l=true)
  (h:wpQuietIn F m P l.toArray (fun w'=>∃n,w'=w.drewN n) (fun a'=>∀w',(∃n,w'=w.drewN n)->wpListIn F m P l.toArray Q (l.drop k) a' w') (l.take k) a):(Code.region id l.toArray true).wpIn F m P Q a w:=by
 simp only[Region.lexTailB,Bool.and_eq_true,decide_eq_true_eq] at hB
 obtain⟨⟨⟨⟨hsel,hn⟩,hs⟩,hc⟩,hlex⟩:=hB
 have hn':k<l.length:=by simpa using hn
 have htl:(l.take k).length=k:=by simp;omega
 have hdl:(l.drop k).length=l.toArray.size - k:=by simp
 have inv0:HeadInv .any l.toArray k (Array.replicate l.toArray.size false):=
  ⟨by simp,fun j oj _ hl=>(by rw[getD_replicate_false] at hl;cases hl),fun t _ ht=>getD_in (by simpa using ht) (getD_replicate_false _ _)⟩
 have H:=head_lex (F:=F) (m:=m) (P:=P) (C:=fun w'=>∃n,w'=w.drewN n) (md:=.any) (g:=l.toArray.size - k) hsel hs hc hn (l.take k) 0 _ a (fun j hj=>by
  have hj':j<k:=by rw[htl] at hj;exact hj
  simp[hj']) (by simpa using htl) inv0 (by rw[htl];exact hlex) h
 refine wpIn_region_any hm ?_
 have:=any_of_head (Q':=Q) (g:=l.toArray.size - k) (fun i o ho=>noDefer_spec hd ho) (fun listed a' w' hC hL=>by
  have:=any_of_seq (F:=F) (m:=m) (P:=P) (md:=.any) (Q':=Q) (l.drop k) k listed a' w' (fun j=>by simp[List.getElem?_drop]) (by rw[hdl];exact hL.1) (hL.2 w' hC)
  rwa [hdl] at this) _ _ _ { w with drawn:=w.drawn+1 } ⟨1,rfl⟩ H
 rw[htl,show k+(l.toArray.size - k)=l.toArray.size by omega] at this
 exact this
/-! ### The same outside a fence -/
def headP (P:Program) (md:Region.Mode) (ops:Array Oper) (C:World->Prop) (n:Nat) (L:Array Bool->Act->Prop):Nat->Array Bool->Act->Prop
 | 0,listed,a=>L listed a
 | f+1,listed,a=>Region.ready md ops listed ≠ []/\∀i∈Region.ready md ops listed,i<n/\qOp P ops C i (headP P md ops C n L f (listed.setIfInBounds i true)) a
theorem any_of_headP {n g:Nat} {L:Array Bool->Act->Prop} {Q':Exit->Act->World->Prop}     (hL:∀listed a w,C w->L listed a->wpAny P md ops Q' g listed a w):∀(f:Nat) (listed:Array Bool) (a:Act) (w:World),C w->headP P md ops C n L f listed a->wpAny P md ops Q' (f+g) listed a w
 | 0,listed,a,w,hC,h=>by rw[Nat.zero_add];exact hL _ _ _ hC h
 | f+1,listed,a,w,hC,h=>by
  rw[show f+1+g=(f+g)+1 by omega]
  exact⟨fun h0=>absurd h0 h.1,fun i hi=>wpOp_of_qOp hC (fun a' w' hC' h'=>any_of_headP hL f _ a' w' hC' h') (h.2 i hi).2⟩
theorem head_firstP {n i:Nat} {oi:Oper} {v:Value} {L:Array Bool->Act->Prop} (hi:ops[i]? = some oi) (hsel:∀(j:Nat) (o:Oper) cs b,ops[j]? = some o->o.op ≠ .select cs b)
  (hs:Region.sinkB md ops n=true) (hc:Region.chainB md ops n=true) (hn:n<ops.size) (hin:i<n)
  (hdone:∀listed a,L listed a->∀j∈Region.ready md ops listed,n<=j) :
  ∀(f:Nat) (listed:Array Bool) (a:Act),HeadInv md ops n listed->
   (∀j oj,ops[j]? = some oj->j≠i->listed.getD j true=false->(∀e∈oj.after,Region.binds md e=true->e.on≠i)->oi.apart ops oj=true)->
   i∈Region.ready md ops listed->YieldsIn P ops C oi v a->
   headP P md ops C n L f (listed.setIfInBounds i true) (a.put oi.dst v)->headP P md ops C n L (f+1) listed a:=by
 intro f
 have low:∀(listed:Array Bool),HeadInv md ops n listed->i∈Region.ready md ops listed->∀j∈Region.ready md ops listed,j<n:=fun listed inv hr j hj=>by
  rcases Nat.lt_or_ge j n with h | h
  ·exact h
  ·exact absurd hj (tail_waits hs hc hn inv _ i rfl hin (mem_ready.1 hr).1 j h)
 induction f with
 | zero=>
  intro listed a inv _ hr hy H
  refine⟨fun h=>(by rw[h] at hr;cases hr),fun j hj=>⟨low listed inv hr j hj,?_⟩⟩
  by_cases hji:j=i
  ·subst hji;exact hy.qOp hi H
  ·have:=hdone _ _ H j (ready_mono hj hji)
   have:=low listed inv hr j hj
   omega
 | succ f ih=>
  intro listed a inv hfree hr hy H
  have hun:=(mem_ready.1 hr).1
  refine⟨fun h=>(by rw[h] at hr;cases hr),fun j hj=>⟨low listed inv hr j hj,?_⟩⟩
  by_cases hji:j=i
  ·subst hji;exact hy.qOp hi H
  ·have h1:=(H.2 j (ready_mono hj hji)).2
   obtain⟨hjun,oj,hoj,hall⟩:=mem_ready.1 hj
   have hnot:∀e∈oj.after,Region.binds md e=true->e.on≠i:=fun e he hb heq=>by
    have h1:=hall e he hb
    rw[heq,getD_both hun] at h1
    cases h1
   have h2:=qOp_put hoj (hfree j oj hoj hji hjun hnot) (fun cs b=>hsel i oi cs b hi) (fun cs b=>hsel j oj cs b hoj) hy h1
   have hfree':∀k ok,ops[k]? = some ok->k≠i->(listed.setIfInBounds j true).getD k true=false->
     (∀e∈ok.after,Region.binds md e=true->e.on≠i)->oi.apart ops ok=true:=fun k ok hk hki hun hno=>by
    refine hfree k ok hk hki ?_ hno
    by_cases hjk:j=k
    ·subst hjk;exact hjun
    ·rw[getD_set_ne true hjk] at hun;exact hun
   refine qOp_mono (fun a' h3=>ih (listed.setIfInBounds j true) a' (inv.set hj (low listed inv hr j hj)) hfree' (ready_mono hr (Ne.symm hji)) h3.1 ?_) h2
   rw[Array.setIfInBounds_comm _ _ hji]
   exact h3.2
theorem head_lexP {n g:Nat} {Lq:Act->Prop} (hsel:Region.noSelect ops=true) (hs:Region.sinkB md ops n=true) (hc:Region.chainB md ops n=true) (hn:n<ops.size) :
  ∀(l:List Oper) (k:Nat) (listed:Array Bool) (a:Act),(∀j,j<l.length->l[j]? = ops[k+j]?)->k+l.length=n->HeadInv md ops n listed->
  Region.lexHead md ops g l.length k listed=true->wpQuiet P ops C Lq l a->
  headP P md ops C n (fun listed' a'=>Region.seqB md ops g n listed'=true/\Lq a') l.length listed a
 | [],k,listed,a,_,hk,_,hB,h=>by
  have:k=n:=by simpa using hk
  subst this
  exact⟨by simpa [Region.lexHead] using hB,h⟩
 | o :: l,k,listed,a,hl,hk,inv,hB,h=>by
  have h0:ops[k]? = some o:=by simpa using (hl 0 (by simp)).symm
  simp only[List.length_cons,Region.lexHead,Bool.and_eq_true] at hB
  obtain⟨⟨hr,hf⟩,hB'⟩:=hB
  have hkn:k<n:=by simp only[List.length_cons] at hk;omega
  have hr':k∈Region.ready md ops listed:=by simpa using hr
  have hst:qOp P ops C k (wpQuiet P ops C Lq l) a:=by unfold qOp;simp only[h0];exact h
  obtain⟨v,hy,hK⟩:=yieldsIn_of_qOp h0 hst
  exact head_firstP h0 (Region.noSelect_spec hsel) hs hc hn hkn (fun listed' a' hL=>seqB_ready hL.1) l.length listed a inv (Region.free_spec h0 hf) hr' hy
   (head_lexP hsel hs hc hn l (k+1) _ _ (fun j hj=>by have:=hl (j+1) (by simp;omega);simpa [Nat.add_assoc,Nat.add_comm 1 j] using this) (by simp only[List.length_cons] at hk;omega) (inv.set hr' hkn) hB' hK)
theorem region_tailP {id:Nat} {Q:Exit->Act->World->Prop} {a:Act} {w:World} {l:List Oper} (k:Nat) (hm:P.follows .mixedOrders=true) (hB:Region.lexTailB .any l.toArray k=true)
  (h:wpQuiet P l.toArray (fun w'=>∃n,w'=w.drewN n) (fun a'=>∀w',(∃n,w'=w.drewN n)->wpList P l.toArray Q (l.drop k) a' w') (l.take k) a):(Code.region id l.toArray true).wp P Q a w:=by
 simp only[Region.lexTailB,Bool.and_eq_true,decide_eq_true_eq] at hB
 obtain⟨⟨⟨⟨hsel,hn⟩,hs⟩,hc⟩,hlex⟩:=hB
 have hn':k<l.length:=by simpa using hn
 have htl:(l.take k).length=k:=by simp;omega
 have hdl:(l.drop k).length=l.toArray.size - k:=by simp
 have inv0:HeadInv .any l.toArray k (Array.replicate l.toArray.size false):=
  ⟨by simp,fun j oj _ hl=>(by rw[getD_replicate_false] at hl;cases hl),fun t _ ht=>getD_in (by simpa using ht) (getD_replicate_false _ _)⟩
 have H:=head_lexP (P:=P) (C:=fun w'=>∃n,w'=w.drewN n) (md:=.any) (g:=l.toArray.size - k) hsel hs hc hn (l.take k) 0 _ a (fun j hj=>by
  have hj':j<k:=by rw[htl] at hj;exact hj
  simp[hj']) (by simpa using htl) inv0 (by rw[htl];exact hlex) h
 refine wp_region_any hm ?_
 have:=any_of_headP (Q':=Q) (g:=l.toArray.size - k) (fun listed a' w' hC hL=>by
  have:=wpAny_of_seq (P:=P) (md:=.any) (Q':=Q) (l.drop k) k listed a' w' (fun j=>by simp[List.getElem?_drop]) (by rw[hdl];exact hL.1) (hL.2 w' hC)
  rwa [hdl] at this) _ _ _ { w with drawn:=w.drawn+1 } ⟨1,rfl⟩ H
 rw[htl,show k+(l.toArray.size - k)=l.toArray.size by omega] at this
 exact this
end
/-! ### A round that may panic -/
def rndPost (P:Program) (l:Nat) (R:Ending->World->Prop):Exit->Act->World->Prop
 | .normal,_,w=>∃v w',(Instr.endRound l none).run P w = .ok v w'/\R (.returned v) w'
 | .ret,_,w=>∃v w',(Instr.endRound l (some .ret)).run P w = .ok v w'/\R (.returned v) w'
 | .panic ch,a,w=>a.defers = []/\R (.panicked ch) w
 | _,_,_=>False
theorem round_of_wp {F:Fence} {n:Nat} {P:Program} {l:Nat} {f:FuncId} {tmps:Array Value} {assign body:Code} {w:World} {R:Ending->World->Prop} (hF:F.fn f) (hfn:∃fn,P.funcs[f]? = some fn)
  (h:assign.wpIn (F.inRound l) n P (Exit.then (fun a₁ w₁=>∃w₂,(Instr.beginRound l).run P w₁ = .ok () w₂/\body.wpIn (F.inRound l) n P (rndPost P l R) a₁ w₂) (fun _ _ _=>False))
   { tmps:=tmps,defers:=[] } w) :
  RoundIn F n P l f tmps assign body w R:=by
 refine⟨hF,fun c cs hr=>?_⟩
 let b:Frame:={ (default:Frame) with fn:=f,kind:=.normal,roundOf:=some l }
 have hb0:Frame.round l f tmps assign body .normal=b.atR { tmps:=tmps,defers:=[] } [.code assign,.beginRound,.code body]:=by
  simp[Frame.round,Frame.atR,b]
 have hr':(F.inRound l).room ((c :: cs).length+1+n):=hr
 have hF':(F.inRound l).fn b.fn:=hF
 obtain⟨e,a₁,w₁,hq,harr⟩:=h b [.beginRound,.code body] (c :: cs) rfl hF' hr'
 rw[<-hb0] at harr
 cases e with
 | normal=>
  obtain⟨w₂,hbr,hbody⟩:=hq
  have s1:StepsIn (Machine.fenced P (F.inRound l)) P (lone (b.atR a₁ [.beginRound,.code body]) (c :: cs) w₁) (lone (b.atR a₁ [.code body]) (c :: cs) w₂):=
   .one (fenced_calm (fr:=b.atR a₁ [.beginRound,.code body]) hF' hr' rfl) (stepR_beginRound rfl hbr)
  obtain⟨e₂,a₂,w₃,hq₂,harr₂⟩:=hbody b [] (c :: cs) rfl hF' hr'
  cases e₂ with
  | normal=>
   obtain⟨v,w₄,hend,hR⟩:=hq₂
   exact⟨.returned v,w₄,hR,(StepsIn.trans harr s1).trans (StepsIn.trans harr₂ (.one (fenced_calm (fr:=b.atR a₂ []) hF' hr' rfl) (stepR_round_end rfl rfl hend)))⟩
  | ret=>
   obtain⟨v,w₄,hend,hR⟩:=hq₂
   obtain⟨k₁,hs⟩:=harr₂.2 rfl
   exact⟨.returned v,w₄,hR,(StepsIn.trans harr s1).trans (StepsIn.trans hs (.one (fenced_calm (fr:=b.atR a₂ (.code .ret :: k₁)) hF' hr' rfl) (stepR_round_ret rfl rfl hend)))⟩
  | panic ch=>
   obtain⟨hd,hR⟩:=hq₂
   obtain⟨todo,hs⟩:=harr₂
   have hl:Frame.leaving P { b.atR a₂ todo with mode:=.panicking ch } w₃ (.panicked ch):=⟨rfl,hd,hfn⟩
   exact⟨.panicked ch,w₃,hR,(StepsIn.trans harr s1).trans (StepsIn.trans hs (.one (fenced_leaving (n:=n) hF' hr' hl) (step_leave_panicked hl)))⟩
  | exit id=>exact hq₂.elim
  | goto t=>exact hq₂.elim
  | outgrown=>exact hq₂.elim
 | exit id=>exact hq.elim
 | goto t=>exact hq.elim
 | ret=>exact hq.elim
 | panic chain=>exact hq.elim
 | outgrown=>exact hq.elim
theorem Fr.putObj {F:Nat->Prop} {a w:World} (h:Fr F a w) {r:Nat} (hr:F r\/a.heap.size<=r) (o:Obj):Fr F a (w.putObj r o):=
 h.trans' (G:=fun k=>k=r) ⟨rfl,rfl,rfl,by simp,fun k _ hk=>World.putObj_heap_other hk⟩ (fun k e=>by subst e;exact hr)
def pair (D:Nat):Nat->Prop:=fun k=>k=D\/k=D+1
def Iter (m:Nat) (P:Program) (gf:Nat) (lb:Array Value) (enc:Nat->Value) (N l:Nat) (J:Nat->World->Prop):Prop:=
 ∀(J':Nat->World->Prop) (Jx:World->Prop) (Jp:List PanicEntry->World->Prop),(∀k W,J' k W->J k W)->(∀k W n,J' k W->J' k (W.drewN n))->
  (∀k W,k<N->J' k W->YieldAt Fence.wide (m - 1) P l #[enc k] W fun e W'=>(e = .returned (.bool true)/\J' (k+1) W')\/(e = .returned (.bool false)/\Jx W')\/∃ch,e = .panicked ch/\Jp ch W')->
  ∀W,J' 0 W->CallsIn Fence.wide m P gf (#[.func (.yield l) #[] #[]] ++ lb) W fun e W'=>(∃v,e = .returned v/\J' N W')\/(∃v,e = .returned v/\Jx W')\/∃ch,e = .panicked ch/\Jp ch W'
def bodyEnds (D:Nat) (J:World->Prop) (Jr:World->Prop) (Jp:List PanicEntry->World->Prop) (W:World):Exit->Act->World->Prop
 | .normal,_,W'=>(W'.heap[D]? = W.heap[D]?/\W'.heap[D+1]? = W.heap[D+1]?)/\J W'
 | .ret,_,W'=>(W'.heap[D]? = W.heap[D]?/\W'.heap[D+1]? = W.heap[D+1]?)/\Jr W'
 | .panic ch,a,W'=>a.defers = []/\W'.heap[D]? = W.heap[D]?/\Jp ch W'
 | _,_,_=>False
/-! ### Walks of one function's own frames -/
def wpOf (P:Program) (f:FuncId) (c:Code) (Q:Exit->Act->World->Prop) (a:Act) (w:World):Prop:=
 ∀(b:Frame) (k:List Item) (cs:List Frame),b.roundOf=none->b.fn=f->∃e a' w',Q e a' w'/\ArrivesIn (Machine.fenced P Fence.wide) P (lone (b.atR a (.code c :: k)) cs w) b k cs e a' w'
section
variable {P:Program} {f:FuncId} {Q:Exit->Act->World->Prop} {a:Act} {w:World}
theorem wpOf_of_wp {c:Code} (h:c.wp P Q a w):wpOf P f c Q a w:=fun b k cs hro _=>(wpIn_wide (n:=0)).2 h b k cs hro trivial (room_wide _)
theorem wpOf_seq {x y:Code} (h:wpOf P f x (Exit.then (wpOf P f y Q) Q) a w):wpOf P f (Code.seq x y) Q a w:=by
 intro b k cs hro hb
 obtain⟨e,a₁,w₁,hq,harr⟩:=h b (.code y :: k) cs hro hb
 have s0:StepsIn (Machine.fenced P Fence.wide) P (lone (b.atR a (.code (.seq x y) :: k)) cs w) (lone (b.atR a (.code x :: .code y :: k)) cs w):=.one (fenced_wide P _) stepR_seq
 cases e with
 | normal=>
  obtain⟨e₂,a₂,w₂,hq₂,harr₂⟩:=hq b k cs hro hb
  exact⟨e₂,a₂,w₂,hq₂,.of_steps (s0.trans harr) harr₂⟩
 | exit id=>exact⟨_,a₁,w₁,hq,.of_steps s0 (ArrivesIn.pass rfl (fun _ _=>.inl (by simp)) harr)⟩
 | goto l=>exact⟨_,a₁,w₁,hq,.of_steps s0 (ArrivesIn.pass rfl (fun _ _=>.inl (by simp)) harr)⟩
 | ret=>exact⟨_,a₁,w₁,hq,.of_steps s0 (ArrivesIn.pass rfl (fun _ _=>.inl (by simp)) harr)⟩
 | panic ch=>exact⟨_,a₁,w₁,hq,.of_steps s0 (ArrivesIn.pass rfl (fun _ _=>.inl (by simp)) harr)⟩
 | outgrown=>exact⟨_,a₁,w₁,hq,.of_steps s0 (ArrivesIn.pass rfl (fun _ _=>.inl (by simp)) harr)⟩
theorem wpOf_block {id:Nat} {c:Code} (h:wpOf P f c (Exit.inBlock id Q) a w):wpOf P f (Code.block id c) Q a w:=by
 intro b k cs hro hb
 have s0:StepsIn (Machine.fenced P Fence.wide) P (lone (b.atR a (.code (.block id c) :: k)) cs w) (lone (b.atR a (.code c :: .inBlock id :: k)) cs w):=.one (fenced_wide P _) stepR_block
 obtain⟨e,a₁,w₁,hq,harr⟩:=h b (.inBlock id :: k) cs hro hb
 cases e with
 | normal=>exact⟨.normal,a₁,w₁,hq,s0.trans (StepsIn.trans harr (.one (fenced_wide P _) stepR_inBlock))⟩
 | exit id'=>
  by_cases hid:id'=id
  ·simp only[Exit.inBlock,hid,if_true] at hq
   exact⟨.normal,a₁,w₁,hq,s0.trans (harr.1 k (by simp[exitTo,hid]))⟩
  ·simp only[Exit.inBlock,hid,if_false] at hq
   have this:(id == id')=false:=by simp;exact fun h=>hid h.symm
   have hx:exitTo id' (.inBlock id :: k)=exitTo id' k:=by simp[exitTo,this]
   exact⟨.exit id',a₁,w₁,hq,fun k' hk=>s0.trans (harr.1 k' (by rw[hx];exact hk)),fun hr' hk=>let ⟨k₁,h1,h2⟩:=harr.2 hr' (by rw[hx];exact hk);⟨k₁,h1,s0.trans h2⟩⟩
 | goto l=>
  have hx:gotoIn l (.inBlock id :: k)=gotoIn l k:=by simp[gotoIn]
  exact⟨_,a₁,w₁,hq,fun k' hk=>s0.trans (harr.1 k' (by rw[hx];exact hk)),fun hr' hk=>let ⟨k₁,h1,h2⟩:=harr.2 hr' (by rw[hx];exact hk);⟨k₁,h1,s0.trans h2⟩⟩
 | ret=>exact⟨_,a₁,w₁,hq,.of_steps s0 harr⟩
 | panic ch=>exact⟨_,a₁,w₁,hq,.of_steps s0 harr⟩
 | outgrown=>exact⟨_,a₁,w₁,hq,.of_steps s0 harr⟩
theorem calls_of_wpOf {fn:Func} {c:Code} {args:Array Value} {R:Ending->World->Prop} (hf:P.funcs[f]? = some fn) (hb:fn.body=some c)
  (h:wpOf P f c (bodyPostM Fence.wide 0 P fn R) { tmps:=args ++ Array.replicate (fn.ntmps - args.size) undef,defers:=[] } w):Calls P f args w R:=by
 refine(callsIn_wide (n:=0)).1 ⟨trivial,fun cs hr=>?_⟩
 let b:Frame:={ (default:Frame) with fn:=f,kind:=.normal,roundOf:=none }
 have henter:Frame.enter P f args .normal=b.atR { tmps:=args ++ Array.replicate (fn.ntmps - args.size) undef,defers:=[] } [.code c]:=by
  simp[Frame.enter,Frame.atR,hf,hb,b]
 obtain⟨e,a',w',hq,harr⟩:=h b [] cs rfl rfl
 rw[<-henter] at harr
 cases e with
 | normal=>
  obtain⟨e',w'',fr',hR,hs,hfn,hl⟩:=leaves_stepsInM (F:=Fence.wide) a'.defers .returning w' { b.atR a' [] with mode:=.returning } cs rfl rfl rfl hf rfl trivial hr hq
  exact⟨e',w'',fr',hR,ComesIn.of_steps (StepsIn.trans harr (.one (fenced_wide P _) (stepR_end rfl))) hs,hfn,hl⟩
 | ret=>
  obtain⟨todo,hs₀⟩:=harr.1 rfl
  obtain⟨e',w'',fr',hR,hs,hfn,hl⟩:=leaves_stepsInM (F:=Fence.wide) a'.defers .returning w' { b.atR a' todo with mode:=.returning } cs rfl rfl rfl hf rfl trivial hr hq
  exact⟨e',w'',fr',hR,ComesIn.of_steps hs₀ hs,hfn,hl⟩
 | panic chain=>
  obtain⟨todo,hs₀⟩:=harr
  obtain⟨e',w'',fr',hR,hs,hfn,hl⟩:=leaves_stepsInM (F:=Fence.wide) a'.defers (.panicking chain) w' { b.atR a' todo with mode:=.panicking chain } cs rfl rfl rfl hf rfl trivial hr hq
  exact⟨e',w'',fr',hR,ComesIn.of_steps hs₀ hs,hfn,hl⟩
 | exit id=>exact hq.elim
 | goto l=>exact hq.elim
 | outgrown=>exact⟨.outgrown,w',b,hq,harr.resolve_left (by simp[b]),rfl,trivial⟩
theorem wpOf_range {g:Operand} {ps:Array Tmp} {assign body:Code} {l:Nat} {mark:List Deferred} {w₁ w₁' w₂ : World} {d:Deferred} {gf:FuncId} {args:Array Value}
  (he:(Instr.enterLoop f a.tmps ps assign body none).run P w = .ok (l,mark) w₁) (hres:(resolve a.eval (rangeCall g l) 0).run P w₁ = .ok d w₁') (hinv:(invoke d.target d.args).run P w₁' = .ok (.enter gf args) w₂)
  (hcall:CallsIn Fence.wide 0 P gf args w₂ (rangePost Fence.wide 0 P l Q { a with defers:=mark ++ a.defers })):wpOf P f (Code.rangeFunc g ps assign body) Q a w:=by
 intro b k cs hro hb
 subst hb
 rw[<-hro] at he
 have henter:=stepR_rangeFunc (P:=P) (b:=b) (a:=a) (k:=k) (cs:=cs) (w:=w) he hres hinv
 have s0:=StepsIn.one (fenced_wide P (lone (b.atR a (.code (.rangeFunc g ps assign body) :: k)) cs w)) henter
 obtain⟨e,w₃,fr,hR,hsteps,_,hleave⟩:=hcall.2 (b.atR { a with defers:=mark ++ a.defers } (.inRangeFunc l :: k) :: cs) (room_wide _)
 cases e with
 | outgrown=>
  obtain⟨a₀,w₀,hq⟩:=hR
  exact⟨.outgrown,a₀,w₀,hq,.inr (Outgrown.of_steps (.one henter) hsteps)⟩
 | returned v=>
  obtain⟨jump,w₄,hend,hj⟩:=hR
  have sback:StepsIn (Machine.fenced P Fence.wide) P (lone (b.atR a (.code (.rangeFunc g ps assign body) :: k)) cs w) (lone (b.atR { a with defers:=mark ++ a.defers } ((jump.map Item.code).toList ++ k)) cs w₄):=by
   refine s0.trans (StepsIn.trans hsteps (.head (fenced_wide P _) ?_ (.one (fenced_wide P _) (stepR_endRangeFunc hend))))
   rw[<-finish_atR_inRangeFunc l v];exact step_leave_returned hleave
  cases jump with
  | none=>exact⟨.normal,_,w₄,hj,sback⟩
  | some c=>
   obtain⟨e',a'',w₅,hq,harr⟩:=hj b k cs hro trivial (room_wide _)
   exact⟨e',a'',w₅,hq,.of_steps sback harr⟩
 | panicked chain=>
  refine⟨.panic chain,_,w₃,hR,.inRangeFunc l :: k,s0.trans (StepsIn.trans hsteps (.one (fenced_wide P _) ?_))⟩
  rw[<-Frame.raise_atR];exact step_leave_panicked hleave
end
theorem range_ok {P:Program} {f:FuncId} {g:Operand} {ps:Array Tmp} {assign body:Code} {Q:Exit->Act->World->Prop} {a:Act} {w:World}
  {gf:Nat} {lb:Array Value} (hg:a.eval g = .func (.func gf) #[] lb) (eg:∀args w,(callFunc gf args).run P w = .ok (.enter gf args) w) (hps:ps.size=1) (hfn:∃fn,P.funcs[f]? = some fn)
  {N:Nat} {enc:Nat->Value} (J:Nat->World->Prop) (JA:Nat->Act->World->Prop) (Jr:World->Prop) (Jp:List PanicEntry->World->Prop)
  (hJ:∀k W W',J k W->Fr (pair w.heap.size) W W'->J k W') (hJA:∀k a W W',JA k a W->Fr (pair w.heap.size) W W'->JA k a W') (hJr:∀W W',Jr W->Fr (pair w.heap.size) W W'->Jr W')
  (hseq:Iter 0 P gf lb enc N (w.heap.size+1) J) (h0:∀o1 o2,J 0 ((w.alloc o1).alloc o2))
  (hassign:∀(l k:Nat) (W:World) (K:Act->World->Prop),J k W->k<N->(∀a' W',JA k a' W'->W'.heap[w.heap.size]? = W.heap[w.heap.size]?->W'.heap[w.heap.size+1]? = W.heap[w.heap.size+1]?->K a' W')->
   assign.wpIn (Fence.wide.inRound l) 0 P (Exit.then K (fun _ _ _=>False)) { tmps:=(ps.zip #[enc k]).foldl (fun t (p,v)=>t.setIfInBounds p v) a.tmps,defers:=[] } W)
  (hbody:∀(l k:Nat) (a':Act) (W:World),JA k a' W->k<N->body.wpIn (Fence.wide.inRound l) 0 P (bodyEnds w.heap.size (J (k+1)) Jr Jp W) a' W)
  (hdone:∀(W:World),J N W->W.heap[w.heap.size]? = some (.deferred (some []))->Q .normal { a with defers:={ target:=.collected w.heap.size,args:=#[] } :: a.defers } W)
  (hret:∀(W:World),Jr W->W.heap[w.heap.size]? = some (.deferred (some []))->Code.ret.wpIn Fence.wide 0 P Q { a with defers:={ target:=.collected w.heap.size,args:=#[] } :: a.defers } W)
  (hpan:∀(ch:List PanicEntry) (W:World),Jp ch W->W.heap[w.heap.size]? = some (.deferred (some []))->Q (.panic ch) { a with defers:={ target:=.collected w.heap.size,args:=#[] } :: a.defers } W) :
  wpOf P f (Code.rangeFunc g ps assign body) Q a w:=by
 obtain⟨rec,hrec⟩:∃rec:LoopState->Option Code->Loop,rec=fun st pe=>{ state:=st,pending:=pe,fn:=f,tmps:=a.tmps,params:=ps,assign,body,defers:=w.heap.size }:=⟨_,rfl⟩
 obtain⟨W1,hW1⟩:∃W1,(w.alloc (.deferred (some []))).alloc (.loop (rec .ready none))=W1:=⟨_,rfl⟩
 have hL1:W1.heap[w.heap.size+1]? = some (.loop (rec .ready none)):=by
  rw[<-hW1];have:=World.alloc_heap_new (w.alloc (.deferred (some []))) (.loop (rec .ready none));rwa [World.size_alloc] at this
 have hK1:W1.heap[w.heap.size]? = some (.deferred (some [])):=by
  rw[<-hW1];exact(Below.heap_alloc _ _ _ (by simp)).trans (World.alloc_heap_new w _)
 have put:∀(W:World) (o:Obj),Fr (pair w.heap.size) W (W.putObj (w.heap.size+1) o):=fun W o=>(Fr.refl _ W).putObj (.inl (.inr rfl)) o
 refine wpOf_range (l:=w.heap.size+1) (mark:=[{ target:=.collected w.heap.size,args:=#[] }]) (w₁:=W1) (w₁':=W1) (w₂:=W1) (d:={ target:=.fn (.func gf) lb,args:=#[.func (.yield (w.heap.size+1)) #[] #[]] })
  (gf:=gf) (args:=#[.func (.yield (w.heap.size+1)) #[] #[]] ++ lb) ?_ ?_ ?_ ?_
 ·rw[<-hW1,hrec];exact run_enterLoop_outer _ _ _ _ _
 ·simp only[resolve,hg]
  simp[go_sem]
 ·simp[invoke,go_sem,eg]
 ·refine(hseq
   (fun k W=>J k W/\W.heap[w.heap.size+1]? = some (.loop (rec .ready none))/\W.heap[w.heap.size]? = some (.deferred (some [])))
   (fun W=>Jr W/\W.heap[w.heap.size+1]? = some (.loop (rec .done (some .ret)))/\W.heap[w.heap.size]? = some (.deferred (some [])))
   (fun ch W=>Jp ch W/\W.heap[w.heap.size]? = some (.deferred (some [])))
   (fun k W h=>h.1) (fun k W n h=>⟨hJ k W _ h.1 ((Fr.refl _ W).drewN n),h.2⟩) ?_ W1 ⟨by rw[<-hW1];exact h0 _ _,hL1,hK1⟩).mono ?_
  ·rintro k W hk ⟨hj,hl,hd⟩
   have hlt:w.heap.size+1<W.heap.size:=(Array.getElem?_eq_some_iff.1 hl).1
   have hy:=run_yield (P:=P) (args:=#[enc k]) hl (by rw[hrec];simp[hps])
   rw[hrec] at hy
   refine⟨f,_,assign,body,hy,round_of_wp trivial hfn (hassign _ k W _ hj hk ?_)⟩
   intro a' W2 hA e1 e2
   rw[hl] at e2;rw[hd] at e1
   refine⟨_,run_beginRound e2 (by rw[hrec]),?_⟩
   have hlt2:w.heap.size+1<W2.heap.size:=(Array.getElem?_eq_some_iff.1 e2).1
   have hl3:(W2.putObj (w.heap.size+1) (.loop { rec .ready none with state:=.busy })).heap[w.heap.size+1]? = some (.loop { rec .ready none with state:=.busy }):=World.putObj_heap_same hlt2
   have hd3:(W2.putObj (w.heap.size+1) (.loop { rec .ready none with state:=.busy })).heap[w.heap.size]? = some (.deferred (some [])):=(World.putObj_heap_other (by omega)).trans e1
   refine wpIn_mono (hbody _ k a' _ (hJA k a' W2 _ hA (put W2 _)) hk) ?_
   have fin:∀(jump:Option Code) (W3:World),W3.heap[w.heap.size+1]? = some (.loop { rec .ready none with state:=.busy })->
     (Instr.endRound (w.heap.size+1) jump).run P W3 = .ok (.bool jump.isNone) (W3.putObj (w.heap.size+1) (.loop (rec (if jump.isNone then .ready else .done) jump)))/\
     (W3.putObj (w.heap.size+1) (.loop (rec (if jump.isNone then .ready else .done) jump))).heap[w.heap.size+1]? = some (.loop (rec (if jump.isNone then .ready else .done) jump)):=fun jump W3 h3=>by
    have:=run_endRound (P:=P) jump h3
    rw[hrec] at this ⊢
    exact⟨this,World.putObj_heap_same (Array.getElem?_eq_some_iff.1 h3).1⟩
   rintro e a3 W3 hp
   cases e with
   | normal=>
    obtain⟨⟨k1,k2⟩,hj3⟩:=hp
    obtain⟨hr,hl4⟩:=fin none W3 (k2.trans hl3)
    exact⟨_,_,hr,.inl ⟨rfl,hJ _ _ _ hj3 (put W3 _),hl4,(World.putObj_heap_other (by omega)).trans (k1.trans hd3)⟩⟩
   | ret=>
    obtain⟨⟨k1,k2⟩,hj3⟩:=hp
    obtain⟨hr,hl4⟩:=fin (some .ret) W3 (k2.trans hl3)
    exact⟨_,_,hr,.inr (.inl ⟨rfl,hJr _ _ hj3 (put W3 _),hl4,(World.putObj_heap_other (by omega)).trans (k1.trans hd3)⟩)⟩
   | panic ch=>
    obtain⟨d0,k1,hj3⟩:=hp
    exact⟨d0,.inr (.inr ⟨ch,rfl,hj3,k1.trans hd3⟩)⟩
   | exit id=>exact hp.elim
   | goto t=>exact hp.elim
   | outgrown=>exact hp.elim
  ·rintro e W2 (⟨v,rfl,hj,hl,hd⟩ | ⟨v,rfl,hj,hl,hd⟩ | ⟨ch,rfl,hj,hd⟩)
   ·exact⟨none,_,by have:=run_endLoop (P:=P) hl (by rw[hrec];simp);rw[hrec] at this;exact this,hdone _ (hJ _ _ _ hj (put W2 _)) ((World.putObj_heap_other (by omega)).trans hd)⟩
   ·exact⟨some .ret,_,by have:=run_endLoop (P:=P) hl (by rw[hrec];simp);rw[hrec] at this;exact this,hret _ (hJr _ _ hj (put W2 _)) ((World.putObj_heap_other (by omega)).trans hd)⟩
   ·exact hpan ch W2 hj hd
end

section
def Enters (g:Nat):Prop:=∀(args:Array Value) (w:World),(callFunc g args).run Tryz.prog w = .ok (.enter g args) w
abbrev boxed (w:World) (word:Int):World:=(w.alloc (.cells #[.int .i64 word] 3)).alloc (.cells #[.int .i64 0] 3)
section
variable {word:Int} {g:Nat} {first cap:Array Value} {w:World} {F:Nat->Prop} {R:World->Prop}
end
structure At (w0:World) (b:Nat) (F:Nat->Prop) (G:Nat->Option Obj) (w:World) (A:Ab):Prop where
 ex:∃L,DevL w b L A/\∀k,foot b L k->F k\/w0.heap.size<=k
 fr:Fr (fun k=>F k\/(G k).isSome=true) w0 w
 gs:∀k o,G k=some o->w.heap[k]? = some o/\¬F k/\k<w0.heap.size
section
variable {w0 w:World} {b:Nat} {F:Nat->Prop} {G:Nat->Option Obj} {A:Ab}
theorem At.cell (h:At w0 b F G w A) {p:Addr} {v:Value} (hv:w0.cell? p=some v) (hF:¬F p.block) (hG:G p.block=none):w.cell? p=some v:=
 h.fr.cell' hv (fun e=>e.elim hF (by rw[hG];simp))
theorem At.hf (h:At w0 b F G w A) {L:Lay} (hL:∀k,foot b L k->F k\/w0.heap.size<=k) {k:Nat} {o:Obj} (hk:G k=some o):¬foot b L k:=fun hf=>by
 obtain⟨_,n,l⟩:=h.gs k o hk
 rcases hL k hf with e | e
 ·exact n e
 ·omega
theorem At.more (h:At w0 b F G w A) {w':World} (hf:Fr (fun _=>False) w w'):At w0 b F G w' A:=by
 obtain⟨L,d,hL⟩:=h.ex
 exact⟨⟨L,d.keptF hf,hL⟩,h.fr.trans' hf (fun k hk=>hk.elim),fun k o e=>by
  obtain⟨g1,g2,g3⟩:=h.gs k o e
  exact⟨(hf.block k (Nat.lt_of_lt_of_le g3 h.fr.size) id).trans g1,g2,g3⟩⟩
theorem At.alloc (h:At w0 b F G w A) (o:Obj):At w0 b F G (w.alloc o) A:=h.more ((Fr.refl _ w).alloc o)
end
section
variable {V:World} {b:Nat} {L:Lay} {A A':Ab} {G G':Nat->Option Obj} {g:Nat} {first cap:Array Value} {word:Int}
end
theorem wrap_small (x:Int) (h0:0<=x) (h:x<4294967296):IntKind.i64.wrap x=x/\IntKind.u64.wrap x=x:=by
 rw[IntKind.wrap_i64,IntKind.wrap_u64];omega
end
end Go.Proofs.YtbiopjmpdhcjgaaGreatDoor
