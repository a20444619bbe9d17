/- Joined: RdC. -/
import Derived.Maps.OwnIn
import Derived.Maps.AppendAt
import Derived.Maps.OwnSet
import Derived.Maps.Views
import Derived.Laws.BitsAllLaws
import Derived.Test.YtbiopjmpdhcjgaaGreatDoorZ03
import Derived.Test.YtbiopjmpdhcjgaaGreatDoorZ07
namespace Go.Proofs.YtbiopjmpdhcjgaaGreatDoor
open Go.RowKit
set_option maxHeartbeats 4000000

section
theorem come_eq {at_:Nat} {f:Nat->Int} {xs:List (Int×Int)} {k:Nat} {x:Int×Int} (hent:∀i,i<2 * xs.length->f (at_+8+i)=ent xs i) (hx:xs.reverse[k]? = some x) (h0:0<=x.1) (h1:x.1<4294967296) :
  come at_ xs.length f k = .agg #[.int .i64 x.1,u64 x.2]:=by
 have hk:k<xs.length:=by simpa using (List.getElem?_eq_some_iff.1 hx).1
 have hx':xs[xs.length - 1 - k]? = some x:=by rw[<-hx,List.getElem?_reverse hk]
 unfold come
 rw[show at_+8+2 * (xs.length - 1 - k)+1=at_+8+(2 * (xs.length - 1 - k)+1) by omega,hent _ (by omega),hent _ (by omega),ent_word hx',ent_val hx']
 have:wrap64 x.1=x.1:=by unfold wrap64;omega
 rw[this]
theorem make_cap (n:Nat) (hn:n<=65536) (w:World):(Instr.makeSlice 45 (.int .i64 0) (.int .i64 (n:Int))).run Tryz.prog w = .ok (.slice (some ⟨w.heap.size,0,none⟩) 0 n) (w.alloc (.cells (zeroInts n) 3)):=by
 have hi:=info3
 obtain⟨i0,hi0⟩:∃i,Tryz.prog.info? 3=some i:=by
  cases h:Tryz.prog.info? 3 with
  | none=>rw[h] at hi;simp at hi
  | some i=>exact⟨i,rfl⟩
 rw[hi0] at hi
 simp only[Option.map_some,Option.some.injEq,Prod.mk.injEq] at hi
 have:=run_make (P:=Tryz.prog) w 45 3 i0 _ Tryz.underlying45 hi0 hi.1 .i64 .i64 0 (n:Int) (by omega) (by omega) (by rw[hi.2.2];omega) (by omega)
 rw[this,hi.2.1,Int.toNat_natCast,Nat.mul_one]
 rfl
theorem make_set (n:Int) (w:World):(Instr.makeMap 208 (some (.int .i64 n))).run Tryz.prog w = .ok (.map (some w.heap.size)) (w.alloc (.map #[] 0)):=by
 simp[Instr.makeMap,run_underlying Tryz.underlying208,asInt,asIntOf,go_sem]
section
variable {w:World} {b:Nat} {L:Lay} {N:Nat} {free:Prop} {A:Ab} {s:Int} {f:Nat->Int} {lg at_ ws:Nat}
theorem s_store (d:DevL w b L A) {g:Nat->Int} (h:Mid N free A s f g []) (hs:s<4294967296) (i:Int) (j:Nat) (hi:i=j) (hj:j<N * 8) (v:Int) :
  Calls Tryz.prog 166 #[ptr b,.int .i64 i,u64 v] w fun e w'=>(e = .returned (.tuple #[])/\∃A',DevL w' b L A'/\Mid N free A' (s+1) f (upd g j v) []/\Fr (foot b L) w w')\/
   (e = .panicked lost/\∃A',DevL w' b L A'/\(¬free/\Torn N A' s f g)/\Fr (foot b L) w w'):=by
 subst hi
 have hj':j<A.n * 8:=by rw[h.n];exact hj
 by_cases h0:A.fuse=0
 ·refine(store_lost d (.inr h0) j v (by omega) (by omega)).mono ?_
  rintro e w' ⟨rfl,d',f'⟩
  exact .inr ⟨rfl,_,d',⟨fun hf=>by have:=h.fz hf;omega,h.torn⟩,f'⟩
 ·refine(store_ok d (h.live h0 hs) j hj' v).mono ?_
  rintro e w' ⟨rfl,d',f'⟩
  exact .inl ⟨rfl,_,d',h.tick.store j v,f'⟩
theorem five (w:World) (O1 O2 O3 O4 O5:Obj):∀W,((((w.alloc O1).alloc O2).alloc O3).alloc O4).alloc O5=W->W.heap.size=w.heap.size+5/\W.heap[w.heap.size]? = some O1/\W.heap[w.heap.size+1]? = some O2/\W.heap[w.heap.size+2]? = some O3/\W.heap[w.heap.size+3]? = some O4/\W.heap[w.heap.size+4]? = some O5:=by
 rintro W rfl
 obtain⟨a1,a2,a3⟩:=three w O1 O2 O3
 have s3:(((w.alloc O1).alloc O2).alloc O3).heap.size=w.heap.size+3:=by simp
 obtain⟨a4,a5⟩:=two (((w.alloc O1).alloc O2).alloc O3) O4 O5
 rw[s3] at a4 a5
 have low:∀k,k<w.heap.size+3->(((((w.alloc O1).alloc O2).alloc O3).alloc O4).alloc O5).heap[k]? = (((w.alloc O1).alloc O2).alloc O3).heap[k]?:=fun k hk=>by
  rw[Below.heap_alloc _ _ _ (by simp;omega),Below.heap_alloc _ _ _ (by simp;omega)]
 exact⟨by simp,(low _ (by omega)).trans a1,(low _ (by omega)).trans a2,(low _ (by omega)).trans a3,a4,a5⟩
structure HomeJ (w:World) (b:Nat) (L:Lay) (N:Nat) (free:Prop) (s:Int) (f:Nat->Int) (ys:List (Int×Int)) (lg n k:Nat) (W:World):Prop where
 dev:∃A1,DevL W b L A1/\Mid N free A1 (s+k) f (homed (ys.take k) f) []
 fr:Fr (foot b L) w W
 size:w.heap.size+9<=W.heap.size
 bl:W.cell? ⟨w.heap.size,0,none⟩=some (ptr lg)
 bd:W.cell? ⟨w.heap.size+2,0,none⟩=some (.map (some (w.heap.size+1)))
 bl2:W.cell? ⟨w.heap.size+5,0,none⟩=some (ptr lg)
 bn:W.cell? ⟨w.heap.size+6,0,none⟩=some (.int .i64 n)
 zl:W.frozen? ⟨w.heap.size+4,0,none⟩=false
 rows:∃(acc:List Int) (lv:Value),W.ownsMap Tryz.prog 3 (unitElem (H:=Unit)) (w.heap.size+1) acc.length (Maps.setOf (.agg []) (acc.map (Lit.int .i64)))/\W.cell? ⟨w.heap.size+4,0,none⟩=some lv/\
  W.ownsRow (w.heap.size+3) 3 1 lv acc.length (acc.map fun v=>.int .i64 (v / 8))/\(∀r,lv.ownBlock=some r->r=w.heap.size+3\/w.heap.size+9<=r)/\(∀v,v∈acc ↔ ∃y∈ys.take k,y.1=v)/\acc.length<=k/\(∃g cap,lv = .slice (some ⟨g,0,none⟩) acc.length cap)
theorem HomeJ.kept {ys:List (Int×Int)} {n k:Nat} {W W':World} (h:HomeJ w b L N free s f ys lg n k W) (d0:DevL w b L A) {F:Nat->Prop} (hf:Fr F W W') (hF:∀j,F j->w.heap.size<=j/\j≠w.heap.size/\j≠w.heap.size+1/\j≠w.heap.size+2/\j≠w.heap.size+3/\j≠w.heap.size+4/\j≠w.heap.size+5/\j≠w.heap.size+6)
  (hr:∀j,F j->j<w.heap.size+9\/W.heap.size<=j):HomeJ w b L N free s f ys lg n k W':=by
 have nf:∀j,(j<=w.heap.size+6)->¬F j:=fun j hj e=>by have:=hF j e;omega
 refine⟨?_,h.fr.trans' hf (fun j hj=>.inr (hF j hj).1),Nat.le_trans h.size hf.size,hf.cell' h.bl (nf _ (by simp)),hf.cell' h.bd (nf _ (by simp)),hf.cell' h.bl2 (nf _ (by simp)),hf.cell' h.bn (nf _ (by simp)),?_,?_⟩
 ·obtain⟨A1,d1,m1⟩:=h.dev
  exact⟨A1,d1.kept hf (fun j hj e=>by have:=hF j e;have:=d0.lt j hj;omega),m1⟩
 ·rw[hf.frozen (p:=⟨w.heap.size+4,0,none⟩) (by have:=h.size;simp;omega) (nf _ (by simp))];exact h.zl
 ·obtain⟨acc,lv,q1,q2,q3,q4,q5,q6,q7⟩:=h.rows
  refine⟨acc,lv,?_,hf.cell' q2 (nf _ (by simp)),owns_same q3 (fun r hr'=>hf.block r (q3.lt r hr').2 (fun e=>?_)),q4,q5,q6,q7⟩
  ·obtain⟨es,ck,e1,e2⟩:=q1
   exact⟨es,ck,(hf.block _ (Array.getElem?_eq_some_iff.1 e1).1 (nf _ (by simp))).trans e1,e2⟩
  ·have h1:=hF r e
   have h2:=hr r e
   have h3:=(q3.lt r hr').2
   rcases q4 r hr' with h4 | h4 <;> omega
theorem take_next {ys:List (Int×Int)} {k:Nat} {x:Int×Int} (h:ys[k]? = some x):ys.take (k+1)=ys.take k ++ [x]:=by
 rw[List.take_add_one,h];rfl
theorem HomeJ.again {ys:List (Int×Int)} {n k:Nat} {W:World} {x:Int×Int} (h:HomeJ w b L N free s f ys lg n k W) (hx:ys[k]? = some x) (hs:∃y∈ys.take k,y.1=x.1):HomeJ w b L N free s f ys lg n (k+1) W:=by
 refine { h with dev:=?_,rows:=?_ }
 ·obtain⟨A1,d1,m1⟩:=h.dev
  exact⟨A1,d1,by rw[take_next hx,homed_seen hs];exact m1.more (by omega)⟩
 ·obtain⟨acc,lv,q1,q2,q3,q4,q5,q6,q7⟩:=h.rows
  refine⟨acc,lv,q1,q2,q3,q4,fun v=>?_,by omega,q7⟩
  rw[q5 v,take_next hx]
  constructor
  ·rintro⟨y,hy,e⟩;exact⟨y,List.mem_append_left _ hy,e⟩
  ·rintro⟨y,hy,e⟩
   rcases List.mem_append.1 hy with hy | hy
   ·exact⟨y,hy,e⟩
   ·obtain rfl:y=x:=by simpa using hy
    obtain⟨y',hy',e'⟩:=hs
    exact⟨y',hy',e'.trans e⟩
theorem shut_dm {S2 w5:World} {P:Ab->Prop} (d0:DevL w b L A) (o0:Fr (foot b L) w S2) (k:DM S2 b L w5 P) (D:Nat) (h1:w.heap.size<=D) (h2:D<S2.heap.size) (o:Obj):DM w b L (w5.putObj D o) P:=by
 obtain⟨L',A',d',p,f',s'⟩:=k
 have fp:Fr (fun j=>j=D) w5 (w5.putObj D o):=(Fr.refl (fun j=>j=D) w5).putObj (.inl rfl) _
 refine⟨L',A',d'.kept fp (fun j hj e=>?_),p,(o0.trans' f' (fun _=>.inl)).trans' fp (fun j e=>.inr (by omega)),fun j hj=>(s' j hj).imp id (fun x=>Nat.le_trans o0.size x)⟩
 rcases s' j hj with h | h
 ·have:=d0.lt j h;omega
 ·omega
attribute [local go_sem] Oper.semAt_some
set_option maxRecDepth 100000 in
theorem bring_dev (d:DevL w b L A) (hl:LogAt w lg b at_ ws) (hlg:¬foot b L lg) (h:Calm N free A s f) (xs:List (Int×Int)) (hx0:xs ≠ []) (hent:∀i,i<2 * xs.length->f (at_+8+i)=ent xs i)
  (hxs:∀x∈xs,outside N at_ x.1 (at_+8+2 * xs.length)) (hws:at_+8+2 * xs.length<=N * 8) (hN:N<=8192) (hs:s+2 * xs.length+4<4294967296) :
  Calls Tryz.prog 132 #[ptr lg,.int .i64 xs.length] w (Ends w b L (fun A'=>Calm N free A' (s+2 * xs.length+4) (upd (homed xs.reverse f) at_ 0))
   (fun A'=>¬free/\∃f' g,((f'=f/\∀j,g j=f j\/g j=homed xs.reverse f j)\/(f'=homed xs.reverse f/\(g=f'\/g=upd f' at_ 0)))/\Torn N A' (s+2 * xs.length+4) f' g)):=by
 have hwd:Fence.wide.depth=none:=rfl
 have hwf:∀f,Fence.wide.fn f:=fun _=>trivial
 have mm:=make_set xs.length
 have mc:=make_cap xs.length (by omega)
 have HD:=Hd d;have HL:=Hd hl;have HG:=Hd hlg;have HC:=Hd h;have HE:=Hd hent;have HXS:=Hd hxs;have HX0:=Hd hx0
 clear d hl hlg h hent hxs hx0
 generalize hlen:xs.length=n at *
 have HLEN:=Hd hlen
 clear hlen
 refine calls_of_wpOf Tryz.func132 rfl ?_
 simp only[Tryz.ntmps132,List.size_toArray,List.length_cons,List.length_nil,Nat.reduceAdd,Nat.reduceSub,Array.replicate_succ,Array.replicate_zero,List.push_toArray,List.append_toArray,List.nil_append,List.cons_append]
 refine wpOf_seq (wpOf_of_wp ?_)
 go_wp2
 show wpOf _ _ _ _ _ _
 refine wpOf_seq (wpOf_of_wp ?_)
 go_wp2
 show wpOf _ _ _ _ _ _
 refine wpOf_seq (wpOf_of_wp ?_)
 go_wp2
 show wpOf _ _ _ _ _ _
 obtain⟨W1,hW1⟩:∃W1,((((w.alloc (.cells #[ptr lg] 70)).alloc (.map #[] 0)).alloc (.cells #[.map (some (w.heap.size+1))] 208)).alloc (.cells (zeroInts n) 3)).alloc (.cells #[.slice (some ⟨w.heap.size+1+1+1,0,none⟩) 0 n] 45)=W1:=⟨_,rfl⟩
 obtain⟨z1,a0,a1,a2,a3,a4⟩:=five w _ _ _ _ _ W1 hW1
 have f1:Fr (fun _=>False) w W1:=hW1▸(((((Fr.refl _ w).alloc _).alloc _).alloc _).alloc _).alloc _
 rw[hW1]
 have x0:W1.cell? ⟨w.heap.size,0,none⟩=some (ptr lg):=cell_of_row _ _ _ _ _ _ a0
 have HA:=Hd (ai z1 (ai a0 (ai a1 (ai a2 (ai a3 a4)))));have HF1:=Hd f1
 clear hW1 z1 a0 a1 a2 a3 a4 f1 mm mc
 refine wpOf_seq (wpOf_seq (wpOf_of_wp ?_))
 go_wp2_with (go_at_call 170;refine(fromEnd_ok lg n _).mono ?_;rintro e w' ⟨rfl,rfl⟩)
 show wpOf _ _ _ _ _ _
 obtain⟨W2,hW2⟩:∃W2,(W1.alloc (.cells #[ptr lg] 70)).alloc (.cells #[.int .i64 n] 3)=W2:=⟨_,rfl⟩
 obtain⟨a5,a6⟩:=two W1 (.cells #[ptr lg] 70) (.cells #[.int .i64 n] 3)
 have f2:Fr (fun _=>False) W1 W2:=hW2▸((Fr.refl _ W1).alloc _).alloc _
 have z2:W2.heap.size=W1.heap.size+2:=by rw[<-hW2];simp
 rw[hW2] at a5 a6 ⊢
 obtain⟨z1,a0,a1,a2,a3,a4⟩:=uh HA
 rw[z1] at a5 a6 z2 ⊢
 have x5:W2.cell? ⟨w.heap.size+5,0,none⟩=some (ptr lg):=cell_of_row _ _ _ _ _ _ a5
 have x6:W2.cell? ⟨w.heap.size+6,0,none⟩=some (.int .i64 n):=cell_of_row _ _ _ _ _ _ a6
 have j0:∀o1 o2,HomeJ w b L N free s f xs.reverse lg n 0 ((W2.alloc o1).alloc o2):=by
  intro o1 o2
  have f3:Fr (fun _=>False) W2 ((W2.alloc o1).alloc o2):=((Fr.refl _ W2).alloc _).alloc _
  have f4:=(uh HF1).trans (f2.trans f3)
  have f5:=f2.trans f3
  have bk:∀k,k<w.heap.size+5->((W2.alloc o1).alloc o2).heap[k]? = W1.heap[k]?:=fun k hk=>f5.block k (by omega) (fun h=>h)
  refine⟨⟨A,(uh HD).keptF f4,by simpa [homed_nil] using uh HC⟩,f4.mono (fun _ h=>h.elim),by simp;omega,cell_of_row _ _ _ _ _ _ ((bk _ (by omega)).trans a0),cell_of_row _ _ _ _ _ _ ((bk _ (by omega)).trans a2),f3.cell' x5 (fun h=>h),f3.cell' x6 (fun h=>h),frozen_of_row _ _ _ _ _ ((bk _ (by omega)).trans a4),?_⟩
  refine⟨[],_,?_,cell_of_row _ _ _ _ _ _ ((bk _ (by omega)).trans a4),?_,?_,by simp,Nat.le_refl _,_,_,rfl⟩
  ·have hm:=World.ownsMap_made w Tryz.prog 3 (unitElem (H:=Unit))
   obtain⟨es,ck,e1,e2⟩:=hm
   have e3:(w.alloc (.map #[] 0)).heap[w.heap.size]? = some (.map #[] 0):=heap_alloc_new w _
   rw[e3] at e1
   cases e1
   exact⟨#[],0,(bk _ (by omega)).trans a1,e2⟩
  ·exact⟨by simp,.inr ⟨w.heap.size+3,n,zeroInts n,rfl,Nat.le_refl _,(bk _ (by omega)).trans a3,Nat.zero_le _,by unfold maxLen;omega,by rw[zeroInts,size_madeCells,Nat.mul_one],by simp⟩⟩
  ·intro r hr
   simp[Value.ownBlock] at hr
   exact .inl hr.symm
 have HJ0:=Hd j0;have HZ:=Hd z2
 have le8:=(uh HD).n8
 clear z2 a0 a1 a2 a3 a4 a5 a6 x0 x5 x6 f2 z1 j0 HA HF1 hW2
 refine wpOf_block (range_ok (gf:=197) (lb:=#[.pointer (some ⟨w.heap.size+5+1,0,none⟩),.pointer (some ⟨w.heap.size+5,0,none⟩)]) (N:=n) (enc:=come at_ n f) rfl (fun _ _=>by kernel_rfl) rfl ⟨_,Tryz.func132⟩
  (fun k W=>HomeJ w b L N free s f xs.reverse lg n k W)
  (fun k a' W=>HomeJ w b L N free s f xs.reverse lg n k W/\∃x bx,xs.reverse[k]? = some x/\w.heap.size+9<=bx/\bx<W.heap.size/\W.heap[bx]? = some (.cells #[.int .i64 x.1,u64 x.2] 161 (0,0))/\
   a' = { tmps:=#[ptr lg,.int .i64 n,.pointer (some ⟨w.heap.size,0,none⟩),undef,.pointer (some ⟨w.heap.size+1+1,0,none⟩),.pointer (some ⟨w.heap.size+1+1+1+1,0,none⟩),.pointer (some ⟨bx,0,none⟩),undef,undef,undef,undef,.int .i64 n,.map (some (w.heap.size+1)),.int .i64 n,.slice (some ⟨w.heap.size+1+1+1,0,none⟩) 0 n,ptr lg,.int .i64 n,.func (.func 197) #[] #[.pointer (some ⟨w.heap.size+5+1,0,none⟩),.pointer (some ⟨w.heap.size+5,0,none⟩)],.agg #[.int .i64 x.1,u64 x.2],undef,undef,undef,undef,undef,undef,undef,undef,undef,undef,undef,undef,undef,undef,undef,undef,undef,undef,undef,undef,undef,undef,undef,undef,undef,undef,undef,undef,undef,undef,undef,undef,undef,undef,undef,undef,undef,undef,undef,undef,undef,undef,undef,undef,undef,undef,undef,undef,undef,undef,undef],defers:=[] })
  (fun _=>False) (fun ch W=>ch=lost/\Fr (foot b L) w W/\∃A',DevL W b L A'/\¬free/\∃g,(∀j,g j=f j\/g j=homed xs.reverse f j)/\Torn N A' (s+2 * n+4) f g) ?hJ ?hJA (fun _ _ h _=>h) ?hseq ?h0 ?hassign ?hbody ?hdone (fun _ h _=>h.elim) ?hpan)
 case hJ=>
  intro k W W' h hf
  have z2:=uh HZ
  exact h.kept (uh HD) hf (fun j hj=>by unfold pair at hj;omega) (fun j hj=>by unfold pair at hj;omega)
 case hJA=>
  rintro k a W W' ⟨h,x,bx,e1,e2,e3,e4,rfl⟩ hf
  have z2:=uh HZ
  exact⟨h.kept (uh HD) hf (fun j hj=>by unfold pair at hj;omega) (fun j hj=>by unfold pair at hj;omega),x,bx,e1,e2,Nat.lt_of_lt_of_le e3 hf.size,(hf.block bx e3 (fun hj=>by unfold pair at hj;omega)).trans e4,rfl⟩
 case hseq=>
  refine iter_ok (lg:=lg) (b:=b) (at_:=at_) (ws:=ws) (w.heap.size+5) (w.heap.size+5+1) n _ f _ (by omega) ?_
  intro k W h
  obtain⟨A1,d1,m1⟩:=h.dev
  refine⟨h.bn,h.bl2,(uh HL).kept h.fr (uh HG),L,A1,d1,m1.dead,by rw[m1.n];exact hws,by rw[m1.n];exact hN,fun j hj1 hj2=>?_⟩
  rw[m1.now]
  exact homed_other (fun y hy e=>by
   have:=uh HXS y (List.mem_reverse.1 (List.mem_of_mem_take hy))
   rw[e] at this
   obtain⟨_,_,h3⟩:=this
   omega) f
 case h0=>exact uh HJ0
 case hassign=>
  rintro l k W K h hk hK
  obtain⟨x,hx⟩:∃x,xs.reverse[k]? = some x:=⟨_,List.getElem?_eq_getElem (by rw[List.length_reverse,uh HLEN];exact hk)⟩
  have hxm:=uh HXS x (List.mem_reverse.1 (List.mem_of_getElem? hx))
  have ce:come at_ n f k = .agg #[.int .i64 x.1,u64 x.2]:=by
   have:=come_eq (at_:=at_) (f:=f) (xs:=xs) (by rw[uh HLEN];exact uh HE) hx hxm.1 (by have:=hxm.2.1;omega)
   rwa [uh HLEN] at this
  rw[ce]
  have z2:=uh HZ
  have HH:=Hd h;have HHK:=Hd hK;have HHX:=Hd hx
  clear h hK hx ce HJ0 z2
  gi_wp2
  have h:=uh HH
  have z2:=uh HZ
  exact uh HHK _ _ ⟨h.kept (uh HD) (F:=fun _=>False) ((Fr.refl _ W).alloc _) (fun _ h=>h.elim) (fun _ h=>h.elim),x,W.heap.size,uh HHX,h.size,by simp,heap_alloc_new W _,rfl⟩
   (Below.heap_alloc W _ _ (by have:=h.size;omega)) (Below.heap_alloc W _ _ (by have:=h.size;omega))
 case hbody=>
  rintro l k a' W ⟨h,x,bx,hx,g1,g2,g3,rfl⟩ hk
  obtain⟨acc,lv,q1,q2,q3,q4,q5,q6,q7⟩:=h.rows
  have hxm:=uh HXS x (List.mem_reverse.1 (List.mem_of_getElem? hx))
  have c4:W.cell? ⟨w.heap.size+1+1,0,none⟩=some (.map (some (w.heap.size+1))):=h.bd
  have y0:W.cell? ⟨bx,0,none⟩=some (.int .i64 x.1):=cell_of_row _ _ _ _ _ _ g3
  have c4a:∀o,(W.alloc o).cell? ⟨w.heap.size+1+1,0,none⟩=some (.map (some (w.heap.size+1))):=fun o=>((Fr.refl (fun _=>False) W).alloc o).cell' c4 (fun h=>h)
  have y0a:∀o,(W.alloc o).cell? ⟨bx,0,none⟩=some (.int .i64 x.1):=fun o=>((Fr.refl (fun _=>False) W).alloc o).cell' y0 (fun h=>h)
  have zu:∀w,(zeroValue 119).run Tryz.prog w = .ok (.agg #[]) w:=fun w=>by kernel_rfl
  have HH:=Hd h;have HX:=Hd hx;have HXM:=Hd hxm;have HG3:=Hd g3;have HQ:=Hd (ai q1 (ai q2 (ai q3 (ai q4 (ai q5 (ai q6 q7))))))
  clear h hx hxm g3 HJ0 HC q2 q3 q4 q5 q6 q7
  obtain⟨hs1,hs2⟩:(x.1∈acc->Maps.has (Maps.setOf (H:=Unit) (.agg []) (acc.map (Lit.int .i64))) (Lit.int .i64 x.1)=true)/\(x.1 ∉ acc->Maps.has (Maps.setOf (H:=Unit) (.agg []) (acc.map (Lit.int .i64))) (Lit.int .i64 x.1)=false):=by
   rw[Maps.has_setOf _ _ _ (by intro y hy;obtain⟨v,_,rfl⟩:=List.mem_map.1 hy;trivial)]
   constructor
   ·intro hm;rw[List.any_eq_true];exact⟨_,List.mem_map.2 ⟨_,hm,rfl⟩,by simp[Lit.sameKey]⟩
   ·intro hm
    rw[List.any_eq_false]
    intro y hy
    obtain⟨v,hv,rfl⟩:=List.mem_map.1 hy
    simp[Lit.sameKey]
    rintro rfl;exact hm hv
  by_cases hseen:x.1∈acc
  ·have hB:=hs1 hseen
   have HS:=Hd hseen
   clear hs1 hs2 hseen
   gi_wp2_with (gi_at_lookup;refine wpListIn_lookup_own_unit _ rfl _ _ 208 rfl 3 119 (Maps.int_keyed Tryz.underlying3) Tryz.underlying208 (zu _) (w.heap.size+1) acc.length (Maps.setOf (.agg []) (acc.map (Lit.int .i64))) rfl q1 _ (Lit.int .i64 x.1) rfl (Maps.keyOf_int_mk Tryz.underlying3 (WalkArith.wf_i64 (by have:=(uh HXM).1;have:=(uh HXM).2.1;omega))) ?_;rw[hB])
   have h:=uh HH
   have z2:=uh HZ
   obtain⟨_,_,_,_,q5,_⟩:=uh HQ
   exact⟨⟨Below.heap_alloc W _ _ (by have:=h.size;omega),Below.heap_alloc W _ _ (by have:=h.size;omega)⟩,(h.kept (uh HD) (F:=fun _=>False) ((Fr.refl _ W).alloc _) (fun _ h=>h.elim) (fun _ h=>h.elim)).again (uh HX) ((q5 _).1 (uh HS))⟩
  ·have hB:=hs2 hseen
   have HS:=Hd hseen
   clear hs1 hs2 hseen
   have hx0:=(uh HXM).1
   have hx1:=(uh HXM).2.1
   have al:acc.length<maxLen:=by obtain⟨_,_,_,_,_,q6,_⟩:=uh HQ;unfold maxLen;omega
   gi_wp2_with (first | (gi_at_lookup;refine wpListIn_lookup_own_unit _ rfl _ _ 208 rfl 3 119 (Maps.int_keyed Tryz.underlying3) Tryz.underlying208 (zu _) (w.heap.size+1) acc.length (Maps.setOf (.agg []) (acc.map (Lit.int .i64))) rfl q1 _ (Lit.int .i64 x.1) rfl (Maps.keyOf_int_mk Tryz.underlying3 (WalkArith.wf_i64 (by omega))) ?_;rw[hB]) | (gi_at_mapUpdate;refine wpListIn_mapUpdate_own _ rfl _ _ _ 208 rfl 3 119 (Maps.int_keyed Tryz.underlying3) Tryz.underlying208 _ (w.heap.size+1) acc.length _ rfl (q1.alloc _) al _ _ _ rfl rfl (Maps.keyOf_int_mk Tryz.underlying3 (WalkArith.wf_i64 (by omega))) _ [] unitElem_mk ?_;intro w1 hown1 hgrow1))
   go_frame
   have h:=uh HH
   have z2:=uh HZ
   obtain⟨_,q2,q3,q4,q5,q6,q7⟩:=uh HQ
   obtain⟨A1,dW,mW⟩:=h.dev
   have fw:Fr (fun j=>j=w.heap.size+1) W w1:=((Fr.refl _ W).alloc _).grown hgrow1 (fun j e=>.inl (by cases e;rfl))
   have d1:DevL w1 b L A1:=dW.kept fw (fun j hj e=>by have:=(uh HD).lt j hj;omega)
   have fr1:Fr (foot b L) w w1:=h.fr.trans' fw (fun j e=>.inr (by omega))
   have c0:=((uh HL).kept fr1 (uh HG)).c0
   have b0:w1.cell? ⟨w.heap.size,0,none⟩=some (ptr lg):=fw.cell' h.bl (by simp)
   have g3':w1.heap[bx]? = _:=(fw.block bx g2 (by omega)).trans (uh HG3)
   have y0:w1.cell? ⟨bx,0,none⟩=some (.int .i64 x.1):=cell_of_row _ _ _ _ _ _ g3'
   have y1:w1.cell? ⟨bx,1,none⟩=some (u64 x.2):=cell_of_row _ _ _ _ _ _ g3'
   have r1:w1.ownsRow (w.heap.size+3) 3 1 lv acc.length (acc.map fun v=>.int .i64 (v / 8)):=owns_same q3 (fun r hr=>fw.block r (q3.lt r hr).2 (by have:=(q3.lt r hr).1;omega))
   have l1:w1.cell? ⟨w.heap.size+4,0,none⟩=some lv:=fw.cell' q2 (by simp)
   have e1:w1.heap[W2.heap.size]? = W.heap[W2.heap.size]?:=fw.block _ (by have:=h.size;omega) (by omega)
   have e2:w1.heap[W2.heap.size+1]? = W.heap[W2.heap.size+1]?:=fw.block _ (by have:=h.size;omega) (by omega)
   have HD1:=Hd d1;have HM1:=Hd mW;have HF:=Hd fr1;have HFW:=Hd fw;have HO1:=Hd hown1;have HR1:=Hd r1;have HL1:=Hd l1;have HE12:=Hd (ai e1 e2)
   clear h z2 q1 q2 q3 q4 q5 q6 q7 dW mW fw d1 fr1 g3' r1 l1 e1 e2 hown1 hgrow1 c4 c4a y0a zu hB
   refine region_tail 8 (by kernel_rfl) (by kernel_rfl) (by kernel_rfl) ?_
   simp only[List.take_succ_cons,List.take_zero,List.drop_succ_cons,List.drop_zero]
   repeat (gi_big_quiet_step (fail))
   refine wpQuietIn_nil ?_
   rintro _ ⟨nq,rfl⟩
   gi_wp2_with fail
   refine(CallsIn.inRound l (callsIn_wide.2 (s_store ((uh HD1).keptF ((Fr.refl _ w1).drewN nq)) (uh HM1) (by omega) x.1 x.1.toNat (by omega) (by omega) x.2))).mono ?_
   rintro e w2 (⟨rfl,A2,d2,m2,f2⟩ | ⟨rfl,A2,d2,t2,f2⟩)
   rotate_left
   ·have z2:=uh HZ
    have nf:∀j,w.heap.size<=j->¬foot b L j:=fun j hj hf=>by have:=(uh HD).lt j hf;omega
    have hsz:=(uh HH).size
    have hsz1:=(uh HFW).size
    refine⟨rfl,?_,rfl,((uh HF).drewN nq).trans' f2 (fun _=>.inl),A2,d2,t2.1,_,fun j=>homed_between _ k f j,t2.2.more (by omega)⟩
    exact(f2.block _ (by show _<w1.heap.size;omega) (nf _ (by omega))).trans (uh HE12).1
   have z2:=uh HZ
   have nf:∀j,w.heap.size<=j->¬foot b L j:=fun j hj hf=>by have:=(uh HD).lt j hf;omega
   have hsz:=(uh HH).size
   have hsz1:=(uh HFW).size
   obtain⟨_,_,q3,q4,q5,q6,gq,cq,rfl⟩:=uh HQ
   have hi:=info3
   obtain⟨i0,hi0⟩:∃i,Tryz.prog.info? 3=some i:=by
    cases h:Tryz.prog.info? 3 with
    | none=>rw[h] at hi;simp at hi
    | some i=>exact⟨i,rfl⟩
   rw[hi0] at hi
   simp only[Option.map_some,Option.some.injEq,Prod.mk.injEq] at hi
   have y0:w2.cell? ⟨bx,0,none⟩=some (.int .i64 x.1):=f2.cell' y0 (nf _ (by simp;omega))
   have l2:w2.cell? ⟨w.heap.size+1+1+1+1,0,none⟩=some (.slice (some ⟨gq,0,none⟩) acc.length cq):=f2.cell' (uh HL1) (nf _ (by simp;omega))
   have r2:w2.ownsRow (w.heap.size+3) 3 1 (.slice (some ⟨gq,0,none⟩) acc.length cq) acc.length (acc.map fun v=>.int .i64 (v / 8)):=owns_same (uh HR1) (fun r hr=>f2.block r ((uh HR1).lt r hr).2 (nf _ (by have:=((uh HR1).lt r hr).1;omega)))
   have HD2:=Hd d2;have HM2:=Hd m2;have HF2:=Hd f2;have HR2:=Hd r2;have HI:=Hd (ai hi0 hi);have HQ2:=Hd (ai q3 (ai q4 (ai q5 q6)));have HNF:=Hd nf;have HSZ:=Hd (ai hsz hsz1);have HY0:=Hd y1
   have hsz2:w.heap.size+3<=w2.heap.size:=by have:=f2.size;have:w1.heap.size<=w2.heap.size:=this;omega
   clear d2 m2 f2 r2 hi0 hi q3 q4 q5 q6 nf hsz hsz1 z2 HD1 HM1 b0 c0 y1
   gi_wp2_with (gi_at_builtin;refine wpListIn_append_own_at _ rfl _ _ 45 rfl (w.heap.size+3) 3 i0 (.int .i64 0) 1 8 Tryz.underlying45 (uh HI).1 (uh HI).2.1 (uh HI).2.2.1 (uh HI).2.2.2 rfl (by decide) _ acc.length (acc.map fun v=>.int .i64 (v / 8)) rfl ((uh HR2).alloc _) _ 1 1 [.int .i64 (x.1 / 8)] rfl rfl ?c1 ?c2 ?c3 ?c4 ?c5 ?_)
   case c1=>exact cell_one_new _ _ _
   case c2=>intro u hu;simp at hu;subst hu;rfl
   case c3=>omega
   case c4=>have:=(uh HQ2).2.2.2;omega
   case c5=>simp;omega
   intro v' w3 hown3 hgrow3 _ hloc
   obtain⟨g',cap',rfl⟩:=owns_form hown3 (by omega)
   have nf:=uh HNF
   obtain⟨hsz,hsz1⟩:=uh HSZ
   obtain⟨q3,q4,q5,q6⟩:=uh HQ2
   have z2:=uh HZ
   have h:=uh HH
   have gq4:=q4 gq rfl
   have sz2:w1.heap.size<=w2.heap.size:=(uh HF2).size
   have hgq:gq<w2.heap.size:=((uh HR2).lt gq rfl).2
   have fr3:Fr (fun j=>j=gq) w2 w3:=((Fr.refl _ w2).alloc _).grown hgrow3 (fun j e=>.inl (by cases e;rfl))
   have l3:w3.cell? ⟨w.heap.size+1+1+1+1,0,none⟩=some (.slice (some ⟨gq,0,none⟩) acc.length cq):=fr3.cell' l2 (by simp;omega)
   have zf1:w1.frozen? ⟨w.heap.size+4,0,none⟩=false:=((uh HFW).frozen (p:=⟨w.heap.size+4,0,none⟩) (by simp;omega) (by simp)).trans h.zl
   have zf2:w2.frozen? ⟨w.heap.size+4,0,none⟩=false:=((uh HF2).frozen (p:=⟨w.heap.size+4,0,none⟩) (by show _<w1.heap.size;simp;omega) (nf _ (by simp))).trans zf1
   have zf3:w3.frozen? ⟨w.heap.size+1+1+1+1,0,none⟩=false:=(fr3.frozen (p:=⟨w.heap.size+4,0,none⟩) (by simp;omega) (by simp;omega)).trans zf2
   have gn:g'=gq\/w.heap.size+9<=g':=by
    rcases hloc with e | e
    ·left;simpa [Value.ownBlock] using e
    ·right;simp[Value.ownBlock] at e;omega
   have HO3:=Hd hown3;have HFR3:=Hd fr3;have HGN:=Hd gn;have HZF:=Hd zf3
   clear hown3 hgrow3 hloc fr3 gn nf hsz hsz1 q3 q4 q5 q6 z2 zf1 zf2 l2 y0 hsz2 h
   gi_wp2
   have nf:=uh HNF
   obtain⟨hsz,hsz1⟩:=uh HSZ
   obtain⟨q3,q4,q5,q6⟩:=uh HQ2
   have z2:=uh HZ
   have h:=uh HH
   have fr3:=uh HFR3
   have fw:=uh HFW
   have f2:=uh HF2
   obtain⟨v4,hv4⟩:∃v4,Value.slice (some ⟨g',0,none⟩) (acc.length+1) cap'=v4:=⟨_,rfl⟩
   have fr4:Fr (fun j=>j=gq\/j=w.heap.size+4) w2 (w3.setCell ⟨w.heap.size+4,0,none⟩ v4):=(fr3.mono (fun j e=>.inl (.inl e))).setCell (.inl (.inr rfl)) v4
   have fr5:Fr (fun j=>foot b L j\/j=gq\/j=w.heap.size+4) w1 (w3.setCell ⟨w.heap.size+4,0,none⟩ v4):=(((Fr.refl _ w1).drewN nq).trans' f2 (fun j e=>.inl (.inl e))).trans' fr4 (fun j e=>.inl (.inr e))
   have fr6:Fr (fun j=>j=w.heap.size+1\/foot b L j\/j=gq\/j=w.heap.size+4) W (w3.setCell ⟨w.heap.size+4,0,none⟩ v4):=(fw.mono (fun j e=>.inl (.inl e))).trans' fr5 (fun j e=>.inl (.inr e))
   have no6:∀j,w.heap.size<=j->j≠w.heap.size+1->j≠gq->j≠w.heap.size+4->¬(j=w.heap.size+1\/foot b L j\/j=gq\/j=w.heap.size+4):=fun j h1 h2 h3 h4 e=>by
    rcases e with e | e | e | e
    ·exact h2 e
    ·exact nf j h1 e
    ·exact h3 e
    ·exact h4 e
   have b4:(w3.setCell ⟨w.heap.size+4,0,none⟩ v4).cell? ⟨w.heap.size+4,0,none⟩=some v4:=World.cell?_setCell_same _ _ _ l3
   have z4:(w3.setCell ⟨w.heap.size+4,0,none⟩ v4).frozen? ⟨w.heap.size+4,0,none⟩=false:=by rw[World.frozen?_setCell];exact uh HZF
   have o4:(w3.setCell ⟨w.heap.size+4,0,none⟩ v4).ownsRow (w.heap.size+3) 3 1 v4 (acc.length+1) (acc.map (fun v=>Value.int .i64 (v / 8)) ++ [.int .i64 (x.1 / 8)]):=by
    have:=uh HO3
    rw[hv4] at this
    refine owns_same this (fun r hr=>Below.heap_setCell _ _ _ _ ?_)
    rw[<-hv4] at hr
    have:r=g':=by simpa [Value.ownBlock] using hr.symm
    have:=uh HGN
    simp;omega
   have s4:W.heap.size<=(w3.setCell ⟨w.heap.size+4,0,none⟩ v4).heap.size:=fr6.size
   show bodyEnds _ _ _ _ _ _ _ (w3.setCell ⟨w.heap.size+4,0,none⟩ (.slice (some ⟨g',0,none⟩) (acc.length+1) cap'))
   rw[hv4]
   generalize w3.setCell ⟨w.heap.size+4,0,none⟩ v4=W4 at *
   refine⟨⟨fr6.block _ (by omega) (no6 _ (by omega) (by omega) (by omega) (by omega)),fr6.block _ (by omega) (no6 _ (by omega) (by omega) (by omega) (by omega))⟩,?_⟩
   have tk:=take_next (uh HX)
   have ns:¬∃y∈xs.reverse.take k,y.1=x.1:=fun e=>uh HS ((q5 _).2 e)
   refine⟨⟨A2,(uh HD2).kept fr4 (fun j hj e=>?_),?_⟩,h.fr.trans' fr6 (fun j e=>?_),by omega,fr6.cell' h.bl (no6 _ (by simp) (by simp) (by simp;omega) (by simp)),fr6.cell' h.bd (no6 _ (by simp) (by simp) (by simp;omega) (by simp)),fr6.cell' h.bl2 (no6 _ (by simp) (by simp) (by simp;omega) (by simp)),fr6.cell' h.bn (no6 _ (by simp) (by simp) (by simp;omega) (by simp)),z4,?_⟩
   ·have:=(uh HD).lt j hj;omega
   ·rw[tk,homed_new ns hx0];exact(uh HM2).more (by omega)
   ·rcases e with e | e | e | e
    ·right;omega
    ·exact .inl e
    ·right;omega
    ·right;omega
   ·refine⟨acc ++ [x.1],v4,?_,b4,?_,?_,?_,by simp;omega,g',cap',by rw[<-hv4];simp⟩
    ·have hm:=uh HO1
     rw[List.map_append,List.map_singleton,Maps.setOf_snoc,List.length_append,List.length_singleton]
     obtain⟨es,ck,e1,e2⟩:=hm
     exact⟨es,ck,(fr5.block _ (Array.getElem?_eq_some_iff.1 e1).1 (fun e=>by
      rcases e with e | e | e
      ·exact nf _ (by omega) e
      ·omega
      ·omega)).trans e1,e2⟩
    ·rw[List.length_append,List.length_singleton,List.map_append,List.map_singleton];exact o4
    ·intro r hr
     rw[<-hv4] at hr
     have:r=g':=by simpa [Value.ownBlock] using hr.symm
     have:=uh HGN
     omega
    ·intro v
     rw[List.mem_append,List.mem_singleton,q5 v,tk]
     constructor
     ·rintro(⟨y,hy,e⟩ | rfl)
      ·exact⟨y,List.mem_append_left _ hy,e⟩
      ·exact⟨x,List.mem_append_right _ (by simp),rfl⟩
     ·rintro⟨y,hy,e⟩
      rcases List.mem_append.1 hy with hy | hy
      ·exact .inl ⟨y,hy,e⟩
      ·have:y=x:=by simpa using hy
       right;rw[<-e,this]
 case hdone=>
  intro W h hD
  have z2:=uh HZ
  obtain⟨A1,dW,mW⟩:=h.dev
  obtain⟨acc,lv,-,q2,q3,q4,q5,q6,gq,cq,rfl⟩:=h.rows
  have q4':=q4 gq rfl
  have htk:xs.reverse.take n=xs.reverse:=List.take_of_length_le (by rw[List.length_reverse,uh HLEN];exact Nat.le_refl _)
  rw[htk] at mW q5
  have q3':W.ownsRow (w.heap.size+3) 3 1 (.slice (some ⟨gq,0,none⟩) (acc.map (· / 8)).length cq) (acc.map (· / 8)).length ((acc.map (· / 8)).map (Value.int .i64)):=by
   rw[List.length_map,List.map_map];exact q3
  have so:=sort_own W _ gq cq (acc.map (· / 8)) (by rw[List.length_map];omega) q3'
  rw[List.length_map] at so
  have l2:W.cell? ⟨w.heap.size+1+1+1+1,0,none⟩=some (.slice (some ⟨gq,0,none⟩) acc.length cq):=q2
  have HH:=Hd h;have HDD:=Hd hD;have HDW:=Hd dW;have HMW:=Hd mW;have HQ5:=Hd q5;have HSO:=Hd so
  clear h hD dW mW q2 q3 q3' q4 q5 so z2 htk HJ0 HC
  show wpOf _ _ _ _ _ _
  refine wpOf_of_wp ?_
  go_wp2_with fail
  refine(uh HSO).mono ?_
  rintro e S1 ⟨rfl,ts,t1,t2,t3,t4⟩
  have co:=compact_own S1 _ gq cq ts (by omega) t4
  rw[t2] at co
  have l3:S1.cell? ⟨w.heap.size+1+1+1+1,0,none⟩=some (.slice (some ⟨gq,0,none⟩) acc.length cq):=t3.cell' l2 (by simp;omega)
  have HCO:=Hd co;have HT1:=Hd t1;have HT3:=Hd t3;have HT2:=Hd t2
  clear co t1 t2 t3 t4 l2 HSO
  go_wp2_with fail
  refine(uh HCO).mono ?_
  rintro e S2 ⟨us,rfl,u1,u2,u3,u4⟩
  have z2:=uh HZ
  have h:=uh HH
  have hsz:=h.size
  have f12:Fr (fun j=>j=gq) W S2:=(uh HT3).trans u3
  have d2:DevL S2 b L A1:=(uh HDW).kept f12 (fun j hj e=>by have:=(uh HD).lt j hj;omega)
  have o0:Fr (foot b L) w S2:=h.fr.trans' f12 (fun j e=>.inr (by omega))
  have b2:S2.cell? ⟨w.heap.size,0,none⟩=some (ptr lg):=f12.cell' h.bl (by simp;omega)
  have D2:S2.heap[W2.heap.size]? = some (.deferred (some [])):=(f12.block _ (by omega) (by omega)).trans (uh HDD)
  have lg2:=(uh HL).kept o0 (uh HG)
  have hmem:∀v,v∈us ↔ ∃y∈xs.reverse,y.1 / 8=v:=fun v=>by
   rw[u1 v,uh HT1 v,List.mem_map]
   constructor
   ·rintro⟨a,ha,rfl⟩
    obtain⟨y,hy,e⟩:=(uh HQ5 a).1 ha
    exact⟨y,hy,by rw[e]⟩
   ·rintro⟨y,hy,e⟩
    exact⟨y.1,(uh HQ5 _).2 ⟨y,hy,rfl⟩,e⟩
  have hb:∀v∈us,0<=v/\v * 8<N * 8:=fun v hv=>by
   obtain⟨y,hy,e⟩:=(hmem v).1 hv
   have hxm:=uh HXS y (List.mem_reverse.1 hy)
   have:=hxm.1;have:=hxm.2.1
   omega
  have ul:us.length<=n:=by have:=uh HT2;omega
  have nf:∀j,w.heap.size<=j->¬foot b L j:=fun j hj hf=>by have:=(uh HD).lt j hf;omega
  have sz2:W2.heap.size<S2.heap.size:=(Array.getElem?_eq_some_iff.1 D2).1
  have hgq:gq<S2.heap.size\/us = []:=by
   cases us with
   | nil=>exact .inr rfl
   | cons x0 r=>exact .inl (World.block_lt_of_cell? _ _ (u4 0 x0 rfl))
  have HD2:=Hd d2;have HO0:=Hd o0;have HB2:=Hd b2;have HDEF:=Hd D2;have HLG:=Hd lg2;have HMEM:=Hd hmem;have HB:=Hd hb;have HU4:=Hd u4;have HNF:=Hd nf;have HSZ:=Hd sz2;have HGQ:=Hd hgq;have HZZ:=Hd (ai z2 hsz)
  clear h hsz f12 d2 o0 D2 lg2 hmem hb nf sz2 hgq z2 u1 u2 u3 u4 l3 HCO HT1 HT3 HT2 HDW HDD HH HQ5 b2
  go_wp2_with fail
  go_loopw [51] (fun i wr=>∃q:Nat,q<=us.length/\i = .int .i64 q/\∃L1 A1,On S2 b L wr L1 A1/\Mid N free A1 (s+n+q) f (homed xs.reverse f) ((us.take q).map Int.toNat).reverse) (fun i wr=>us.length - (intOf i).toNat)
  case atStart=>exact⟨0,Nat.zero_le _,rfl,L,A1,On.start (uh HD2),by simpa using uh HMW⟩
  case round=>
   obtain⟨q,hq,rfl,L1,A2,o1,m1⟩:=hrel
   have b2:=o1.fr.cell' (uh HB2) (uh HNF _ (by simp))
   have c0:=(o1.log (uh HLG) (uh HG)).c0
   have torn:∀(e:Ending) (w5:World) (s':Int) (g':Nat->Int),e = .panicked lost->s'<=s+2 * n+4->(∀j,g' j=f j\/g' j=homed xs.reverse f j)->DM S2 b L w5 (fun A'=>¬free/\Torn N A' s' f g')->w5.heap[W2.heap.size]? = some (.deferred (some []))->
     ∀tm,bodyPostM Fence.wide 0 Tryz.prog Tryz.f132 (Ends w b L (fun A'=>Calm N free A' (s+2 * n+4) (upd (homed xs.reverse f) at_ 0)) (fun A'=>¬free/\∃f' g,((f'=f/\∀j,g j=f j\/g j=homed xs.reverse f j)\/(f'=homed xs.reverse f/\(g=f'\/g=upd f' at_ 0)))/\Torn N A' (s+2 * n+4) f' g))
      (.panic lost) { tmps:=tm,defers:=[{ target:=.collected W2.heap.size,args:=#[] }] } w5:=by
    rintro e w5 s' g' rfl hs' hg hdm hD tm
    obtain⟨z2,hsz⟩:=uh HZZ
    exact⟨by simp,.inl ⟨_,_,rfl,run_takeDeferred hD,.inr ⟨rfl,(shut_dm (uh HD) (uh HO0) hdm _ (by omega) (uh HSZ) _).mono fun A' t=>⟨t.1,f,g',.inl ⟨rfl,hg⟩,t.2.more hs'⟩⟩⟩⟩
   have HT:=Hd torn
   have defK:∀(w5:World) (L5:Lay) (A5:Ab),On S2 b L w5 L5 A5->w5.heap[W2.heap.size]? = some (.deferred (some [])):=fun w5 L5 A5 o5=>by
    obtain⟨z2,hsz⟩:=uh HZZ
    exact(o5.fr.block _ (uh HSZ) (uh HNF _ (by omega))).trans (uh HDEF)
   have HDK:=Hd defK
   clear torn defK
   by_cases hlt:q<us.length
   ·obtain⟨x,hx⟩:∃x,us[q]? = some x:=⟨_,List.getElem?_eq_getElem hlt⟩
    have cx:wr.cell? ⟨gq,q,none⟩=some (.int .i64 x):=o1.fr.cell' (uh HU4 q x hx) (uh HNF _ (by simp;omega))
    have hxb:=uh HB x (List.mem_of_getElem? hx)
    have hx0:=hxb.1
    have hx1:=hxb.2
    have HO1:=Hd o1;have HM1:=Hd m1;have HX:=Hd hx
    clear o1 m1 hx hxb
    go_wp2_with fail
    refine(o_flush (uh HO1) (uh HM1) (by omega) _ (x.toNat * 8) (by omega) (by omega)).mono ?_
    rintro e w3 (⟨rfl,D⟩ | ⟨rfl,D⟩)
    rotate_left
    ·obtain⟨L3,A3,o3,t3⟩:=D.on
     exact uh HT _ w3 _ _ rfl (by omega) (fun j=>.inr rfl) D (uh HDK w3 L3 A3 o3) _
    obtain⟨L3,A3,o3,m3⟩:=D.on
    have HO3:=Hd o3;have HM3:=Hd m3
    clear D o3 m3 HO1 HM1 cx c0 b2
    go_wp2
    refine⟨⟨q+1,by omega,by go_num,L3,A3,uh HO3,?_⟩,by simp[intOf];omega⟩
    have m3:=(uh HM3).more (t:=s+n+((q+1:Nat):Int)) (by omega)
    rw[List.take_add_one,uh HX]
    rw[show x.toNat * 8 / 8=x.toNat by omega] at m3
    simpa using m3
   ·obtain rfl:q=us.length:=by omega
    have HO1:=Hd o1;have HM1:=Hd m1
    clear o1 m1
    go_wp2_with fail
    refine(o_fence (uh HO1) (uh HM1) (by omega) ?_).mono ?_
    ·intro j hj
     obtain⟨y,hy,e⟩:=homed_turned hj
     rw[List.take_length,List.mem_reverse,List.mem_map]
     exact⟨y.1 / 8,(uh HMEM _).2 ⟨y,hy,rfl⟩,by omega⟩
    rintro e w3 (⟨rfl,D⟩ | ⟨rfl,D⟩)
    rotate_left
    ·obtain⟨L3,A3,o3,t3⟩:=D.on
     exact uh HT _ w3 _ _ rfl (by omega) (fun j=>.inr rfl) D (uh HDK w3 L3 A3 o3) _
    obtain⟨L3,A3,o3,m3⟩:=D.on
    have b2:=o3.fr.cell' (uh HB2) (uh HNF _ (by simp))
    have mk:=mark_ok o3 (uh HLG) (uh HG) m3 (by omega) (by omega) 0
    have HMK:=Hd mk
    clear D o3 m3 HO1 HM1 c0 mk
    go_wp2_with fail
    refine(uh HMK).mono ?_
    rintro e w4 (⟨rfl,D⟩ | ⟨rfl,D⟩)
    rotate_left
    ·obtain⟨L3,A3,o3,t3⟩:=D.on
     obtain⟨z2,hsz⟩:=uh HZZ
     exact⟨by simp,.inl ⟨_,_,rfl,run_takeDeferred (uh HDK w4 L3 A3 o3),.inr ⟨rfl,(shut_dm (uh HD) (uh HO0) D _ (by omega) (uh HSZ) _).mono fun A' t=>by
      obtain⟨t1,g,t2,t3⟩:=t
      exact⟨t1,_,g,.inr ⟨rfl,t2⟩,t3.more (by omega)⟩⟩⟩⟩
    obtain⟨L3,A3,o3,m3⟩:=D.on
    have hD4:=uh HDK w4 L3 A3 o3
    have HDM:=Hd D;have HD4:=Hd hD4
    clear D o3 m3 hD4 b2
    go_wp2
    obtain⟨z2,hsz⟩:=uh HZZ
    refine⟨by simp,.inl ⟨_,_,rfl,run_takeDeferred (uh HD4),?_⟩⟩
    exact⟨_,results_none rfl _ _ _,.inl ⟨rfl,(shut_dm (uh HD) (uh HO0) (uh HDM) _ (by omega) (uh HSZ) _).mono fun A' t=>t.more (by omega)⟩⟩
 case hpan=>
  rintro ch W ⟨rfl,hf,A',d',nfree,g,hg,ht⟩ hD
  have z2:=uh HZ
  refine⟨by simp,.inl ⟨_,_,rfl,run_takeDeferred hD,?_⟩⟩
  have fp:Fr (fun j=>j=W2.heap.size) W (W.putObj W2.heap.size (.deferred none)):=(Fr.refl (fun j=>j=W2.heap.size) W).putObj (.inl rfl) _
  exact .inr ⟨rfl,L,A',d'.kept fp (fun j hj e=>by have:=(uh HD).lt j hj;omega),⟨nfree,f,g,.inl ⟨rfl,hg⟩,ht⟩,hf.trans' fp (fun j e=>.inr (by omega)),fun _=>.inl⟩
end
theorem mk_bits (n j:Nat) (hn:n<4294967296):(8243105120875708416+n).testBit j=if j<32 then n.testBit j else (1919247471:Nat).testBit (j - 32):=by
 have:=Nat.testBit_two_pow_mul_add (i:=32) 1919247471 (b:=n) (by simpa using hn) j
 rw[show 2 ^ 32 * 1919247471+n=8243105120875708416+n by omega] at this
 exact this
theorem mk_and (n:Nat) (hn:n<4294967296):(8243105120875708416+n) &&& 4294967295=n:=by
 have:=Nat.and_two_pow_sub_one_eq_mod (8243105120875708416+n) 32
 rw[show(2:Nat) ^ 32 - 1=4294967295 by decide] at this
 rw[this]
 omega
theorem mk_high (n:Nat) (hn:n<4294967296):(8243105120875708416+n) &&& 18446744069414584320=8243105120875708416:=by
 apply Nat.eq_of_testBit_eq
 intro j
 have h1:(18446744069414584320:Nat).testBit j=(decide (j ≥ 32) && (4294967295:Nat).testBit (j - 32)):=by
  have:=Nat.testBit_two_pow_mul (i:=32) (a:=4294967295) (j:=j)
  rwa [show 2 ^ 32 * 4294967295=18446744069414584320 by omega] at this
 have h2:=mk_bits 0 j (by omega)
 rw[Nat.add_zero] at h2
 rw[Nat.testBit_and,mk_bits n j hn,h1,h2]
 by_cases hj:j<32
 ·have:¬j ≥ 32:=by omega
  simp[hj,this]
 ·have h3:j ≥ 32:=by omega
  have h4:(4294967295:Nat).testBit (j - 32)=decide (j - 32<32):=Nat.testBit_two_pow_sub_one 32 (j - 32)
  simp only[hj,if_false,h3,decide_true,Bool.true_and,h4]
  by_cases h5:j - 32<32
  ·simp[h5]
  ·have:(1919247471:Nat).testBit (j - 32)=false:=Nat.testBit_lt_two_pow (by
    have:2 ^ 32<=2 ^ (j - 32):=Nat.pow_le_pow_right (by omega) (by omega)
    omega)
   simp[this]
theorem mk_or (n:Nat) (hn:n<4294967296):8243105120875708416 ||| n=8243105120875708416+n:=by
 apply Nat.eq_of_testBit_eq
 intro j
 have h2:=mk_bits 0 j (by omega)
 rw[Nat.add_zero] at h2
 rw[Nat.testBit_or,mk_bits n j hn,h2]
 by_cases hj:j<32
 ·simp[hj]
 ·have:n.testBit j=false:=Nat.testBit_lt_two_pow (by
   have:2 ^ 32<=2 ^ j:=Nat.pow_le_pow_right (by omega) (by omega)
   omega)
  simp[hj,this]
def marked (n:Nat):Int:=8243105120875708416+n
theorem b_or (n:Nat) (hn:n<4294967296):bits .or .u64 8243105120875708416 (n:Int)=marked n:=by
 have:=u64_or_nat 8243105120875708416 n (by omega) (by omega)
 rw[mk_or n hn] at this
 unfold marked
 rw[show((8243105120875708416:Nat):Int)=8243105120875708416 by rfl] at this
 rw[this];omega
theorem b_and (n:Nat) (hn:n<4294967296):bits .and .u64 (marked n) 4294967295=(n:Int):=by
 have:=u64_and_nat (8243105120875708416+n) 4294967295 (by omega) (by omega)
 rw[mk_and n hn] at this
 unfold marked
 rw[show((4294967295:Nat):Int)=4294967295 by rfl,show((8243105120875708416+n:Nat):Int)=8243105120875708416+(n:Int) by omega] at this
 exact this
theorem b_high (n:Nat) (hn:n<4294967296):bits .andNot .u64 (marked n) 4294967295=8243105120875708416:=by
 have:=u64_andNot_nat (8243105120875708416+n) 4294967295 (by omega) (by omega)
 rw[show 18446744073709551615 - 4294967295=18446744069414584320 by omega,mk_high n hn] at this
 unfold marked
 rw[show((4294967295:Nat):Int)=4294967295 by rfl,show((8243105120875708416+n:Nat):Int)=8243105120875708416+(n:Int) by omega] at this
 exact this
theorem b_zero:bits .andNot .u64 0 4294967295=0:=by
 have:=u64_andNot_nat 0 4294967295 (by omega) (by omega)
 rw[Nat.zero_and] at this
 exact this
end
end Go.Proofs.YtbiopjmpdhcjgaaGreatDoor
