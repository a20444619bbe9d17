/- Joined: RdB TxA B9. -/
import Derived.OwnWalkIn
import Derived.TacticsInMore
import Derived.LoopNIn
import Derived.LoopIn
import Derived.RangeFuncCalls
import Derived.Lib.SlicesCompact
import Derived.LoopTactic
import Derived.Laws.EntriesVeiled
import Derived.WalkKit
import Derived.WalkSpells
import Derived.WalkLawsBesides
import Derived.Handy
import Derived.Laws.BitsAllLaws
import Derived.Laws.Bits64
import Derived.Laws.MakeOwn
import Derived.BigQuiet
import Derived.BigRegion
import Derived.StillTail
import Derived.Below
import Derived.OwnWalk
import Derived.Deep.OwnRows
import Derived.Maps.AppendAt
import Derived.Laws.AppendOwnNone
import Derived.Test.YtbiopjmpdhcjgaaGreatDoorS02
import Derived.Test.YtbiopjmpdhcjgaaGreatDoorS03
namespace Go.Proofs.YtbiopjmpdhcjgaaGreatDoor
open Go.RowKit
set_option maxHeartbeats 4000000

section
section
variable {w0 w:World} {b:Nat} {L0 L:Lay} {N:Nat} {A:Ab} {lg at_ ws:Nat}
theorem load_int {w:World} {b:Nat} {L:Lay} {A:Ab} (d:DevL w b L A) (hd:A.dead=false) (i:Int) (h0:0<=i) (hi:i<A.n * 8) :
  Calls Tryz.prog 105 #[ptr b,.int .i64 i] w fun e w'=>e = .returned (u64 (A.now i.toNat))/\w'=w:=by
 obtain⟨j,rfl⟩:=Int.eq_ofNat_of_zero_le h0
 rw[Int.toNat_natCast]
 exact load_ok d hd j (by omega)
theorem place_int {w:World} (h:LogAt w lg b at_ ws) (ha:at_<=65536) (i:Int) (h0:0<=i) (hi:i<=65536) :
  Calls Tryz.prog 167 #[ptr lg,.int .i64 i] w fun e w'=>e = .returned (.int .i64 ((at_:Int)+8+2 * i))/\w'=w:=by
 obtain⟨j,rfl⟩:=Int.eq_ofNat_of_zero_le h0
 exact place_ok h ha j (by omega)
structure Reads (W:World) (bl bn lg b at_ ws n:Nat) (g:Nat->Int):Prop where
 cn:W.cell? ⟨bn,0,none⟩=some (.int .i64 n)
 cl:W.cell? ⟨bl,0,none⟩=some (ptr lg)
 log:LogAt W lg b at_ ws
 dev:∃L A,DevL W b L A/\A.dead=false/\at_+8+2 * n<=A.n * 8/\A.n<=8192/\∀j,at_+8<=j->j<at_+8+2 * n->A.now j=g j
def come (at_ n:Nat) (g:Nat->Int) (k:Nat):Value:=
 .agg #[.int .i64 (wrap64 (g (at_+8+2 * (n - 1 - k)))),u64 (g (at_+8+2 * (n - 1 - k)+1))]
attribute [local go_sem] Oper.semAt_some
set_option maxRecDepth 100000 in
theorem iter_ok (bl bn n l:Nat) (g:Nat->Int) (J:Nat->World->Prop) (hn:n<=65536) (hJ:∀k W,J k W->Reads W bl bn lg b at_ ws n g) :
  Iter 0 Tryz.prog 197 #[.pointer (some ⟨bn,0,none⟩),.pointer (some ⟨bl,0,none⟩)] (come at_ n g) n l J:=by
 intro J' Jx Jp hJJ hdr hY W h0
 have hwd:Fence.wide.depth=none:=rfl
 have hwf:∀f,Fence.wide.fn f:=fun _=>trivial
 have hr0:=hJ 0 W (hJJ 0 W h0)
 have cn:=hr0.cn
 have HJ:=Hd hJ;have HJJ:=Hd hJJ;have HD:=Hd hdr;have HY:=Hd hY;have H0:=Hd h0
 clear hJ hJJ hdr hY h0 hr0
 refine callsIn_of_wp Tryz.func197 rfl trivial ?_ rfl
 simp only[Tryz.ntmps197,List.size_toArray,List.length_cons,List.length_nil,Nat.reduceAdd,Nat.reduceSub,Array.replicate_succ,Array.replicate_zero,List.push_toArray,List.append_toArray,List.nil_append,List.cons_append]
 gi_wp2
 gi_loopw [4] (fun c wr=>∃k:Nat,k<=n/\c = .int .i64 ((n:Int) - 1 - k)/\J' k wr) (fun c wr=>(intOf c+1).toNat)
 case atStart=>exact⟨0,Nat.zero_le _,by simp,uh H0⟩
 case round=>
  obtain⟨k,hk,rfl,hj⟩:=hrel
  have hr:=uh HJ k wr (uh HJJ k wr hj)
  by_cases hlt:k<n
  ·obtain⟨L1,A1,d1,dd,hb,hb2,hg⟩:=hr.dev
   have cl:=hr.cl
   have c0:=hr.log.c0
   have HR:=Hd hr;have HJ1:=Hd hj;have HD1:=Hd d1;have HDD:=Hd dd;have HG:=Hd hg
   clear hr hj d1 dd hg cn H0
   gi_wp2_with (gi_at_call 167;refine(callsIn_wide.2 (place_int (uh HR).log (by omega) _ (by omega) (by omega))).mono ?_;rintro e w' ⟨rfl,hh⟩;replace hh:=hh.symm;subst hh)
   refine region_tail 16 (by kernel_rfl) (by kernel_rfl) (by kernel_rfl) ?_
   simp only[List.take_succ_cons,List.take_zero,List.drop_succ_cons,List.drop_zero]
   repeat (gi_big_quiet_step (first | (gi_at_call 105;exact CallsIn.quiet_of_same (callsIn_wide.2 (load_int ((uh HD1).keptF ((Fr.refl _ wr).drewN _)) (uh HDD) _ (by omega) (by omega))))))
   refine wpQuietIn_nil ?_
   rintro _ ⟨nq,rfl⟩
   obtain⟨fn,tmps,assign,body,hy,hR⟩:=uh HY k (wr.drewN nq) hlt (uh HD k wr nq (uh HJ1))
   have e1:=uh HG (at_+8+2 * (n - 1 - k)) (by omega) (by omega)
   have e2:=uh HG (at_+8+2 * (n - 1 - k)+1) (by omega) (by omega)
   unfold come at hy
   rw[<-e1,<-e2] at hy
   have HRR:=Hd hR
   clear e1 e2 HD1 HDD HG c0 cl hR HR HJ1
   gi_wp2
   refine(uh HRR).mono ?_
   clear hy HRR
   rintro e W3 (⟨rfl,hj3⟩ | ⟨rfl,hx3⟩ | ⟨ch,rfl,hp3⟩)
   ·have HJ3:=Hd hj3
    clear hj3
    gi_wp2
    go_roundw
    case rel=>exact⟨k+1,by omega,by simp;omega,uh HJ3⟩
    case measure=>simp[intOf];omega
   ·have HX3:=Hd hx3
    clear hx3
    gi_wp2
    refine bodyPost_ret (results_none rfl _ _ _) rfl ?_
    exact .inr (.inl ⟨_,rfl,uh HX3⟩)
   ·exact⟨rfl,.inr (.inr ⟨ch,rfl,hp3⟩)⟩
  ·obtain rfl:k=n:=by omega
   have HJ1:=Hd hj
   clear hj hr cn H0
   gi_wp2
   go_end0
   exact .inl ⟨_,rfl,uh HJ1⟩
end
def homed (ys:List (Int×Int)) (f:Nat->Int) (j:Nat):Int:=match ys.find? (fun x=>x.1 == (j:Int)) with | some x=>x.2 | none=>f j
theorem homed_nil (f:Nat->Int):homed [] f=f:=rfl
theorem homed_seen {ys:List (Int×Int)} {x:Int×Int} (h:∃y∈ys,y.1=x.1) (f:Nat->Int):homed (ys ++ [x]) f=homed ys f:=by
 funext j
 unfold homed
 rw[List.find?_append]
 cases e:ys.find? (fun x=>x.1 == (j:Int)) with
 | some y=>rfl
 | none=>
  have hn:¬x.1=(j:Int):=fun hx=>by
   obtain⟨y,hy,hyx⟩:=h
   have:=List.find?_eq_none.1 e y hy
   simp[hyx,hx] at this
  simp[hn]
theorem homed_new {ys:List (Int×Int)} {x:Int×Int} (h:¬∃y∈ys,y.1=x.1) (h0:0<=x.1) (f:Nat->Int):homed (ys ++ [x]) f=upd (homed ys f) x.1.toNat x.2:=by
 funext j
 by_cases e:j=x.1.toNat
 ·subst e
  have hx:((x.1.toNat:Nat):Int)=x.1:=Int.toNat_of_nonneg h0
  rw[upd_same]
  unfold homed
  rw[List.find?_append,List.find?_eq_none.2 (fun y hy=>by rw[hx];simp;exact fun e=>h ⟨y,hy,e⟩)]
  simp[hx]
 ·rw[upd_other _ _ e]
  unfold homed
  rw[List.find?_append]
  have hn:¬x.1=(j:Int):=fun hx=>e (by omega)
  cases e:ys.find? (fun x=>x.1 == (j:Int)) with
  | some y=>rfl
  | none=>simp[hn]
theorem homed_between (ys:List (Int×Int)) (k:Nat) (f:Nat->Int) (j:Nat):homed (ys.take k) f j=f j\/homed (ys.take k) f j=homed ys f j:=by
 unfold homed
 cases e:(ys.take k).find? (fun x=>x.1 == (j:Int)) with
 | none=>exact .inl rfl
 | some x=>
  refine .inr ?_
  have:ys.find? (fun x=>x.1 == (j:Int))=some x:=by
   conv=>lhs;rw[<-List.take_append_drop k ys]
   rw[List.find?_append,e];rfl
  rw[this]
theorem homed_other {ys:List (Int×Int)} {j:Nat} (h:∀y∈ys,y.1≠(j:Int)) (f:Nat->Int):homed ys f j=f j:=by
 unfold homed
 rw[List.find?_eq_none.2 (fun y hy=>by simp;exact h y hy)]
theorem homed_turned {ys:List (Int×Int)} {f:Nat->Int} {j:Nat} (h:homed ys f j≠f j):∃y∈ys,y.1=(j:Int):=
 Classical.byContradiction fun hn=>h (homed_other (fun y hy e=>hn ⟨y,hy,e⟩) f)
theorem homed_again (ys:List (Int×Int)) (f g:Nat->Int) (j:Nat) (h:g j=f j\/g j=homed ys f j):homed ys g j=homed ys f j:=by
 by_cases e:∃y∈ys,y.1=(j:Int)
 ·unfold homed
  cases ef:ys.find? (fun x=>x.1 == (j:Int)) with
  | some x=>rfl
  | none=>
   obtain⟨y,hy,hj⟩:=e
   have:=List.find?_eq_none.1 ef y hy
   simp[hj] at this
 ·have ho:∀y∈ys,y.1≠(j:Int):=fun y hy e'=>e ⟨y,hy,e'⟩
  rw[homed_other ho,homed_other ho]
  rw[homed_other ho] at h
  exact h.elim id id
theorem mem_compact {x:Int} (zs:List Int):x∈Lib.compact zs ↔ x∈zs:=by
 unfold Lib.compact Lib.compactUpTo
 simp only[List.mem_map,List.mem_filter,List.mem_range]
 constructor
 ·rintro⟨i,⟨hi,_⟩,rfl⟩
  rw[getElem!_pos zs.toArray i (by simpa using hi)]
  simp
 ·intro hx
  obtain⟨i,hi,he⟩:=List.mem_iff_getElem.1 hx
  have key:∀i (hi:i<zs.length),∃j,(j<zs.length/\Lib.keeps zs.toArray j=true)/\zs.toArray[j]! = zs[i]:=by
   intro i
   induction i using Nat.strongRecOn with
   | _ i ih=>
    intro hi
    by_cases hk:Lib.keeps zs.toArray i=true
    ·exact⟨i,⟨hi,hk⟩,by rw[getElem!_pos zs.toArray i (by simpa using hi)];simp⟩
    ·have hk':i≠0/\zs.toArray[i]! = zs.toArray[i - 1]!:=by
      unfold Lib.keeps at hk
      simpa using hk
     obtain⟨j,hj,e⟩:=ih (i - 1) (by omega) (by omega)
     refine⟨j,hj,?_⟩
     rw[e]
     have:=hk'.2
     rw[getElem!_pos zs.toArray i (by simpa using hi),getElem!_pos zs.toArray (i - 1) (by simp;omega)] at this
     simpa using this.symm
  obtain⟨j,hj,e⟩:=key i hi
  exact⟨j,hj,e.trans he⟩
section
variable {w:World} {b:Nat} {L:Lay} {N:Nat} {A:Ab} {f:Nat->Int} {lg at_ ws:Nat}
theorem three (w:World) (O1 O2 O3:Obj):(((w.alloc O1).alloc O2).alloc O3).heap[w.heap.size]? = some O1/\(((w.alloc O1).alloc O2).alloc O3).heap[w.heap.size+1]? = some O2/\(((w.alloc O1).alloc O2).alloc O3).heap[w.heap.size+2]? = some O3:=by
 have s1:(w.alloc O1).heap.size=w.heap.size+1:=by simp
 have s2:((w.alloc O1).alloc O2).heap.size=w.heap.size+2:=by simp
 refine⟨?_,?_,?_⟩
 ·rw[Below.heap_alloc _ _ _ (by omega),Below.heap_alloc _ _ _ (by omega)];exact heap_alloc_new w O1
 ·rw[Below.heap_alloc _ _ _ (by omega),<-s1];exact heap_alloc_new _ O2
 ·rw[<-s2];exact heap_alloc_new _ O3
theorem two (w:World) (O1 O2:Obj):((w.alloc O1).alloc O2).heap[w.heap.size]? = some O1/\((w.alloc O1).alloc O2).heap[w.heap.size+1]? = some O2:=by
 have s1:(w.alloc O1).heap.size=w.heap.size+1:=by simp
 refine⟨?_,?_⟩
 ·rw[Below.heap_alloc _ _ _ (by omega)];exact heap_alloc_new w O1
 ·rw[<-s1];exact heap_alloc_new _ O2
attribute [local go_sem] Oper.semAt_some
set_option maxRecDepth 100000 in
theorem sound_ok (d:DevL w b L A) (hd:A.dead=false) (hl:LogAt w lg b at_ ws) (n:Nat) (hn:at_+8+2 * n<=A.n * 8)
  (ho:∀k,k<n->outside A.n at_ (wrap64 (A.now (at_+8+2 * k))) ((at_:Int)+8+2 * n)) :
  Calls Tryz.prog 165 #[ptr lg,.int .i64 n] w fun e w'=>e = .returned (.int .i64 n)/\Fr (fun _=>False) w w':=by
 have hwd:Fence.wide.depth=none:=rfl
 have hwf:∀f,Fence.wide.fn f:=fun _=>trivial
 have n8:=d.n8
 have c0:=hl.c0
 have HD:=Hd d;have HDD:=Hd hd;have HL:=Hd hl;have HO:=Hd ho
 clear d hd hl ho
 refine calls_of_wpOf Tryz.func165 rfl ?_
 simp only[Tryz.ntmps165,List.size_toArray,List.length_cons,List.length_nil,Nat.reduceAdd,Nat.reduceSub,Array.replicate_succ,Array.replicate_zero,List.push_toArray,List.append_toArray,List.nil_append,List.cons_append]
 refine wpOf_seq (wpOf_of_wp ?_)
 go_wp2
 show wpOf _ _ _ _ _ _
 refine wpOf_seq (wpOf_of_wp ?_)
 obtain⟨W1,hW1⟩:∃W1,((w.alloc (.cells #[ptr lg] 70)).alloc (.cells #[.int .i64 n] 3)).alloc (.cells #[.int .i64 0] 3)=W1:=⟨_,rfl⟩
 have f1:Fr (fun _=>False) w W1:=hW1▸(((Fr.refl _ w).alloc _).alloc _).alloc _
 have z1:W1.heap.size=w.heap.size+3:=by rw[<-hW1];simp
 obtain⟨b1,b2,b3⟩:=three w (.cells #[ptr lg] 70) (.cells #[.int .i64 n] 3) (.cells #[.int .i64 0] 3)
 rw[hW1] at b1 b2 b3 ⊢
 have x1:W1.cell? ⟨w.heap.size,0,none⟩=some (ptr lg):=cell_of_row _ _ _ _ _ _ b1
 have x2:W1.cell? ⟨w.heap.size+1,0,none⟩=some (.int .i64 n):=cell_of_row _ _ _ _ _ _ b2
 have c0:W1.cell? ⟨lg,0,none⟩=some (ptr b):=f1.cell' c0 (fun h=>h)
 have d1:=(uh HD).keptF f1
 have l1:=(uh HL).kept f1 (fun h=>h)
 have d0:=d1.c0
 have HD1:=Hd d1;have HL1:=Hd l1;have HW1:=Hd hW1;have HF1:=Hd f1;have HB3:=Hd b3;have HZ1:=Hd z1
 clear b1 b2 b3 hW1 d1 l1 f1 z1 HD HL
 go_wp2_with fail
 go_quiet (first | (go_at_call 117;exact Calls.quiet_of_same (words_any b L.bn A.n _ (by omega) (by assumption))) | (go_at_call 167;exact Calls.quiet_of_same (place_ok ((uh HL1).drewN _) (by omega) 0 (by omega))))
 go_wp2_with fail
 refine wpOf_seq (wpOf_seq (wpOf_of_wp ?_))
 go_wp2_with (go_at_call 170;refine(fromEnd_ok lg n _).mono ?_;rintro e w' ⟨rfl,rfl⟩)
 show wpOf _ _ _ _ _ _
 obtain⟨W2,hh⟩:∃W2,((W1.drewN nq).alloc (.cells #[ptr lg] 70)).alloc (.cells #[.int .i64 n] 3)=W2:=⟨_,rfl⟩
 have f2:Fr (fun _=>False) W1 W2:=hh▸(((Fr.refl _ W1).drewN nq).alloc _).alloc _
 have z1:=uh HZ1
 have z2:W2.heap.size=w.heap.size+5:=by rw[<-hh];simp[z1]
 obtain⟨b4,b5⟩:=two (W1.drewN nq) (.cells #[ptr lg] 70) (.cells #[.int .i64 n] 3)
 rw[hh] at b4 b5 ⊢
 have x4:W2.cell? ⟨W1.heap.size,0,none⟩=some (ptr lg):=cell_of_row _ _ _ _ _ _ b4
 have x5:W2.cell? ⟨W1.heap.size+1,0,none⟩=some (.int .i64 n):=cell_of_row _ _ _ _ _ _ b5
 have y1:W2.cell? ⟨w.heap.size,0,none⟩=some (ptr lg):=f2.cell' x1 (fun h=>h)
 have y2:W2.cell? ⟨w.heap.size+1,0,none⟩=some (.int .i64 n):=f2.cell' x2 (fun h=>h)
 have y3:W2.heap[w.heap.size+2]? = some (.cells #[.int .i64 0] 3):=(f2.block _ (by omega) (fun h=>h)).trans (uh HB3)
 have l2:=(uh HL1).kept f2 (fun h=>h)
 have d2:=(uh HD1).keptF f2
 have f3:=(uh HF1).trans f2
 have HL2:=Hd l2;have HD2:=Hd d2;have HF3:=Hd f3;have HY3:=Hd y3;have HZ2:=Hd z2;have HX4:=Hd x4;have HX5:=Hd x5;have HY1:=Hd y1;have HY2:=Hd y2
 clear hh b4 b5 l2 d2 f2 z1 x1 x2 c0 d0 HD1 HL1 HW1 HF1 HB3 HZ1 z2 f3 y3 x4 x5 y1 y2
 rename_i c0'
 clear c0'
 refine wpOf_block (range_ok (gf:=197) (lb:=#[.pointer (some ⟨W1.heap.size+1,0,none⟩),.pointer (some ⟨W1.heap.size,0,none⟩)]) (N:=n) (enc:=come at_ n A.now) rfl (fun _ _=>by kernel_rfl) rfl ⟨_,Tryz.func165⟩
  (fun k W=>Fr (fun _=>False) W2 W/\W2.heap.size+2<=W.heap.size)
  (fun k a' W=>(Fr (fun _=>False) W2 W/\W2.heap.size+2<=W.heap.size)/\∃bx,W2.heap.size+2<=bx/\bx<W.heap.size/\W.cell? ⟨bx,0,none⟩=some (.int .i64 (wrap64 (A.now (at_+8+2 * (n - 1 - k)))))/\
   a' = { tmps:=#[ptr lg,.int .i64 n,.pointer (some ⟨w.heap.size,0,none⟩),.pointer (some ⟨w.heap.size+1,0,none⟩),.pointer (some ⟨w.heap.size+1+1,0,none⟩),.pointer (some ⟨bx,0,none⟩),.int .i64 n,ptr lg,.pointer (some ⟨lg,0,none⟩),.pointer (some ⟨lg,0,none⟩),ptr b,.int .i64 ((A.n:Int) * 8),ptr lg,.int .i64 ((at_:Int)+8),.int .i64 ((A.n:Int) * 8 - (at_+8)),.int .i64 (((A.n:Int) * 8 - (at_+8)) / 2),.bool (decide (((A.n:Int) * 8 - (at_+8)) / 2<n)),ptr lg,.int .i64 n,.func (.func 197) #[] #[.pointer (some ⟨W1.heap.size+1,0,none⟩),.pointer (some ⟨W1.heap.size,0,none⟩)],come at_ n A.now k,undef,undef,undef,undef,undef,undef,undef,undef,undef],defers:=[] })
  (fun _=>False) (fun _ _=>False) ?hJ ?hJA (fun _ _ h _=>h) ?hseq ?h0 ?hassign ?hbody ?hdone (fun _ h _=>h.elim) (fun _ _ h _=>h.elim))
 case hJ=>
  rintro k W W' ⟨h1,h2⟩ hf
  exact⟨h1.trans' hf (fun j hj=>.inr (by rcases hj with rfl | rfl <;> omega)),Nat.le_trans h2 hf.size⟩
 case hJA=>
  rintro k a W W' ⟨⟨h1,h2⟩,bx,g1,g2,g3,rfl⟩ hf
  exact⟨⟨h1.trans' hf (fun j hj=>.inr (by rcases hj with rfl | rfl <;> omega)),Nat.le_trans h2 hf.size⟩,bx,g1,Nat.lt_of_lt_of_le g2 hf.size,hf.cell' g3 (by rintro(e | e) <;> (simp at e;omega)),rfl⟩
 case hseq=>
  refine iter_ok (lg:=lg) (b:=b) (at_:=at_) (ws:=ws) W1.heap.size (W1.heap.size+1) n _ A.now _ (by omega) ?_
  rintro k W ⟨h1,h2⟩
  exact⟨h1.cell' (uh HX5) (fun h=>h),h1.cell' (uh HX4) (fun h=>h),(uh HL2).kept h1 (fun h=>h),L,A,(uh HD2).keptF h1,uh HDD,hn,n8,fun _ _ _=>rfl⟩
 case h0=>
  intro o1 o2
  exact⟨((Fr.refl _ W2).alloc _).alloc _,by simp⟩
 case hassign=>
  rintro l k W K ⟨h1,h2⟩ hk hK
  unfold come
  gi_wp2
  exact hK _ _ ⟨⟨h1.alloc _,by simp;omega⟩,W.heap.size,h2,by simp,cell_of_row _ _ _ _ _ _ (heap_alloc_new W _),rfl⟩ (Below.heap_alloc W _ _ (by omega)) (Below.heap_alloc W _ _ (by omega))
 case hbody=>
  rintro l k a' W ⟨⟨h1,h2⟩,bx,g1,g2,g3,rfl⟩ hk
  have y1:=h1.cell' (uh HY1) (fun h=>h)
  have y2:=h1.cell' (uh HY2) (fun h=>h)
  have l3:=(uh HL2).kept h1 (fun h=>h)
  have d3:=(uh HD2).keptF h1
  have d0:=d3.c0
  have hout:=uh HO (n - 1 - k) (by omega)
  have HL3:=Hd l3;have H1:=Hd h1;have HOUT:=Hd hout;have HD0:=Hd d0
  clear l3 d3 h1 HL2 HD2 HF3 HY3 HX4 HX5 HY1 HY2 HDD HO hout d0
  unfold come
  gi_wp2_with fail
  refine region_tail 7 (by kernel_rfl) (by kernel_rfl) (by kernel_rfl) ?_
  simp only[List.take_succ_cons,List.take_zero,List.drop_succ_cons,List.drop_zero]
  repeat (gi_big_quiet_step (first | (gi_at_call 167;exact CallsIn.quiet_of_same (CallsIn.inRound l (callsIn_wide.2 (place_ok ((uh HL3).drewN _) (by omega) n (by omega))))) | (gi_at_call 128;exact CallsIn.quiet_of_same (CallsIn.inRound l (callsIn_wide.2 (outside_yes ((uh HL3).drewN _) n8 (uh HD0) _ _ (uh HOUT)))))))
  refine wpQuietIn_nil ?_
  rintro _ ⟨nq2,rfl⟩
  gi_wp2_with fail
  exact⟨⟨rfl,rfl⟩,(uh H1).drewN _,h2⟩
 case hdone=>
  rintro W ⟨h1,h2⟩ hD
  have y2:=h1.cell' (uh HY2) (fun h=>h)
  have z2:=uh HZ2
  have y3:=(h1.block (w.heap.size+2) (by omega) (fun h=>h)).trans (uh HY3)
  have y4:=cell_of_row W _ 0 _ _ _ y3
  have y5:=frozen_of_row W _ 0 _ _ y3
  have f4:=(uh HF3).trans h1
  have HF4:=Hd f4;have HDEF:=Hd hD;have HH2:=Hd h2;have HZ:=Hd z2;have HY4:=Hd y4
  clear h1 hD h2 f4 y3 z2 HL2 HD2 HF3 HY3 HX4 HX5 HY1 HY2 HDD HO HZ2
  show wpOf _ _ _ _ _ _
  refine wpOf_of_wp ?_
  go_wp2
  have z2:=uh HZ
  have hK:(W.setCell ⟨w.heap.size+2,0,none⟩ (.int .i64 n)).heap[W2.heap.size]? = some (.deferred (some [])):=(Below.heap_setCell _ _ _ _ (by simp;omega)).trans (uh HDEF)
  refine⟨by simp,.inl ⟨_,_,rfl,run_takeDeferred hK,?_⟩⟩
  have hc2:((W.setCell ⟨w.heap.size+2,0,none⟩ (.int .i64 n)).putObj W2.heap.size (.deferred none)).cell? ⟨w.heap.size+2,0,none⟩=some (.int .i64 n):=
   (World.cell?_of_block (World.putObj_heap_other (by simp;omega))).trans (World.cell?_setCell_same _ _ _ (uh HY4))
  have hfr:Fr (fun _=>False) w ((W.setCell ⟨w.heap.size+2,0,none⟩ (.int .i64 n)).putObj W2.heap.size (.deferred none)):=((uh HF4).setCell (.inr (by simp)) _).putObj (.inr (by omega)) _
  generalize (W.setCell ⟨w.heap.size+2,0,none⟩ (.int .i64 n)).putObj W2.heap.size (.deferred none)=W5 at *
  refine⟨.int .i64 n,?_,rfl,hfr⟩
  simp[results,Tryz.results165,go_sem,hc2]
end
end
def wcells (xs:List (Int×Int)):List Value:=xs.flatMap fun x=>[.int .i64 x.1,u64 x.2]
theorem wcells_app (xs ys:List (Int×Int)):wcells (xs ++ ys)=wcells xs ++ wcells ys:=by simp[wcells]
theorem wcells_at (xs:List (Int×Int)):∀k x,xs[k]? = some x->(wcells xs)[k * 2]? = some (.int .i64 x.1)/\(wcells xs)[k * 2+1]? = some (u64 x.2):=by
 induction xs with
 | nil=>intro k x h;simp at h
 | cons y xs ih=>
  intro k x h
  have e:wcells (y :: xs) = .int .i64 y.1 :: u64 y.2 :: wcells xs:=by simp[wcells]
  cases k with
  | zero=>
   obtain rfl:y=x:=by simpa using h
   rw[e];exact⟨rfl,rfl⟩
  | succ k=>
   have:=ih k x (by simpa using h)
   rw[e,show(k+1) * 2=k * 2+1+1 by omega,show k * 2+1+1+1=(k * 2+1)+1+1 by omega]
   simpa using this
theorem owns_wr {w:World} {base g n cap:Nat} {xs:List (Int×Int)} (h:w.ownsRow base 161 2 (.slice (some ⟨g,0,none⟩) n cap) xs.length (wcells xs)):WrAt w g 0 xs:=by
 rcases h.2 with ⟨hn,_⟩ | ⟨g',cap',cur,hv,_,hb,_,_,_,h4⟩
 ·cases hn
 cases hv
 intro k x hx
 obtain⟨c1,c2⟩:=wcells_at xs k x hx
 have hk:k<xs.length:=(List.getElem?_eq_some_iff.1 hx).1
 have get:∀j v,j<xs.length * 2->(wcells xs)[j]? = some v->cur[j]? = some v:=fun j v hj hv=>by
  rw[<-h4,List.getElem?_take_of_lt hj] at hv
  rwa [Array.getElem?_toList] at hv
 rw[Nat.zero_add]
 exact⟨(cell_of_row _ _ _ _ _ _ hb).trans (get _ _ (by omega) c1),(cell_of_row _ _ _ _ _ _ hb).trans (get _ _ (by omega) c2)⟩
theorem pair_news (w:World) (x y:Int) (t:TypeId) (j:Nat) (u:Value) (h:([.int .i64 x,u64 y]:List Value)[j]? = some u):(w.alloc (.cells #[.int .i64 x,u64 y] t)).cell? ((⟨w.heap.size,0,none⟩:Addr).add j)=some u:=by
 have hadd:(⟨w.heap.size,0,none⟩:Addr).add j=⟨w.heap.size,j,none⟩:=by unfold Addr.add;split <;> simp_all
 rw[hadd,cell_of_row _ _ _ _ _ _ (heap_alloc_new w _)]
 simpa using h
theorem On.turn {w0 w w':World} {b:Nat} {L0 L:Lay} {A:Ab} (h:On w0 b L0 w L A) {F:Nat->Prop} (hf:Fr F w w') (h1:∀k,F k->¬foot b L k) (h2:∀k,F k->w0.heap.size<=k):On w0 b L0 w' L A:=
 ⟨h.d.kept hf (fun k hk e=>h1 k e hk),h.fr.trans' hf (fun k e=>.inr (h2 k e)),h.sub⟩
theorem On.apart {w0 w:World} {b:Nat} {L0 L:Lay} {A:Ab} (h:On w0 b L0 w L A) {r:Nat} (hr:r<w0.heap.size) (hn:¬foot b L0 r):¬foot b L r:=h.other hr hn
theorem info_wr:(Tryz.prog.info? 161).map (fun i=>(i.zero,i.size,i.bytes))=some (some (.agg #[.int .i64 0,.int .u64 0]),2,16):=by kernel_rfl
structure Box (w:World) (r:Nat) (v:Value):Prop where
 c:w.cell? ⟨r,0,none⟩=some v
 z:w.frozen? ⟨r,0,none⟩=false
 lt:r<w.heap.size
theorem Box.new (w:World) (v:Value) (t:TypeId):Box (w.alloc (.cells #[v] t)) w.heap.size v:=by
 have h:=heap_alloc_new w (.cells #[v] t)
 exact⟨by unfold World.cell?;rw[h];rfl,by unfold World.frozen?;rw[h];rfl,by simp⟩
theorem Box.kept {w w':World} {F:Nat->Prop} {r:Nat} {v:Value} (h:Box w r v) (f:Fr F w w') (n:¬F r):Box w' r v:=
 ⟨f.cell' h.c n,(f.frozen h.lt n).trans h.z,Nat.lt_of_lt_of_le h.lt f.size⟩
theorem Box.alloc {w:World} {r:Nat} {v:Value} (h:Box w r v) (o:Obj):Box (w.alloc o) r v:=h.kept ((Fr.refl (fun _=>False) w).alloc o) id
theorem Box.other {w:World} {r:Nat} {v:Value} (h:Box w r v) {a:Addr} (ha:r≠a.block) (u:Value):Box (w.setCell a u) r v:=
 h.kept ((Fr.refl (fun k=>k=a.block) w).setCell (.inl rfl) u) ha
theorem Box.set {w:World} {r:Nat} {v:Value} (h:Box w r v) (u:Value):Box (w.setCell ⟨r,0,none⟩ u) r u:=
 ⟨World.cell?_setCell_same _ _ _ h.c,by rw[World.frozen?_setCell];exact h.z,by simpa using h.lt⟩
abbrev St (w w':World):Prop:=Fr (fun _=>False) w w'
theorem Fr.obj {F:Nat->Prop} {w w':World} (h:Fr F w w') {k:Nat} {o:Obj} (hv:w.heap[k]? = some o) (hF:¬F k):w'.heap[k]? = some o:=
 (h.block k (by rcases Nat.lt_or_ge k w.heap.size with hk | hk;exact hk;rw[Array.getElem?_eq_none hk] at hv;cases hv) hF).trans hv
theorem cOo {w:World} {k:Nat} {cs:Array Value} {t:Nat} {z:Nat×Nat} (h:w.heap[k]? = some (.cells cs t z)) (i:Nat):w.cell? ⟨k,i,none⟩=cs[i]?:=by
 simp[World.cell?,h]
theorem frozen_of_obj {w:World} {k:Nat} {cs:Array Value} {t:Nat} (h:w.heap[k]? = some (.cells cs t)) (i:Nat):w.frozen? ⟨k,i,none⟩=false:=by
 simp[World.frozen?,h]
structure How where
 o:Option (Nat×Value)
abbrev How.well:How:=⟨none⟩
abbrev How.bad (t:Nat) (x:Value):How:=⟨some (t,x)⟩
abbrev How.errno (i:Int):How:=.bad 28 (.int .i64 i)
abbrev How.lost:How:=.bad 133 (.agg #[])
theorem How.byCases {motive:How->Prop} (h:How) (well:motive .well) (bad:∀t x,motive (.bad t x)):motive h:=by
 obtain⟨o⟩:=h
 rcases o with _ | ⟨t,x⟩
 ·exact well
 ·exact bad t x
def How.v (h:How):Value:=
 match h.o with
 | none=>.nilIface
 | some (t,x)=>.iface t x
def How.is (h:How):Bool:=
 match h.o with
 | none=>false
 | some _=>true
def How.ended (h:How) (e:Ending):Prop:=
 match h.o with
 | none=>e = .returned (.tuple #[])
 | some (t,x)=>∃older,(∀y∈older,y.goexit=false)/\e = .panicked ({ v:=.iface t x,recovered:=false } :: older)
theorem How.ended_one (t:Nat) (x:Value):(How.bad t x).ended (.panicked [{ v:=.iface t x,recovered:=false }]):=⟨[],by simp,rfl⟩
def Acts (f:Value) (w:World) (R:How->World->Prop):Prop:=
 (f = .nilFunc/\R .well w)\/∃g first cap,f = .func (.func g) first cap/\Enters g/\Calls Tryz.prog g (first ++ cap) w fun e w'=>∃h,h.ended e/\R h w'
theorem Acts.mono {f:Value} {w:World} {R R':How->World->Prop} (h:Acts f w R) (hr:∀h w',R h w'->R' h w'):Acts f w R':=by
 rcases h with ⟨rfl,h⟩ | ⟨g,first,cap,rfl,he,h⟩
 ·exact .inl ⟨rfl,hr _ _ h⟩
 ·exact .inr ⟨g,first,cap,rfl,he,h.mono fun e w' ⟨x,h1,h2⟩=>⟨x,h1,hr _ _ h2⟩⟩
theorem acts_of {g:Nat} {first cap:Array Value} {w:World} {R:How->World->Prop} (he:Enters g) (h:Calls Tryz.prog g (first ++ cap) w fun e w'=>∃h,h.ended e/\R h w'):Acts (.func (.func g) first cap) w R:=
 .inr ⟨g,first,cap,rfl,he,h⟩
theorem settle_bad {t:Nat} {x:Value} {older:List PanicEntry} (h:∀y∈older,y.goexit=false):settle (.panicking ({ v:=.iface t x,recovered:=true } :: older)) = .returning:=by
 have e:older.dropWhile (fun y=>!y.goexit) = []:=by
  induction older with
  | nil=>rfl
  | cons a l ih=>rw[List.dropWhile_cons_of_pos (by simp[h a (by simp)])];exact ih fun y hy=>h y (by simp[hy])
 simp[settle,e]
theorem mf (fn:Fn) (first cap:Array Value) (w:World):(Instr.makeFunc fn first cap).run Tryz.prog w = .ok (.func fn first cap) w:=rfl
theorem nn_some (fn:Fn) (first cap:Array Value) (w:World):(binOp .neq 1 (.func fn first cap) .nilFunc).run Tryz.prog w = .ok (.bool true) w:=by kernel_rfl
theorem nn_nil (w:World):(binOp .neq 1 .nilFunc .nilFunc).run Tryz.prog w = .ok (.bool false) w:=by kernel_rfl
theorem call_nil (w:World):Calls Tryz.prog 126 #[.nilFunc] w fun e w'=>e = .returned (.tuple #[])/\w'=w:=by
 have h1:=nn_nil
 go_enter Tryz.func126,Tryz.ntmps126
 go_wp2
 go_end0
 exact⟨rfl,rfl⟩
theorem call_some {g:Nat} (hg:Enters g) {first cap:Array Value} {w:World} {R:How->World->Prop} (hf:Calls Tryz.prog g (first ++ cap) w fun e w'=>∃h,h.ended e/\R h w') :
  Calls Tryz.prog 126 #[.func (.func g) first cap] w fun e w'=>∃h,h.ended e/\R h w':=by
 have HF:=Hd hf;clear hf
 have h1:=nn_some
 unfold Enters at hg
 go_enter Tryz.func126,Tryz.ntmps126
 go_wp2_with fail
 refine(uh HF).mono ?_
 rintro e w1 ⟨h,he,hR⟩
 have HR:=Hd hR;clear hR HF
 cases h using How.byCases with
 | well=>
  cases he
  go_wp2
  go_end0
  exact⟨.well,rfl,uh HR⟩
 | bad t x=>
  obtain⟨older,ho,rfl⟩:=he
  exact⟨rfl,.bad t x,⟨older,ho,rfl⟩,uh HR⟩
theorem call_acts {f:Value} {w:World} {R:How->World->Prop} (h:Acts f w R):Calls Tryz.prog 126 #[f] w fun e w'=>∃h,h.ended e/\R h w':=by
 rcases h with ⟨rfl,h⟩ | ⟨g,first,cap,rfl,he,h⟩
 ·exact(call_nil w).mono fun e w' ⟨h1,h2⟩=>⟨.well,h1,h2▸h⟩
 ·exact call_some he h
theorem try1_idle (p:Addr) (v:Value) (w:World) (hc:w.cell? p=some v) (hz:w.frozen? p=false) :
  CallsD Tryz.prog 125 #[.pointer (some p)] .returning w fun e u' w'=>e = .returned (.tuple #[])/\u' = .returning/\w'=w.setCell p .nilIface:=by
 refine callsD_of_wpS Tryz.func125 rfl fun c₀ cs hu=>?_
 apply wpS_region
 simp[wpOpsS,go_sem,recoverD,hu,Tryz.ntmps125,hc,hz,Oper.upon]
 cases c₀
 simp_all [bodyPostS,results,Tryz.results125]
theorem try1_bad (p:Addr) (v:Value) (t:Nat) (x:Value) (older:List PanicEntry) (w:World) (hc:w.cell? p=some v) (hz:w.frozen? p=false) :
  CallsD Tryz.prog 125 #[.pointer (some p)] (.panicking ({ v:=.iface t x,recovered:=false } :: older)) w fun e u' w'=>
   e = .returned (.tuple #[])/\u' = .panicking ({ v:=.iface t x,recovered:=true } :: older)/\w'=w.setCell p (.iface t x):=by
 refine callsD_of_wpS Tryz.func125 rfl fun c₀ cs hu=>?_
 apply wpS_region
 simp[wpOpsS,go_sem,recoverD,hu,Tryz.ntmps125,hc,hz,Oper.upon]
 cases c₀
 simp_all [bodyPostS,results,Tryz.results125]
abbrev box:Obj:=.cells #[.nilIface] 20
theorem try_raw {f:Value} {w:World} {R:How->World->Prop}
  (hf:Acts f (w.alloc box) fun h w1=>w1.heap[w.heap.size]? = some box/\∀w2,Fr (fun k=>k=w.heap.size) w1 w2->R h w2) :
  Calls Tryz.prog 80 #[f] w fun e w'=>∃h,e = .returned (.tuple #[h.v,.bool h.is])/\R h w':=by
 have K:=call_acts hf
 clear hf
 have h1:=mf
 have HK:=Hd K;clear K
 go_enter_defers Tryz.func80,Tryz.ntmps80
 go_wp2_with fail
 refine(uh HK).mono ?_
 rintro e w1 ⟨h,he,hb,hR⟩
 have HR:=Hd hR;clear hR HK
 have hc:=cOo hb 0
 have hz:=frozen_of_obj hb 0
 cases h using How.byCases with
 | well=>
  cases he
  go_wp2
  have hc1:=World.cell?_setCell_same w1 ⟨w.heap.size,0,none⟩ .nilIface hc
  refine leaves_cons (f:=125) (args:=#[ptr w.heap.size]) (by simp) (by simp[go_sem]) ?_
  refine(try1_idle ⟨w.heap.size,0,none⟩ _ _ hc1 (by simpa using hz)).mono ?_
  rintro e u' w' ⟨rfl,rfl,rfl⟩
  have hc2:=World.cell?_setCell_same _ ⟨w.heap.size,0,none⟩ .nilIface hc1
  refine⟨.tuple #[.nilIface,.bool false],?_,.well,rfl,?_⟩
  ·simp[results,Tryz.results80,go_sem,hc2]
  ·exact uh HR _ (((Fr.refl (fun k=>k=w.heap.size) w1).setCell (.inl rfl) _).setCell (.inl rfl) _)
 | bad t x=>
  obtain⟨older,ho,rfl⟩:=he
  go_wp2
  refine leaves_cons (f:=125) (args:=#[ptr w.heap.size]) (by simp) (by simp[go_sem]) ?_
  refine(try1_bad ⟨w.heap.size,0,none⟩ _ t x older _ hc hz).mono ?_
  rintro e u' w' ⟨rfl,rfl,rfl⟩
  have hc2:=World.cell?_setCell_same _ ⟨w.heap.size,0,none⟩ (.iface t x) hc
  simp only[settle_bad ho]
  refine⟨.tuple #[.iface t x,.bool true],?_,.bad t x,rfl,?_⟩
  ·simp[results,Tryz.results80,go_sem,hc2]
  ·exact uh HR _ ((Fr.refl (fun k=>k=w.heap.size) w1).setCell (.inl rfl) _)
theorem try_fr {f:Value} {w:World} {F:Nat->Prop} {S:How->World->Prop} (hF:∀k,F k->k<w.heap.size)
  (hf:Acts f (w.alloc box) fun h w1=>Fr F (w.alloc box) w1/\∀w2,Fr (fun k=>k=w.heap.size) w1 w2->S h w2) :
  Calls Tryz.prog 80 #[f] w fun e w'=>∃h,e = .returned (.tuple #[h.v,.bool h.is])/\S h w':=by
 refine try_raw (hf.mono fun h w1 ⟨fr,hS⟩=>⟨?_,fun w2 f2=>hS w2 f2⟩)
 exact fr.obj (heap_alloc_new w box) fun h=>Nat.lt_irrefl _ (hF _ h)
theorem taL_lost (w:World):(Instr.typeAssert (.iface 133 (.agg #[])) 20 133 true).run Tryz.prog w = .ok (.tuple #[.agg #[],.bool true]) w:=by kernel_rfl
theorem onlyL_raw {f:Value} {w:World} {R:How->World->Prop} (K:∀w0,St w w0->Calls Tryz.prog 80 #[f] w0 fun e w'=>∃h,e = .returned (.tuple #[h.v,.bool h.is])/\R h w') (hk:∀h w',R h w'->h = .well\/h = .lost) :
  Calls Tryz.prog 82 #[f] w fun e w'=>∃w1,St w1 w'/\((e = .returned (.tuple #[.agg #[],.bool false])/\R .well w1)\/(e = .returned (.tuple #[.agg #[],.bool true])/\R .lost w1)):=by
 have HK:=Hd (K _ ((Fr.refl _ w).alloc (.cells #[] 133)));clear K
 have a1:=taL_lost
 go_enter Tryz.func82,Tryz.ntmps82
 go_wp2_with fail
 refine(uh HK).mono ?_
 rintro e w1 ⟨h,rfl,hR⟩
 have hK:=hk _ _ hR
 have HR:=Hd hR;clear hR HK hk
 rcases hK with rfl | rfl
 ·simp only[How.v,How.is]
  go_wp2
  refine bodyPost_ret (v:=.tuple #[.agg #[],.bool false]) (by simp[results,Tryz.results82,go_sem,loadVar]) rfl ?_
  exact⟨w1,Fr.refl _ _,.inl ⟨rfl,uh HR⟩⟩
 ·simp only[How.v,How.is]
  go_wp2
  refine bodyPost_ret (v:=.tuple #[.agg #[],.bool true]) (by simp[results,Tryz.results82,go_sem,loadVar]) rfl ?_
  exact⟨w1,(Fr.refl _ w1).alloc _,.inr ⟨rfl,uh HR⟩⟩
theorem onlyL_two {f:Value} {w:World} {R0 R1:World->Prop} (K:∀w0,St w w0->Calls Tryz.prog 80 #[f] w0 fun e w'=>∃h:How,e = .returned (.tuple #[h.v,.bool h.is])/\((h = .well/\R0 w')\/(h = .lost/\R1 w'))) :
  Calls Tryz.prog 82 #[f] w fun e w'=>∃w1,St w1 w'/\((e = .returned (.tuple #[.agg #[],.bool false])/\R0 w1)\/(e = .returned (.tuple #[.agg #[],.bool true])/\R1 w1)):=by
 refine(onlyL_raw K (fun h w' x=>x.imp (fun y=>y.1) (fun y=>y.1))).mono ?_
 rintro e w' ⟨w1,f1,⟨rfl,x⟩ | ⟨rfl,x⟩⟩
 ·refine⟨w1,f1,.inl ⟨rfl,?_⟩⟩
  rcases x with ⟨_,x⟩ | ⟨e,_⟩
  ·exact x
  ·injection e with e;cases e
 ·refine⟨w1,f1,.inr ⟨rfl,?_⟩⟩
  rcases x with ⟨e,_⟩ | ⟨_,x⟩
  ·injection e with e;cases e
  ·exact x
theorem each_two {lb:Nat} {f g:Value} {w:World} {I1 I2:World->Prop} {S:How->World->Prop}
  (c0:w.cell? ⟨lb,0,none⟩=some f) (hf:Calls Tryz.prog 80 #[f] w fun e w'=>∃h:How,e = .returned (.tuple #[h.v,.bool h.is])/\((h = .well/\w'.cell? ⟨lb,1,none⟩=some g/\I1 w')\/(h.is=true/\S h w')))
  (hg:∀w1,I1 w1->Calls Tryz.prog 80 #[g] w1 fun e w'=>∃h:How,e = .returned (.tuple #[h.v,.bool h.is])/\((h = .well/\I2 w')\/(h.is=true/\S h w'))) :
  Calls Tryz.prog 40 #[.slice (some ⟨lb,0,none⟩) 2 2] w fun e w'=>∃k:Int,(e = .returned (.tuple #[.int .i64 k,.nilIface])/\I2 w')\/∃h:How,e = .returned (.tuple #[.int .i64 k,h.v])/\S h w':=by
 have HF:=Hd hf;have HG:=@Hd _ hg;have HC:=Hd c0
 clear hf hg c0
 go_enter Tryz.func40,Tryz.ntmps40
 go_wp2
 go_loopw [2,10] (fun d i wr=>(d = .int .i64 0/\i = .int .i64 0/\wr=w)\/(d = .int .i64 1/\i = .int .i64 1/\wr.cell? ⟨lb,1,none⟩=some g/\I1 wr)\/(d = .int .i64 2/\i = .int .i64 2/\I2 wr)) (fun d i wr=>2 - (intOf i).toNat)
 case atStart=>exact .inl ⟨rfl,rfl,rfl⟩
 case round=>
  rcases hrel with ⟨rfl,rfl,hw⟩ | ⟨rfl,rfl,c,hI⟩ | ⟨rfl,rfl,hI⟩
  ·subst hw
   have c:=uh HC
   clear HC
   go_wp2_with fail
   refine(uh HF).mono ?_
   clear HF
   rintro e w1 ⟨h,rfl,hh | hh⟩
   ·obtain⟨rfl,c1,hI⟩:=hh
    simp only[How.v,How.is]
    have HI:=Hd (ai c1 hI)
    clear hI c c1
    go_wp2
    go_roundw
    case rel=>exact .inr (.inl ⟨rfl,rfl,uh HI⟩)
    case measure=>simp[intOf]
   ·obtain⟨hi,hs⟩:=hh
    rw[hi]
    generalize hv:h.v=v
    have HV:=Hd hv;have HS:=Hd hs
    clear hs hv c hi
    go_wp2
    go_ret2
    exact⟨_,.inr ⟨h,by rw[uh HV];rfl,uh HS⟩⟩
  ·have K:=Hd (uh HG wr hI)
   clear hI HF HG HC
   go_wp2_with fail
   refine(uh K).mono ?_
   clear K
   rintro e w1 ⟨h,rfl,hh | hh⟩
   ·obtain⟨rfl,hI⟩:=hh
    simp only[How.v,How.is]
    have HI:=Hd hI
    clear hI c
    go_wp2
    go_roundw
    case rel=>exact .inr (.inr ⟨rfl,rfl,uh HI⟩)
    case measure=>simp[intOf]
   ·obtain⟨hi,hs⟩:=hh
    rw[hi]
    generalize hv:h.v=v
    have HV:=Hd hv;have HS:=Hd hs
    clear hs hv c hi
    go_wp2
    go_ret2
    exact⟨_,.inr ⟨h,by rw[uh HV];rfl,uh HS⟩⟩
  ·have HI:=Hd hI
   clear hI HF HG HC
   go_wp2
   go_ret2
   exact⟨_,.inl ⟨rfl,uh HI⟩⟩
def Nats (k:IntKind) (w:World) (a:Option Addr) (len:Nat) (b:Nat->Nat):Prop:=∀i,i<len->∃xb xo,a=some ⟨xb,xo,none⟩/\w.cell? ⟨xb,xo+i,none⟩=some (.int k (b i:Nat))
theorem Nats.on {k:IntKind} {w w':World} {a:Option Addr} {len:Nat} {b:Nat->Nat} (h:Nats k w a len b) (bl:Below w.heap.size w w'):Nats k w' a len b:=by
 intro i hi
 obtain⟨xb,xo,e,c⟩:=h i hi
 exact⟨xb,xo,e,(bl.cell (World.block_lt_of_cell? w _ c)).trans c⟩
theorem Nats.to {k:IntKind} {w:World} {a:Option Addr} {len n:Nat} {b:Nat->Nat} (h:Nats k w a len b) (hn:n<=len):Nats k w a n b:=fun i hi=>h i (by omega)
theorem Nats.drewN {k:IntKind} {w:World} {a:Option Addr} {len:Nat} {b:Nat->Nat} (h:Nats k w a len b) (n:Nat):Nats k (w.drewN n) a len b:=h
theorem Below.drewN' {B:Nat} {a w:World} (h:Below B a w) (n:Nat):Below B a (w.drewN n):=⟨h.os,h.tape,h.output,h.size,h.block⟩
theorem Below.up {B:Nat} {a b c:World} (h:Below a.heap.size a b) (k:Below B b c) (hB:a.heap.size<=B):Below a.heap.size a c:=h.trans (k.mono hB)
structure Mem (k:IntKind) (w:World) (g n:Nat) (f:Nat->Nat) (wr:World):Prop where
 cell:∀i,i<n->wr.cell? ⟨g,i,none⟩=some (.int k (f i:Nat))
 fz:∀i,wr.frozen? ⟨g,i,none⟩=false
 bel:Below w.heap.size w wr
 ge:w.heap.size<=g
theorem Mem.nats {k:IntKind} {w wr:World} {g n:Nat} {f:Nat->Nat} (h:Mem k w g n f wr):Nats k wr (some ⟨g,0,none⟩) n f:=fun i hi=>⟨g,0,rfl,by rw[Nat.zero_add];exact h.cell i hi⟩
theorem Mem.drewN {k:IntKind} {w wr:World} {g n:Nat} {f:Nat->Nat} (h:Mem k w g n f wr) (q:Nat):Mem k w g n f (wr.drewN q):=⟨h.cell,h.fz,⟨h.bel.os,h.bel.tape,h.bel.output,h.bel.size,h.bel.block⟩,h.ge⟩
theorem Mem.set {k:IntKind} {w wr:World} {g n:Nat} {f:Nat->Nat} (h:Mem k w g n f wr) (i v:Nat) (hi:i<n):Mem k w g n (fun j=>if j=i then v else f j) (wr.setCell ⟨g,i,none⟩ (.int k (v:Nat))):=by
 refine⟨fun j hj=>?_,fun j=>by rw[World.frozen?_setCell];exact h.fz j,h.bel.setCell h.ge _,h.ge⟩
 by_cases e:j=i
 ·subst e;rw[World.cell?_setCell_same _ _ _ (h.cell j hj)];simp
 ·rw[World.cell?_setCell_other _ _ _ _ (fun x=>e (by injection x with _ x;exact x.symm)),h.cell j hj];simp[e]
theorem Mem.ext {k:IntKind} {w wr:World} {g n:Nat} {f f':Nat->Nat} (h:Mem k w g n f wr) (e:∀i,i<n->f i=f' i):Mem k w g n f' wr:=⟨fun i hi=>by rw[h.cell i hi,e i hi],h.fz,h.bel,h.ge⟩
theorem Mem.since {k:IntKind} {w0 w wr:World} {g n:Nat} {f:Nat->Nat} (h:Mem k w g n f wr) (b:Below w0.heap.size w0 w):Mem k w0 g n f wr:=⟨h.cell,h.fz,b.trans (h.bel.mono b.size),Nat.le_trans b.size h.ge⟩
end Go.Proofs.YtbiopjmpdhcjgaaGreatDoor
