/- Joined: Vf Ka Kc Kd. -/
import Derived.Test.YtbiopjmpdhcjgaaGreatDoorZ25
import Derived.Test.YtbiopjmpdhcjgaaGreatDoorZ26
import Derived.Test.YtbiopjmpdhcjgaaGreatDoorZ27
namespace Go.Proofs.YtbiopjmpdhcjgaaGreatDoor
open Go.RowKit
set_option maxHeartbeats 4000000

section
attribute [local go_sem] Oper.semAt_some
def rgP (L:List Pr) (x hi:ByteArray) (n:Int):List Pr:=((geP x L).takeWhile fun p=>decide (hi.size=0\/ltK p.1 hi)).take n.toNat
theorem wpListIn_append_run {F:Fence} {nF:Nat} {P:Program} {w:World} {ops:Array Oper} {rest:List Oper} {o:Oper} {a:Act} {Q:Exit->Act->World->Prop} (hgd:o.guard=none) (s x:Operand) (t:TypeId)
  (ho:o.op = .call { callee:=.builtin .append,args:=#[s,x],argTypes:=#[t,t] }) (vs vx:Value) (hs:a.eval s=vs) (hx:a.eval x=vx) (v':Value) (w':World) (hr:(Builtin.append_ #[t,t] o.type #[vs,vx]).run P w = .ok v' w')
  (h:wpListIn F nF P ops Q rest (a.put o.dst v') w'):wpListIn F nF P ops Q (o :: rest) a w:=by
 refine wpListIn_plain hgd fun K hK=>?_
 unfold Oper.wpIn
 refine⟨by simp[Oper.about,ho,resolve,Target.leads,Sem.run_pure],?_⟩
 rw[Oper.semAt_plain F _ _ (by rw[ho];intro c hc';cases hc')]
 simp[execOp,ho,resolve,invoke,builtin,hs,hx,hr,Result.andThen]
 exact hK _ _ h
theorem tw_split {M:List Pr} {c:Pr->Bool} {k:Nat} (h:∀p∈M.take k,c p=true):M.takeWhile c=M.take k ++ (M.drop k).takeWhile c:=by
 conv=>lhs;rw[<-List.take_append_drop k M]
 exact List.takeWhile_append_of_pos h
theorem rg_stop {L:List Pr} {x hi:ByteArray} {n:Int} {k:Nat} {p:Pr} (h:∀p∈(geP x L).take k,hi.size=0\/ltK p.1 hi) (hp:(geP x L)[k]? = some p) (hno:¬(hi.size=0\/ltK p.1 hi)) (hk:(k:Int)<n):rgP L x hi n=(geP x L).take k:=by
 unfold rgP
 obtain⟨h1,h2⟩:=List.getElem?_eq_some_iff.1 hp
 rw[tw_split (k:=k) (fun q hq=>decide_eq_true (h q hq)),List.drop_eq_getElem_cons h1,h2,List.takeWhile_cons_of_neg (by rw[decide_eq_false hno];decide),List.append_nil]
 exact List.take_of_length_le (by rw[List.length_take];omega)
theorem rg_full {L:List Pr} {x hi:ByteArray} {n:Int} {k:Nat} (h:∀p∈(geP x L).take k,hi.size=0\/ltK p.1 hi) (hl:k<=(geP x L).length) (hk:(k:Int)=n):rgP L x hi n=(geP x L).take k:=by
 unfold rgP
 rw[tw_split (k:=k) (fun q hq=>decide_eq_true (h q hq)),List.take_append_of_le_length (by rw[List.length_take];omega)]
 exact List.take_of_length_le (by rw[List.length_take];omega)
theorem rg_all {L:List Pr} {x hi:ByteArray} {n:Int} (h:∀p∈geP x L,hi.size=0\/ltK p.1 hi) (hk:((geP x L).length:Int)<=n):rgP L x hi n=geP x L:=by
 unfold rgP
 have:=tw_split (M:=geP x L) (k:=(geP x L).length) (c:=fun p=>decide (hi.size=0\/ltK p.1 hi)) (fun q hq=>decide_eq_true (h q (List.mem_of_mem_take hq)))
 rw[this,List.take_length,List.drop_length]
 rw[List.takeWhile_nil,List.append_nil]
 exact List.take_of_length_le (by omega)
theorem nil_of {x:ByteArray} (h:x.size=0):x.toList = []:=by
 rw[Lib.toList_data]
 exact List.length_eq_zero_iff.1 h
theorem not_nil {x:ByteArray} (h:x.size≠0):x.toList.isEmpty=false/\(x.toList = [])=False:=by
 have h1:x.toList ≠ []:=fun e=>h (by rw[Lib.toList_data] at e;exact List.length_eq_zero_iff.2 e)
 exact⟨by cases hx:x.toList with
  | nil=>exact absurd hx h1
  | cons a r=>rfl,eq_false h1⟩
theorem rg_more {M:List Pr} {hi:ByteArray} {k:Nat} {p:Pr} (h:∀q∈M.take k,hi.size=0\/ltK q.1 hi) (hp:M[k]? = some p) (hlo:hi.size=0\/ltK p.1 hi):∀q∈M.take (k+1),hi.size=0\/ltK q.1 hi:=fun q hq=>by
 rw[List.take_add_one,hp] at hq
 rcases List.mem_append.1 hq with hq | hq
 ·exact h q hq
 ·rw[List.mem_singleton.1 hq]
  exact hlo
theorem row_lo {w:World} {lo lo':Nat} {e:TypeId} {size:Nat} {v:Value} {n:Nat} {xs:List Value} (h:w.ownsRow lo e size v n xs) (hl:lo'<=lo):w.ownsRow lo' e size v n xs:=
 ⟨h.1,h.2.imp id fun⟨g,cap,cur,h1,h2,h3⟩=>⟨g,cap,cur,h1,Nat.le_trans hl h2,h3⟩⟩
theorem ge_len (x:ByteArray) (L:List Pr):(geP x L).length<=L.length:=List.length_filter_le _ _
theorem elt_Q:ElT 43 33 2:=elt_of (z:=.agg #[.string ⟨#[]⟩,.int .u64 0]) (bytes:=24) (by kernel_rfl) (by decide) (by decide) (by decide) Tryz.underlying33
structure RgJ (g:Nat) (hi:ByteArray) (n:Int) (M:List Pr) (k:Nat) (G:Nat->Prop) (W:World):Prop where
 ex:∃v,W.heap[g+2]? = some (.cells #[v] 33 (0,0))/\W.ownsRow (g+8) 43 2 v k (pcl (M.take k))/\∀b,v.ownBlock=some b->G b
 inc:G g/\G (g+1)/\G (g+2)
 out:∀b,G b->b<W.heap.size/\(b=g\/b=g+1\/b=g+2\/g+8<=b)
 bh:W.cell? ⟨g,0,none⟩=some (.string hi)
 bn:W.cell? ⟨g+1,0,none⟩=some (.int .i64 n)
 lo:∀p∈M.take k,hi.size=0\/ltK p.1 hi
 lt:(k:Int)<n
 sz:g+8<=W.heap.size
theorem RgJ.kept {g:Nat} {hi:ByteArray} {n:Int} {M:List Pr} {k:Nat} {G O:Nat->Prop} {W W':World} (h:RgJ g hi n M k G W) (f:Fr O W W') (ho:∀b,O b->¬G b):RgJ g hi n M k G W':=by
 obtain⟨v,o,row,hv⟩:=h.ex
 exact⟨⟨v,f.obj o (fun x=>ho _ x h.inc.2.2),owns_same row (fun k hk=>f.block k (row.lt k hk).2 (fun x=>ho _ x (hv k hk))),hv⟩,h.inc,fun b hb=>⟨Nat.lt_of_lt_of_le (h.out b hb).1 f.size,(h.out b hb).2⟩,f.cell' h.bh (fun x=>ho _ x h.inc.1),f.cell' h.bn (fun x=>ho _ x h.inc.2.1),h.lo,h.lt,Nat.le_trans h.sz f.size⟩
theorem RgJ.nopair {g:Nat} {hi:ByteArray} {n:Int} {M:List Pr} {k:Nat} {G:Nat->Prop} {W:World} (h:RgJ g hi n M k G W):∀b,pair (g+6) b->¬G b:=fun b hb hG=>by
 have:=(h.out b hG).2
 unfold pair at hb
 omega
def RgE (g:Nat) (R:List Pr) (c:Code) (W:World):Prop:=c = .exit 0/\∃v,W.heap[g+2]? = some (.cells #[v] 33 (0,0))/\W.ownsRow (g+8) 43 2 v R.length (pcl R)/\g+8<=W.heap.size
section
variable {nu sz:Nat} {hb sb b:Nat} {T:Tay} {A:Ab} {P:List (Int×Int)}
set_option maxRecDepth 100000 in
theorem y_Walk (sv:Value) (r:Nat) (x:ByteArray) (w:World) (hsv:sv=ptr sb):Calls Tryz.prog 24 #[sv,.int .u64 (r:Nat),.string x] w fun e w'=>e = .returned (.func (.func 63) #[] #[ptr (w.heap.size+1+1),ptr w.heap.size,ptr (w.heap.size+1)])/\w'=((w.alloc (.cells #[ptr sb] 23)).alloc (.cells #[.int .u64 (r:Nat)] 27)).alloc (.cells #[.string x] 9):=by
 subst hsv
 go_enter Tryz.func24,Tryz.ntmps24
 go_wp2_with fail
 go_ret
 exact⟨rfl,rfl⟩
set_option maxRecDepth 100000 in
theorem y_Range {w:World} (h:Hp nu sz w hb sb b T A P) {r:Nat} {L:List Pr} {Q:List Nat} (rt:Rt nu sz (says P A) r L Q) (ri:Rise L) (pk:Pok L) (x hi:ByteArray) (n:Int) (hn:1<=n) (hL:L.length<=100000) :
  Calls Tryz.prog 14 #[ptr sb,.int .u64 (r:Nat),.string x,.string hi,.int .i64 n] w fun e w'=>∃v,e = .returned v/\w'.ownsRow w.heap.size 43 2 v (rgP L x hi n).length (pcl (rgP L x hi n))/\St w w':=by
 have hn1:(n<1)=False:=by simp;omega
 have HC:=Hd (ai h (ai rt (ai ri (ai pk (ai hn hL)))))
 clear h rt ri pk hn hL
 have hwd:Fence.wide.depth=none:=rfl
 have hwf:∀f,Fence.wide.fn f:=fun _=>trivial
 refine calls_of_wpOf Tryz.func14 rfl ?_
 simp only[Tryz.ntmps14,List.size_toArray,List.length_cons,List.length_nil,Nat.reduceAdd,Nat.reduceSub,Array.replicate_succ,Array.replicate_zero,List.push_toArray,List.append_toArray,List.nil_append,List.cons_append]
 refine wpOf_seq (wpOf_of_wp ?_)
 go_wp2
 show wpOf _ _ _ _ _ _
 refine wpOf_seq (wpOf_of_wp ?_)
 go_wp2
 show wpOf _ _ _ _ _ _
 refine wpOf_seq (wpOf_of_wp ?_)
 go_wp2
 show wpOf _ _ _ _ _ _
 refine wpOf_seq (wpOf_seq (wpOf_of_wp ?_))
 go_wp2_with fail
 refine(y_Walk (ptr sb) r x _ rfl).mono ?_
 rintro e w' ⟨rfl,rfl⟩
 go_wp2_with fail
 obtain⟨w1,h1⟩:∃w1,w.alloc (.cells #[.string hi] 9)=w1:=⟨_,rfl⟩
 obtain⟨w2,h2⟩:∃w2,w1.alloc (.cells #[.int .i64 n] 3)=w2:=⟨_,rfl⟩
 obtain⟨w3,h3⟩:∃w3,w2.alloc (.cells #[.slice none 0 0] 33)=w3:=⟨_,rfl⟩
 obtain⟨w4,h4⟩:∃w4,w3.alloc (.cells #[ptr sb] 23)=w4:=⟨_,rfl⟩
 obtain⟨w5,h5⟩:∃w5,w4.alloc (.cells #[.int .u64 (r:Nat)] 27)=w5:=⟨_,rfl⟩
 obtain⟨wD,h6⟩:∃w6,w5.alloc (.cells #[.string x] 9)=w6:=⟨_,rfl⟩
 rw[h1,h2,h3,h4,h5,h6]
 have f0:St w w1:=h1▸(Fr.refl _ w).alloc _
 have f1:St w1 wD:=h6▸h5▸h4▸h3▸h2▸(((((Fr.refl _ w1).alloc _).alloc _).alloc _).alloc _).alloc _
 have f2:St w2 wD:=h6▸h5▸h4▸h3▸((((Fr.refl _ w2).alloc _).alloc _).alloc _).alloc _
 have f3:St w3 wD:=h6▸h5▸h4▸(((Fr.refl _ w3).alloc _).alloc _).alloc _
 have f4:St w4 wD:=h6▸h5▸((Fr.refl _ w4).alloc _).alloc _
 have f5:St w5 wD:=h6▸(Fr.refl _ w5).alloc _
 obtain⟨g,hg⟩:∃g,w.heap.size=g:=⟨_,rfl⟩
 have s1:w1.heap.size=g+1:=by rw[<-h1,World.size_alloc,hg]
 have s2:w2.heap.size=g+2:=by rw[<-h2,World.size_alloc,s1]
 have s3:w3.heap.size=g+3:=by rw[<-h3,World.size_alloc,s2]
 have s4:w4.heap.size=g+4:=by rw[<-h4,World.size_alloc,s3]
 have s5:w5.heap.size=g+5:=by rw[<-h5,World.size_alloc,s4]
 have s6:wD.heap.size=g+6:=by rw[<-h6,World.size_alloc,s5]
 have o1:wD.heap[g]? = some (.cells #[.string hi] 9 (0,0)):=f1.obj (by have:=heap_alloc_new w (.cells #[.string hi] 9);rwa [h1,hg] at this) id
 have o2:wD.heap[g+1]? = some (.cells #[.int .i64 n] 3 (0,0)):=f2.obj (by have:=heap_alloc_new w1 (.cells #[.int .i64 n] 3);rwa [h2,s1] at this) id
 have o3:wD.heap[g+2]? = some (.cells #[.slice none 0 0] 33 (0,0)):=f3.obj (by have:=heap_alloc_new w2 (.cells #[.slice none 0 0] 33);rwa [h3,s2] at this) id
 have o4:wD.heap[g+3]? = some (.cells #[ptr sb] 23 (0,0)):=f4.obj (by have:=heap_alloc_new w3 (.cells #[ptr sb] 23);rwa [h4,s3] at this) id
 have o5:wD.heap[g+4]? = some (.cells #[.int .u64 (r:Nat)] 27 (0,0)):=f5.obj (by have:=heap_alloc_new w4 (.cells #[.int .u64 (r:Nat)] 27);rwa [h5,s4] at this) id
 have o6:wD.heap[g+5]? = some (.cells #[.string x] 9 (0,0)):=by have:=heap_alloc_new w5 (.cells #[.string x] 9);rwa [h6,s5] at this
 have fD:St w wD:=f0.trans' f1 nE
 rw[hg]
 simp only[Nat.add_assoc,Nat.reduceAdd]
 have HO:=Hd (ai o1 (ai o2 (ai o3 (ai o4 (ai o5 (ai o6 (ai fD (ai s6 hg))))))))
 clear o1 o2 o3 o4 o5 o6 fD s1 s2 s3 s4 s5 f0 f1 f2 f3 f4 f5 h1 h2 h3 h4 h5 h6 w1 w2 w3 w4 w5 hn1
 refine wpOf_block (range_okG (gf:=63) (lb:=#[ptr (g+5),ptr (g+3),ptr (g+4)]) (N:=(geP x L).length) (enc:=wkE (geP x L)) rfl (fun _ _=>by kernel_rfl) ⟨_,Tryz.func14⟩ (fun k=>rfl) (Wkr hb sb b T (g+5) (g+3) (g+4)) (WkR nu sz hb sb b T A P x r (g+5) (g+3) (g+4)) (fun k=>k=g\/k=g+1\/k=g+2)
  (fun k G W=>RgJ g hi n (geP x L) k G W)
  (fun k G V a' W=>RgJ g hi n (geP x L) k G W/\Fr (pair (g+6)) V W/\∃(p:Pr) (q:Nat),(geP x L)[k]? = some p/\V.heap.size<=q/\g+8<=q/\¬G q/\W.heap[q]? = some (.cells #[.string p.1,.int .u64 (p.2:Nat)] 43 (0,0))/\a' = { tmps:=#[ptr sb,.int .u64 (r:Nat),.string x,.string hi,.int .i64 n,undef,undef,undef,ptr g,ptr (g+1),.slice none 0 0,ptr (g+2),ptr q,.int .i64 n,.bool false,ptr sb,.int .u64 (r:Nat),.string x,.func (.func 63) #[] #[ptr (g+5),ptr (g+3),ptr (g+4)],.agg #[.string p.1,.int .u64 (p.2:Nat)],undef,undef,undef,undef,undef,undef,undef,undef,undef,undef,undef,undef,undef,undef,undef,undef,undef],defers:=[] })
  (RgE g (rgP L x hi n)) (fun _ _=>False) ?hJ ?hJb ?hJO ?hJA ?hJr ?hseq ?h0 ?hG0 ?hS ?hassign ?hbody ?hdone ?hret (fun _ _ h _=>h.elim))
 case hJ=>intro k G W W' h f;rw[s6] at f;exact h.kept f h.nopair
 case hJb=>intro k G W h b hb;exact(h.out b hb).1
 case hJO=>intro k G O W W' h f ho;exact h.kept f (fun b hb hG=>ho b hb (.inl hG))
 case hJA=>
  rintro k G V a W W' ⟨h,fv,p,q,e1,e2,e3,e4,e5,rfl⟩ f
  rw[s6] at f
  exact⟨h.kept f h.nopair,fv.trans' f (fun k hk=>.inl hk),p,q,e1,e2,e3,e4,f.obj e5 (fun x=>by unfold pair at x;omega),rfl⟩
 case hJr=>
  rintro c W W' ⟨rfl,v,o,row,hs⟩ f
  rw[s6] at f
  exact⟨rfl,v,f.obj o (fun x=>by unfold pair at x;omega),owns_same row (fun k hk=>f.block k (row.lt k hk).2 (fun x=>by have:=(row.lt k hk).1;unfold pair at x;omega)),Nat.le_trans hs f.size⟩
 case hseq=>
  obtain⟨h,rt,ri,pk,hn,hL⟩:=uh HC
  exact w_iter rt ri pk x (g+5) (g+3) (g+4) (wD.heap.size+1)
 case h0=>
  intro ob1 ob2
  obtain⟨h,rt,ri,pk,hn,hL⟩:=uh HC
  obtain⟨o1,o2,o3,o4,o5,o6,fD,_,hg⟩:=uh HO
  have fo:St wD ((wD.alloc ob1).alloc ob2):=((Fr.refl _ wD).alloc ob1).alloc ob2
  have so:((wD.alloc ob1).alloc ob2).heap.size=g+8:=by rw[World.size_alloc,World.size_alloc,s6]
  refine⟨⟨⟨_,fo.obj o3 id,World.ownsRow_nil _ _ _ _,fun b hb=>by cases hb⟩,⟨.inl rfl,.inr (.inl rfl),.inr (.inr rfl)⟩,fun b hb=>?_,fo.cell' (cOo o1 0) id,fo.cell' (cOo o2 0) id,fun p hp=>by simp at hp,by simp;omega,by omega⟩,h.still (fD.trans' fo nE),fo.cell' (cOo o6 0) id,fo.cell' (cOo o4 0) id,fo.cell' (cOo o5 0) id⟩
  rcases hb with e | e | e
  ·exact⟨by omega,.inl e⟩
  ·exact⟨by omega,.inr (.inl e)⟩
  ·exact⟨by omega,.inr (.inr (.inl e))⟩
 case hG0=>
  intro k hk
  obtain⟨h,rt,ri,pk,hn,hL⟩:=uh HC
  obtain⟨o1,o2,o3,o4,o5,o6,fD,_,hg⟩:=uh HO
  have hh:=h.lth
  have h0:=h.lt0
  refine⟨by omega,?_⟩
  rintro(e | e | e | e | e | e)
  ·have:=h.st.lt _ e;omega
  all_goals omega
 case hS=>
  obtain⟨h,rt,ri,pk,hn,hL⟩:=uh HC
  obtain⟨o1,o2,o3,o4,o5,o6,fD,_,hg⟩:=uh HO
  have hh:=h.lth
  have h0:=h.lt0
  rintro k (e | e | e | e | e | e)
  ·have:=h.st.lt _ e;omega
  all_goals omega
 case hassign=>
  rintro l' k G W K h hk hK
  obtain⟨p,hp⟩:∃p,(geP x L)[k]? = some p:=⟨_,List.getElem?_eq_getElem hk⟩
  have ce:wkE (geP x L) k=#[.agg #[.string p.1,.int .u64 (p.2:Nat)]]:=by unfold wkE;simp only[List.getD,hp,Option.getD_some]
  rw[ce]
  have HJ:=Hd (ai h hp);have HHK:=@Hd _ hK
  clear h hp hK ce HC HO
  simp only[List.zip_toArray,List.zip_cons_cons,List.zip_nil_right,List.foldl_toArray',List.size_toArray,List.length_cons,List.length_nil,List.foldl_cons,List.foldl_nil,List.setIfInBounds_toArray,List.set_cons_zero,List.set_cons_succ]
  gi_wp2
  obtain⟨h,hp⟩:=uh HJ
  have hsz:=h.sz
  exact uh HHK _ _ ⟨h.kept (O:=fun _=>False) ((Fr.refl _ W).alloc _) (fun _ h=>h.elim),(Fr.refl _ W).alloc _,p,W.heap.size,hp,Nat.le_refl _,hsz,fun hG=>by have:=(h.out _ hG).1;omega,heap_alloc_new W _,rfl⟩ (Below.heap_alloc W _ _ (by omega)) (Below.heap_alloc W _ _ (by omega))
 case hbody=>
  rintro l' k G V a' W ⟨h,fv,p,q,hp,hq1,hq2,hq3,oq,rfl⟩ hk
  obtain⟨v,ov,row,hv⟩:=h.ex
  have hn:=(uh HC).2.2.2.2.1
  have hL:=(uh HC).2.2.2.2.2
  have hgl:=ge_len x L
  have y0:W.cell? ⟨q,0,none⟩=some (.string p.1):=cOo oq 0
  have y1:W.cell? ⟨q,1,none⟩=some (.int .u64 (p.2:Nat)):=cOo oq 1
  have c8:=h.bh
  have c9:=h.bn
  have c11:W.cell? ⟨g+2,0,none⟩=some v:=cOo ov 0
  have hqW:q<W.heap.size:=(Array.getElem?_eq_some_iff.1 oq).1
  have hsz:=h.sz
  have hvs:V.heap.size<=W.heap.size:=fv.size
  obtain⟨W1,hW1⟩:∃W1,W.alloc (.cells #[.string p.1,.int .u64 (p.2:Nat)] 43)=W1:=⟨_,rfl⟩
  have f1:St W W1:=hW1▸(Fr.refl _ W).alloc _
  obtain⟨v',w2,hap,hw2,hgr,hloc⟩:=run_more elt_Q 33 (own_still row f1) (sl_pair W W1 p hW1) (by omega) (by have:=f1.size;omega)
  have ht:pcl ((geP x L).take (k+1))=pcl ((geP x L).take k) ++ pcl [p]:=by
   rw[List.take_add_one,hp,pcl_app];rfl
  have hs1:=f1.size
  have fA:Fr (fun k=>v.ownBlock=some k) W w2:=(f1.mono nE).grown hgr (fun k hk=>.inl hk)
  have nA:∀k,k<g+8->¬v.ownBlock=some k:=fun k hk e=>by have:=(row.lt _ e).1;omega
  have ov2:w2.heap[g+2]? = some (.cells #[v] 33 (0,0)):=fA.obj ov (nA _ (by omega))
  have z2:w2.frozen? ⟨g+2,0,none⟩=false:=by simp[World.frozen?,ov2]
  have d2:w2.cell? ⟨g+2,0,none⟩=some v:=cOo ov2 0
  obtain⟨w3,hw3⟩:∃w3,w2.setCell ⟨g+2,0,none⟩ v'=w3:=⟨_,rfl⟩
  have f3:Fr (fun k=>k=g+2) w2 w3:=hw3▸(Fr.refl (fun k=>k=g+2) w2).setCell (.inl rfl) _
  have ov3:w3.heap[g+2]? = some (.cells #[v'] 33 (0,0)):=hw3▸heap_setCell_same w2 (g+2) 0 _ _ v' ov2
  have d3:w3.cell? ⟨g+2,0,none⟩=some v':=cOo ov3 0
  have b9:w3.cell? ⟨g+1,0,none⟩=some (.int .i64 n):=f3.cell' (fA.cell' c9 (nA _ (by show g+1<g+8;omega))) (by show ¬g+1=g+2;omega)
  have b8:w3.cell? ⟨g,0,none⟩=some (.string hi):=f3.cell' (fA.cell' c8 (nA _ (by show g<g+8;omega))) (by show ¬g=g+2;omega)
  have row3:w3.ownsRow (g+8) 43 2 v' (k+1) (pcl ((geP x L).take (k+1))):=by
   rw[ht]
   exact owns_same hw2 (fun j hj=>f3.block j (hw2.lt j hj).2 (by have:=(hw2.lt j hj).1;omega))
  have fG3:Fr (fun b=>G b\/pair (g+6) b) V w3:=(fv.mono (fun b hb=>.inl (.inr hb))).trans' ((fA.mono (G:=fun b=>G b) (fun b hb=>.inl (hv b hb))).trans' f3 (fun b hb=>.inl (hb▸h.inc.2.2))) (fun b hb=>.inl (.inl hb))
  have hs3:W.heap.size<=w3.heap.size:=Nat.le_trans fA.size f3.size
  have D0:w3.heap[wD.heap.size]? = W.heap[wD.heap.size]?:=by
   rw[s6]
   exact(f3.block _ (Nat.lt_of_lt_of_le (by omega) fA.size) (by omega)).trans (fA.block _ (by omega) (nA _ (by omega)))
  have D1:w3.heap[wD.heap.size+1]? = W.heap[wD.heap.size+1]?:=by
   rw[s6]
   exact(f3.block _ (Nat.lt_of_lt_of_le (by omega) fA.size) (by omega)).trans (fA.block _ (by omega) (nA _ (by omega)))
  have hv3:∀b,v'.ownBlock=some b->(G b\/V.heap.size<=b)/\b<w3.heap.size:=fun b hb=>by
   refine⟨?_,(row3.lt b hb).2⟩
   rcases hloc with e | e
   ·exact .inl (hv b (e▸hb))
   ·rw[e] at hb
    cases hb
    exact .inr (by omega)
  have HZ:=Hd (ai h (ai fv (ai hp (ai hv (ai ov3 (ai row3 (ai fG3 (ai hs3 (ai D0 (ai D1 (ai hv3 (ai b8 (ai b9 (ai hn (ai hgl (ai row ov))))))))))))))))
  have HAP:=Hd hap;have HW1:=Hd hW1;have HW3:=Hd hw3
  rw[<-hw3] at d3 b9
  have lx:=less_eq p.1 hi
  obtain⟨vg,vc,rfl⟩:∃vg vc,v' = .slice (some ⟨vg,0,none⟩) (k+1) vc:=by
   rcases row3.2 with ⟨_,h0⟩ | ⟨vg,vc,_,e,_⟩
   ·omega
   ·exact⟨vg,vc,e⟩
  clear h hap hw2 hgr hloc fA nA ov2 f3 ov3 b8 row3 fG3 hs3 D0 D1 hv3 ht f1 hs1 hW1 hw3 hv ov row oq fv hsz hvs hqW hn hL hgl hp hq1 hq2 hq3
  by_cases hlo:hi.size=0\/ltK p.1 hi
  ·have HL:=Hd hlo
   have hcs:hi.toList = []\/(hi.toList.isEmpty=false/\(hi.toList = [])=False/\Op.bytesLess p.1.toList hi.toList=true):=by
    by_cases h0:hi.size=0
    ·exact .inl (nil_of h0)
    ·refine .inr ⟨(not_nil h0).1,(not_nil h0).2,?_⟩
     rw[lx]
     exact decide_eq_true (hlo.resolve_left h0)
   clear lx hlo
   by_cases hkn:(k:Int)+1=n
   ·rcases hcs with hE | ⟨hE1,hE2,hE3⟩
    all_goals
     gi_wp2_with (first | (gi_at_builtin;rw[uh HW1];refine wpListIn_append_run rfl (.tmp 28) (.tmp 30) 33 rfl _ _ rfl rfl _ w2 (uh HAP) ?_) | fail)
     rw[uh HW3]
     obtain⟨h,fv,hp,hv,ov3,row3,fG3,hs3,D0,D1,hv3,b8,b9,hn,hgl,row,ov⟩:=uh HZ
     have hlo:=uh HL
     have hsz:=h.sz
     have hal:∀q∈(geP x L).take (k+1),hi.size=0\/ltK q.1 hi:=rg_more h.lo hp hlo
     have e:rgP L x hi n=(geP x L).take (k+1):=rg_full hal hk (by omega)
     refine⟨⟨D0,D1⟩,⟨rfl,_,ov3,?_,by omega⟩,by rw[s6];exact fG3⟩
     rw[e,List.length_take,Nat.min_eq_left hk]
     exact row3
   ·rcases hcs with hE | ⟨hE1,hE2,hE3⟩
    all_goals
     gi_wp2_with (first | (gi_at_builtin;rw[uh HW1];refine wpListIn_append_run rfl (.tmp 28) (.tmp 30) 33 rfl _ _ rfl rfl _ w2 (uh HAP) ?_) | fail)
     rw[uh HW3]
     obtain⟨h,fv,hp,hv,ov3,row3,fG3,hs3,D0,D1,hv3,b8,b9,hn,hgl,row,ov⟩:=uh HZ
     have hlo:=uh HL
     have hsz:=h.sz
     have hlt:=h.lt
     have hal:∀q∈(geP x L).take (k+1),hi.size=0\/ltK q.1 hi:=rg_more h.lo hp hlo
     refine⟨⟨D0,D1⟩,fun b=>G b\/(Value.slice (some ⟨vg,0,none⟩) (k+1) vc).ownBlock=some b,⟨⟨_,ov3,row3,fun b hb=>.inr hb⟩,⟨.inl h.inc.1,.inl h.inc.2.1,.inl h.inc.2.2⟩,fun b hb=>?_,b8,b9,hal,by omega,by omega⟩,by rw[s6];exact fG3,fun b hb=>.inl hb,fun b hb=>?_⟩
     ·rcases hb with hb | hb
      ·exact⟨Nat.lt_of_lt_of_le (h.out b hb).1 hs3,(h.out b hb).2⟩
      ·exact⟨(row3.lt b hb).2,.inr (.inr (.inr (row3.lt b hb).1))⟩
     ·rcases hb with hb | hb
      ·exact .inl hb
      ·exact(hv3 b hb).1
  ·have h0:hi.size≠0:=fun e=>hlo (.inl e)
   have h1:¬ltK p.1 hi:=fun e=>hlo (.inr e)
   rw[decide_eq_false h1] at lx
   obtain⟨hE1,hE2⟩:=not_nil h0
   have HH:=Hd hlo
   clear h0 h1 hlo
   gi_wp2_with fail
   obtain⟨h,fv,hp,hv,ov3,row3,fG3,hs3,D0,D1,hv3,b8,b9,hn,hgl,row,ov⟩:=uh HZ
   have e:rgP L x hi n=(geP x L).take k:=rg_stop h.lo hp (uh HH) h.lt
   refine⟨⟨rfl,rfl⟩,⟨rfl,_,ov,?_,h.sz⟩,by rw[s6];exact fv.mono (fun b hb=>.inl (.inr hb))⟩
   rw[e,List.length_take,Nat.min_eq_left (by omega)]
   exact row
 case hdone=>
  intro G W h fr hDD
  obtain⟨v,ov,row,hv⟩:=h.ex
  have c11:W.cell? ⟨g+2,0,none⟩=some v:=cOo ov 0
  have HQ:=Hd (ai h (ai fr (ai hDD row)))
  clear h fr hDD row ov hv
  show wpOf _ _ _ _ _ _
  refine wpOf_of_wp ?_
  go_wp2
  obtain⟨h,fr,hDD,row⟩:=uh HQ
  obtain⟨o1,o2,o3,o4,o5,o6,fD,_,_⟩:=uh HO
  have e:rgP L x hi n=geP x L:=rg_all (fun p hp=>h.lo p (by rw[List.take_length];exact hp)) (by have:=h.lt;omega)
  rw[List.take_length,<-e] at row
  rw[s6] at hDD
  refine⟨by simp,.inl ⟨_,_,rfl,run_takeDeferred hDD,⟨v,results_tmp Tryz.results14 _ _ _,v,rfl,?_,?_⟩⟩⟩
  ·refine row_lo (lo:=g+8) (owns_same row (fun j hj=>?_)) (by omega)
   exact World.putObj_heap_other (by have:=(row.lt j hj).1;omega)
  ·refine(fD.trans' fr (fun k hk=>?_)).trans' ((Fr.refl (fun j=>j=g+6) W).putObj (.inl rfl) _) (fun k hk=>.inr ?_)
   ·rcases hk with e | e | e <;> exact .inr (by omega)
   ·have hk:k=g+6:=hk
    omega
 case hret=>
  rintro c W ⟨rfl,v,ov,row,hs⟩ fr hDD
  have c11:W.cell? ⟨g+2,0,none⟩=some v:=cOo ov 0
  have HQ:=Hd (ai hs (ai fr (ai hDD row)))
  clear hs fr hDD row ov
  gi_wp2
  show wpOf _ _ _ _ _ _
  refine wpOf_of_wp ?_
  go_wp2
  obtain⟨hs,fr,hDD,row⟩:=uh HQ
  obtain⟨o1,o2,o3,o4,o5,o6,fD,_,_⟩:=uh HO
  refine⟨by simp,.inl ⟨_,_,rfl,run_takeDeferred hDD,⟨v,results_tmp Tryz.results14 _ _ _,v,rfl,?_,?_⟩⟩⟩
  ·refine row_lo (lo:=g+8) (owns_same row (fun j hj=>?_)) (by omega)
   exact World.putObj_heap_other (by have:=(row.lt j hj).1;omega)
  ·refine(fD.trans' fr (fun k hk=>?_)).trans' ((Fr.refl (fun j=>j=wD.heap.size) W).putObj (.inl rfl) _) (fun k hk=>.inr ?_)
   ·rcases hk with e | e | e <;> exact .inr (by omega)
   ·have hk:k=wD.heap.size:=hk
    omega
end
end
theorem sumTo_is (n a:Nat):sumTo (fun u=>if u=a then 1 else 0) n<=1:=by
 induction n with
 | zero=>simp[sumTo]
 | succ n ih=>
  by_cases h:a<n
  ·have e:(if n=a then 1 else 0)=0:=if_neg (by omega)
   simp only[sumTo,e]
   omega
  ·have e:sumTo (fun u=>if u=a then 1 else 0) n=0:=sumTo_zero fun u hu=>if_neg (by omega)
   simp only[sumTo,e]
   split <;> omega
theorem sumTo_in (n:Nat):∀Q:List Nat,sumTo (fun u=>if u∈Q then 1 else 0) n<=Q.length
 | []=>by
  rw[sumTo_zero fun u _=>by simp]
  exact Nat.zero_le _
 | a :: Q=>by
  have h1:=sumTo_in n Q
  have h2:=sumTo_is n a
  have h3:sumTo (fun u=>if u∈a :: Q then 1 else 0) n<=sumTo (fun u=>(if u∈Q then 1 else 0)+(if u=a then 1 else 0)) n:=sumTo_le fun u _=>by
   by_cases e:u=a
   ·subst e;simp
   ·by_cases g:u∈Q
    ·simp[g]
    ·simp[g,e]
  rw[sumTo_add] at h3
  simp only[List.length_cons]
  omega
structure Swp (nu:Nat) (f g:Nat->Int) (U:List Nat):Prop where
 st:HpS nu g
 ak:∀u,ask nu g u=if u∈U then ask nu f u else 0
 wd:∀i,fi nu<=i->g i=f i
theorem Swp.sam {nu:Nat} {f g:Nat->Int} {U:List Nat} (s:Swp nu f g U) {v:Nat} (h:v∈U):Sam nu f g v:=⟨by rw[s.ak,if_pos h],fun i _=>s.wd _ (by omega)⟩
theorem Rt.same {nu sz:Nat} {f g:Nat->Int} {r:Nat} {L:List Pr} {Q:List Nat} (t:Rt nu sz f r L Q) (h:∀v∈Q,Sam nu f g v):Rt nu sz g r L Q:=by
 rcases t with t | ⟨hh,u,e,t⟩
 ·exact .inl t
 ·exact .inr ⟨hh,u,e,t.same h⟩
theorem Rt.few {nu sz:Nat} {f:Nat->Int} {r:Nat} {L:List Pr} {Q:List Nat} (t:Rt nu sz f r L Q):Q.length<=2 * L.length:=by
 rcases t with ⟨_,rfl,rfl⟩ | ⟨hh,u,e,t⟩
 ·simp
 ·have:=t.few;omega
theorem Rt.asked {nu sz:Nat} {f:Nat->Int} {r:Nat} {L:List Pr} {Q:List Nat} (t:Rt nu sz f r L Q):∀v∈Q,ask nu f v≠0:=by
 rcases t with ⟨_,rfl,rfl⟩ | ⟨hh,u,e,t⟩
 ·simp
 ·exact t.asked
theorem geP_all {L:List Pr}:geP ⟨#[]⟩ L=L:=List.filter_eq_self.2 fun p _=>by
 have:¬ltK p.1 ⟨#[]⟩:=List.not_lt_nil _
 simp[this]
theorem rgP_all {L:List Pr} {n:Int} (h:(L.length:Int)<=n):rgP L ⟨#[]⟩ ⟨#[]⟩ n=L:=by
 have:=rg_all (L:=L) (x:=⟨#[]⟩) (hi:=⟨#[]⟩) (n:=n) (fun p _=>.inl rfl) (by rw[geP_all];exact h)
 rw[this,geP_all]

section
def Yok (X:Nat->Prop) (w0:World) (sb b:Nat) (T:Tay) (w:World) (Y:Nat->Prop):Prop:=∀k,Y k->k<w.heap.size/\¬tfoot sb b T k/\(X k\/w0.heap.size<=k)
def ChangeY (X:Nat->Prop) (w:World) (sb b:Nat) (T:Tay) (n:Nat) (A:Ab) (fv:Value) (R:(Nat->Prop)->How->List (Int×Int)->World->Prop):Prop:=
 ∀w1,St w w1->Acts fv w1 fun h w2=>(h = .well\/∃i,h = .errno i)/\∃T' P' Y,OnxX X w1 sb b T w2 T' n A P' false/\Yok X w1 sb b T' w2 Y/\R Y h P' w2
def StaysY (R:(Nat->Prop)->How->List (Int×Int)->World->Prop):Prop:=∀(Y:Nat->Prop) (h:How) (P:List (Int×Int)) (w w':World) (F:Nat->Prop),R Y h P w->Fr F w w'->(∀k,Y k->¬F k)->R Y h P w'
def DidY (X:Nat->Prop) (w:World) (sb b:Nat) (T:Tay) (n N:Nat) (free:Prop) (A:Ab) (s:Int) (base:Nat->Int) (R:(Nat->Prop)->How->List (Int×Int)->World->Prop) (e:Ending) (w':World):Prop:=
 (∃P' Y,R Y .well P' w'/\e = .returned (.int .i64 0)/\∃T' A',OnxX X w sb b T w' T' n A' [] false/\Yok X w sb b T' w' Y/\Done N free (s+30729) base P' A')\/
 (∃P' Y,R Y .well P' w'/\e = .returned (.int .i64 50)/\∃T' A',OnxX X w sb b T w' T' n A' P' true/\Yok X w sb b T' w' Y/\Gone N free (s+30729) base P' A')\/
 (∃i P' Y,R Y (.errno i) P' w'/\e = .returned (.int .i64 i)/\∃T',OnxX X w sb b T w' T' n A [] false/\Yok X w sb b T' w' Y)
section
variable {X:Nat->Prop} {w w' w0:World} {sb b:Nat} {T T0 T':Tay} {n N:Nat} {A A':Ab} {P P':List (Int×Int)} {dd dd':Bool} {free:Prop} {s:Int} {f base:Nat->Int}
theorem Yok.after {Y:Nat->Prop} {w1:World} (h:Yok X w1 sb b T w Y) (hf:St w0 w1):Yok X w0 sb b T w Y:=fun k hk=>⟨(h k hk).1,(h k hk).2.1,(h k hk).2.2.imp id (fun x=>Nat.le_trans hf.size x)⟩
theorem Yok.trans {Y:Nat->Prop} {w1:World} {T1:Tay} {A1:Ab} {P1:List (Int×Int)} {dd1:Bool} (h:Yok X w0 sb b T w Y) (k:Onx w sb b T w1 T1 n A1 P1 dd1):Yok X w0 sb b T1 w1 Y:=fun j hj=>⟨Nat.lt_of_lt_of_le (h j hj).1 k.fr.size,k.other (h j hj).1 (h j hj).2.1,(h j hj).2.2⟩
theorem t_doY {g:Nat} {fi ca:Array Value} {R:(Nat->Prop)->How->List (Int×Int)->World->Prop} (h:StL w sb b T n A P false) (c:Calm N free A s f) (hc:Clean 0 12304 base f) (hX:∀k,X k->k<w.heap.size/\¬tfoot sb b T k) (hR:StaysY R)
  (hf:ChangeY X w sb b T n A (.func (.func g) fi ca) R) (hs:s+30729<4294967296) :
  Calls Tryz.prog 9 #[ptr sb,.func (.func g) fi ca] w (DidY X w sb b T n N free A s base R):=by
 obtain⟨W,hW⟩:∃W,w.alloc (.cells #[.func (.func g) fi ca,.func (.func 41) #[ptr sb] #[]] 1)=W:=⟨_,rfl⟩
 have fW:St w W:=hW▸(Fr.refl _ w).alloc _
 have zW:W.heap.size=w.heap.size+1:=by rw[<-hW];simp
 have hb:W.heap[w.heap.size]? = some (.cells #[.func (.func g) fi ca,.func (.func 41) #[ptr sb] #[]] 1):=hW▸heap_alloc_new w _
 have hWs:=h.still fW
 have nT:¬(tfoot sb b T w.heap.size\/X w.heap.size):=fun e=>by
  rcases e with e | e
  ·have:=h.lt _ e;omega
  ·have:=(hX _ e).1;omega
 have xl:∀k,X k->k<W.heap.size:=fun k hk=>by have:=(hX k hk).1;omega
 have E:=each_two (lb:=w.heap.size) (f:=.func (.func g) fi ca) (g:=.func (.func 41) #[ptr sb] #[]) (w:=W)
  (I1:=fun w'=>∃T' P' Y,OnxX X W sb b T w' T' n A P' false/\Yok X W sb b T' w' Y/\R Y .well P' w')
  (I2:=fun w'=>∃P' Y,R Y .well P' w'/\∃T' A',OnxX X W sb b T w' T' n A' [] false/\Yok X W sb b T' w' Y/\Done N free (s+30729) base P' A')
  (S:=fun h w'=>(∃i P' Y,h = .errno i/\R Y (.errno i) P' w'/\∃T',OnxX X W sb b T w' T' n A P' false/\Yok X W sb b T' w' Y)\/(∃P' Y,h = .lost/\R Y .well P' w'/\∃T' A',OnxX X W sb b T w' T' n A' P' true/\Yok X W sb b T' w' Y/\Gone N free (s+30729) base P' A'))
  (cOo hb 0)
  (try_fr (F:=fun k=>tfoot sb b T k\/X k) (fun k hk=>hk.elim (hWs.lt k) (xl k)) ((hf (W.alloc box) (fW.alloc box)).mono (by
   rintro k w2 ⟨hk,T',P',Y,o,yo,r⟩
   refine⟨o.fr,fun w3 f3=>?_⟩
   have o3:=OnxX.boxed hWs (Fr.refl _ W) o f3
   have zb:(W.alloc box).heap.size=W.heap.size+1:=by simp
   have r3:R Y k P' w3:=hR _ _ _ _ _ _ r f3 (fun j hj e=>by
    rcases (yo j hj).2.2 with x | x
    ·have:=xl j x;omega
    ·omega)
   have y3:Yok X W sb b T' w3 Y:=fun j hj=>⟨Nat.lt_of_lt_of_le (yo j hj).1 f3.size,(yo j hj).2.1,(yo j hj).2.2.imp id (fun x=>by omega)⟩
   rcases hk with rfl | ⟨i,rfl⟩
   ·exact .inl ⟨rfl,(o3.fr.cell' (cOo hb 1) nT),T',P',Y,o3,y3,r3⟩
   ·exact .inr ⟨rfl,.inl ⟨i,P',Y,rfl,r3,T',o3,y3⟩⟩)))
  (by
   rintro w1 ⟨T1,P1,Y,o1,y1,r1⟩
   have few:=o1.st.few
   refine try_store o1.st (acts_of (fun _ _=>by kernel_rfl) ((t_commit (o1.st.still ((Fr.refl _ w1).alloc box)) c hc (by omega)).mono ?_))
   rintro e w2 (⟨rfl,T',A',o,d⟩ | ⟨rfl,T',A',o,d⟩)
   ·refine⟨.well,rfl,o.fr,fun w3 f3=>.inl ⟨rfl,P1,Y,?_,T',A',o1.trans (Onx.boxed o1.st (Fr.refl _ w1) o f3),y1.trans (Onx.boxed o1.st (Fr.refl _ w1) o f3),d.more (by omega)⟩⟩
    exact hR _ _ _ _ _ _ r1 (Onx.boxed o1.st (Fr.refl _ w1) o f3).fr (fun j hj=>(y1 j hj).2.1)
   ·refine⟨.lost,How.ended_one _ _,o.fr,fun w3 f3=>.inr ⟨rfl,.inr ⟨P1,Y,rfl,?_,T',A',o1.trans (Onx.boxed o1.st (Fr.refl _ w1) o f3),y1.trans (Onx.boxed o1.st (Fr.refl _ w1) o f3),d.more (by omega)⟩⟩⟩
    exact hR _ _ _ _ _ _ r1 (Onx.boxed o1.st (Fr.refl _ w1) o f3).fr (fun j hj=>(y1 j hj).2.1))
 have c5:=h.c5
 have h1:=mf
 have HE:=Hd E;have HW:=Hd hW;have HFW:=Hd fW;have HR:=@Hd _ hR
 clear E hW fW zW hb hWs nT h c hc hf xl hX hR
 unfold DidY
 go_enter Tryz.func9,Tryz.ntmps9
 go_wp2_with fail
 rw[uh HW]
 refine(uh HE).mono ?_
 clear HE
 rintro e w2 ⟨k,⟨rfl,P',Y,r,x⟩ | ⟨h,rfl,x⟩⟩
 ·have K:=settle_nil (sb:=sb) w2
  have HX:=Hd x;have HRR:=Hd r
  clear x r
  go_wp2_with fail
  refine K.mono ?_
  rintro e w3 ⟨rfl,hh⟩
  replace hh:=hh.symm
  subst hh
  clear K
  go_wp2
  go_ret
  obtain⟨T',A',o,yo,d⟩:=uh HX
  exact .inl ⟨P',Y,uh HRR,rfl,T',A',o.after (uh HFW),yo.after (uh HFW),d⟩
 ·rcases x with ⟨i,P',Y,rfl,r,T',o,yo⟩ | ⟨P',Y,rfl,r,T',A',o,yo,d⟩
  ·have K:=Hd (settle_errno o.st i)
   have HX:=Hd (ai r (ai o yo))
   clear r o yo
   simp only[How.v]
   go_wp2_with fail
   refine(uh K).mono ?_
   rintro e w3 ⟨rfl,T3,-,o3⟩
   have HO3:=Hd o3
   clear K o3
   go_wp2
   go_ret
   obtain⟨r,o,yo⟩:=uh HX
   exact .inr (.inr ⟨i,P',Y,uh HR _ _ _ _ _ _ r (uh HO3).fr (fun j hj=>(yo j hj).2.1),rfl,T3,(o.trans (uh HO3)).after (uh HFW),(yo.trans (uh HO3)).after (uh HFW)⟩)
  ·have K:=Hd (settle_lost o.st)
   have HX:=Hd (ai r (ai o (ai yo d)))
   clear r o yo d
   simp only[How.v]
   go_wp2_with fail
   refine(uh K).mono ?_
   rintro e w3 ⟨rfl,T3,-,o3⟩
   have HO3:=Hd o3
   clear K o3
   go_wp2
   go_ret
   obtain⟨r,o,yo,d⟩:=uh HX
   exact .inr (.inl ⟨P',Y,uh HR _ _ _ _ _ _ r (uh HO3).fr (fun j hj=>(yo j hj).2.1),rfl,T3,A',(o.trans (uh HO3)).after (uh HFW),(yo.trans (uh HO3)).after (uh HFW),d⟩)
end
section
variable {nu sz:Nat} {w w' w0:World} {X V:Nat->Prop} {hb sb b:Nat} {T:Tay} {A:Ab} {N:Nat} {free:Prop} {s:Int} {base:Nat->Int}
def DidZ (nu sz:Nat) (w0:World) (X V:Nat->Prop) (w:World) (hb sb b:Nat) (T:Tay) (A:Ab) (N:Nat) (s:Int) (base:Nat->Int) (R:(Nat->Prop)->How->List (Int×Int)->World->Prop) (e:Ending) (w':World):Prop:=
 Fr (fun k=>tfoot sb b T k\/V k) w w'/\((∃P' T' A' Y,R Y .well P' w'/\e = .returned (.int .i64 0)/\HpC nu sz w0 (fun k=>X k\/Y k) w' hb sb b T' A' N True (s+30729) (homed P' base))\/
 (∃i P' T' Y,R Y (.errno i) P' w'/\e = .returned (.int .i64 i)/\HpC nu sz w0 (fun k=>X k\/Y k) w' hb sb b T' A N True s base))
theorem HpC.doZ {g:Nat} {fi ca:Array Value} {R:(Nat->Prop)->How->List (Int×Int)->World->Prop} (h:HpC nu sz w0 X w hb sb b T A N True s base) (hV:∀k,V k->X k) (hn:¬V hb) (hR:StaysY R)
  (hf:ChangeY V w sb b T sz A (.func (.func g) fi ca) R) (hs:s+30729<4294967296) :
  Calls Tryz.prog 9 #[ptr sb,.func (.func g) fi ca] w (DidZ nu sz w0 X V w hb sb b T A N s base R):=by
 obtain⟨f,c,k⟩:=h.cl
 refine(t_doY h.hd.st c k (fun k hk=>⟨(h.hd.xl k (hV k hk)).2,h.hd.ap k (hV k hk)⟩) hR hf hs).mono ?_
 have key:∀{w':World} {T':Tay} {A':Ab} {Y:Nat->Prop},OnxX V w sb b T w' T' sz A' [] false->Yok V w sb b T' w' Y->Hold w0 (fun k=>X k\/Y k) w' sb b sz T' A' [] false/\HpL nu sz w' hb sb:=by
  intro w' T' A' Y o yo
  refine⟨⟨o.st,h.hd.fr.trans' o.fr (fun k hk=>.inr (hk.elim (h.hd.new k) (fun x=>(h.hd.xl k (hV k x)).1))),fun k hk=>(o.sub k hk).elim (h.hd.new k) (fun x=>Nat.le_trans h.hd.fr.size x),fun k hk=>?_,fun k hk=>?_⟩,?_⟩
  ·rcases hk with hk | hk
   ·exact o.other (h.hd.xl k hk).2 (h.hd.ap k hk)
   ·exact(yo k hk).2.1
  ·rcases hk with hk | hk
   ·exact⟨(h.hd.xl k hk).1,Nat.lt_of_lt_of_le (h.hd.xl k hk).2 o.fr.size⟩
   ·exact⟨(yo k hk).2.2.elim (fun x=>(h.hd.xl k (hV k x)).1) (fun x=>Nat.le_trans h.hd.fr.size x),(yo k hk).1⟩
  refine h.hp.kept o.fr (fun e=>e.elim (h.hd.ap hb h.xh) hn) (fun e=>?_)
  have l0:=h.l0
  rcases e with e | e
  ·have:=h.hd.new 0 e;omega
  ·have:=(h.hd.xl 0 (hV 0 e)).1;omega
 rintro e w' (⟨P',Y,r,rfl,T',A',o,yo,f',c',k'⟩ | ⟨_,_,_,_,_,_,_,_,hg,_⟩ | ⟨i,P',Y,r,rfl,T',o,yo⟩)
 ·exact⟨o.fr,.inl ⟨P',T',A',Y,r,rfl,(key o yo).1,⟨f',c',k'⟩,(key o yo).2,.inl h.xh,h.l0⟩⟩
 ·exact absurd trivial hg
 ·exact⟨o.fr,.inr ⟨i,P',T',Y,r,rfl,(key o yo).1,⟨f,c,k⟩,(key o yo).2,.inl h.xh,h.l0⟩⟩
end
end

section
theorem Fr.box (w:World) (r:Nat) (v:Value):Fr (fun k=>k=r) w (w.setCell ⟨r,0,none⟩ v):=(Fr.refl (fun k=>k=r) w).setCell (.inl rfl) v
def awL:List Pr:=[(⟨#[97]⟩,1),(⟨#[98]⟩,2)]
theorem awL_is:putP (putP [] ⟨#[98]⟩ 2) ⟨#[97]⟩ 1=awL:=by
 have h1:¬ltK ⟨#[98]⟩ ⟨#[97]⟩:=by decide
 have h2:¬(⟨#[98]⟩:ByteArray)=⟨#[97]⟩:=by decide
 simp[putP,h1,h2,awL]
theorem awG_is:getP awL ⟨#[98]⟩=some 2:=by
 have h2:¬(⟨#[97]⟩:ByteArray)=⟨#[98]⟩:=by decide
 simp[getP,awL,h2]
theorem rowp_form {w:World} {lo n:Nat} {v:Value} {xs:List Value} (h:w.ownsRow lo 43 2 v n xs):(v = .slice none 0 0/\n=0)\/∃g cap,v = .slice (some ⟨g,0,none⟩) n cap:=by
 rcases h.2 with ⟨e,h0⟩ | ⟨g,cap,_,e,_⟩
 ·exact .inl ⟨e,h0⟩
 ·exact .inr ⟨g,cap,e⟩
section
variable {nu sz:Nat} {w w' w0:World} {hb sb b bs bh bl bo:Nat} {T:Tay} {A:Ab} {P:List (Int×Int)} {v1 v2:Value}
set_option maxRecDepth 20000 in
theorem awC11 (h:Hp nu sz w hb sb b T A P) (s:HpS nu (says P A)) (ak:ask nu (says P A)=fun _=>0) (hP:P.length+4600<=6144) (hnu:60<nu / 4)
  (cs:w.cell? ⟨bs,0,none⟩=some (ptr sb)) (ch:w.cell? ⟨bh,0,none⟩=some (ptr hb)) (Bl:Box w bl v1) (Bo:Box w bo v2) (nt:∀k,k=bs\/k=bh\/k=bl\/k=bo->¬tfoot sb b T k)
  (ne:bs≠bl/\bs≠bo/\bl≠bo/\hb≠bl/\0≠bl) :
  Calls Tryz.prog 62 #[ptr bs,ptr bh,ptr bl,ptr bo] w fun e w'=>e = .returned (.tuple #[])/\∃T' P' v,OnxX (fun k=>k=bl\/k=bo) w sb b T w' T' sz A P' false/\Box w' bl v/\Box w' bo (.bool true)/\w'.ownsRow w.heap.size 43 2 v 2 (pcl awL)/\(∀k,v.ownBlock=some k->¬tfoot sb b T' k)/\¬tfoot sb b T' bl/\¬tfoot sb b T' bo:=by
 have fD:St w w.drew:=(Fr.refl _ w).drewN 1
 have low0:∀u,ask nu (says P A) u<=32:=fun u=>by rw[ak];exact Nat.zero_le _
 have c0:cnt nu (ask nu (says P A))=0:=by rw[ak,cnt_none]
 have PUT1:Calls Tryz.prog 11 #[ptr sb,ptr hb,.int .u64 0,.string ⟨#[98]⟩,.int .u64 2] w.drew _:=y_Put (h.still fD) s (r:=0) (l:=[]) (Q:=[]) (.inl ⟨rfl,rfl,rfl⟩) (fun p hp=>by cases hp) List.Pairwise.nil (by simp) ⟨#[98]⟩ 2 (by decide) (by omega) (by omega) (by omega) low0
 have lbs:bs<w.heap.size:=World.block_lt_of_cell? _ _ cs
 have lbh:bh<w.heap.size:=World.block_lt_of_cell? _ _ ch
 have lbl:=Bl.lt;have lbo:=Bo.lt
 have HP1:=Hd PUT1
 have HX:=Hd (ai h (ai fD (ai hP (ai low0 (ai c0 (ai hnu (ai Bl Bo)))))));have HNT:=@Hd _ nt
 clear PUT1 h fD low0 c0 hP hnu s ak Bl Bo nt
 go_enter Tryz.func62,Tryz.ntmps62
 go_wp2_with fail
 refine wp_region_held_drew (S:=fun w'=>w'.cell? ⟨bs,0,none⟩=some (ptr sb)/\w'.cell? ⟨bh,0,none⟩=some (ptr hb)) (by kernel_rfl) ⟨cs,ch⟩ (fun hHeld=>?_)
 refine tkO 0 ?_ hHeld rfl ?_ ?_
 rotate_left
 ·intro w q;go_simp;try with_reducible rfl
 simp only[apt,List.set]
 refine tkO 1 ?_ hHeld rfl ?_ ?_
 rotate_left
 ·intro w q;go_simp;try with_reducible rfl
 simp only[apt,List.set]
 refine tkO 2 ?_ hHeld rfl ?_ ?_
 rotate_left
 ·intro w q;go_simp;try with_reducible rfl
 simp only[apt,List.set]
 refine tkO 3 ?_ hHeld rfl ?_ ?_
 rotate_left
 ·intro w q;go_simp;try with_reducible rfl
 simp only[apt,List.set]
 refine rdO 4 rfl (fun K hK=>?_)
 go_simp
 go_wp2_with fail
 refine(uh HP1).mono ?_
 clear HP1
 rintro e w2 ⟨r1,rfl,T2,P2,Q1,k1,hk1,o2,l2,ch2,hr1,rt1⟩
 obtain⟨h,fD,hP,low0,c0,hnu,Bl,Bo⟩:=uh HX
 have h2:=(h.still fD).call o2
 have o02:Onx w sb b T w2 T2 sz A P2 false:=o2.after fD
 have few2:=ch2.few
 have PUT2:=y_Put h2 ch2.st rt1 (fun p hp=>by rcases putP_mem hp with rfl | hp;exact⟨by decide,by decide⟩;cases hp) (putP_rise List.Pairwise.nil) (by simp[putP]) ⟨#[97]⟩ 1 (by decide) (by omega) (by omega) (by omega) (ch2.low low0)
 have cs2:w2.cell? ⟨bs,0,none⟩=some (ptr sb):=o02.fr.cell' cs (uh HNT bs (by simp))
 have ch2':w2.cell? ⟨bh,0,none⟩=some (ptr hb):=o02.fr.cell' ch (uh HNT bh (by simp))
 have HP2:=Hd PUT2
 have HX2:=Hd (ai h2 (ai o02 (ai ch2 (ai rt1 (ai Bl Bo)))))
 clear PUT2 h fD hP low0 c0 hnu h2 o02 o2 ch2 rt1 few2 l2 Bl Bo HX hr1 hk1
 refine hK.out _ _ ⟨cs2,ch2'⟩ (fun _=>?_)
 clear hK K
 refine rdO 5 rfl (fun K hK=>?_)
 go_simp
 go_wp2_with fail
 refine(uh HP2).mono ?_
 clear HP2
 rintro e w3 ⟨r2,rfl,T3,P3,Q2,k2,hk2,o3,l3,ch3,hr2,rt2⟩
 rw[awL_is] at rt2
 obtain⟨h2,o02,ch2,rt1,Bl,Bo⟩:=uh HX2
 have h3:=h2.call o3
 have o03:Onx w sb b T w3 T3 sz A P3 false:=o02.trans o3
 have nt3:∀k,k=bs\/k=bh\/k=bl\/k=bo->¬tfoot sb b T3 k:=fun k hk=>o03.other (by rcases hk with rfl | rfl | rfl | rfl <;> assumption) (uh HNT k hk)
 have cs3:w3.cell? ⟨bs,0,none⟩=some (ptr sb):=o03.fr.cell' cs (uh HNT bs (by simp))
 have ch3':w3.cell? ⟨bh,0,none⟩=some (ptr hb):=o03.fr.cell' ch (uh HNT bh (by simp))
 have Bl3:=Bl.kept o03.fr (uh HNT bl (by simp));have Bo3:=Bo.kept o03.fr (uh HNT bo (by simp))
 have riL:Rise awL:=awL_is▸putP_rise (putP_rise List.Pairwise.nil)
 have pkL:Pok awL:=fun p hp=>by
  rcases List.mem_cons.1 hp with rfl | hp
  ·exact⟨by decide,by decide⟩
  ·rw[List.mem_singleton.1 hp];exact⟨by decide,by decide⟩
 have RG:=y_Range h3 rt2 riL pkL ⟨#[]⟩ ⟨#[]⟩ 9 (by omega) (by decide)
 rw[rgP_all (show((awL.length:Nat):Int)<=9 by decide)] at RG
 have GT:∀w4,Fr (fun k=>k=bl) w3 w4->Calls Tryz.prog 17 #[ptr sb,.int .u64 (r2:Nat),.string ⟨#[98]⟩] w4 fun e w'=>e = .returned (.tuple #[.int .u64 2,.bool true])/\St w4 w':=fun w4 f4=>by
  have:=y_Get (h3.turn f4 (fun k hk=>by rw[hk];exact nt3 bl (by simp)) (fun e=>ne.2.2.2.1 e) (fun e=>ne.2.2.2.2 e)) rt2 riL ⟨#[98]⟩
  rw[awG_is] at this
  exact this
 have LN:∀w4,Fr (fun k=>k=bl) w3 w4->Calls Tryz.prog 15 #[ptr sb,.int .u64 (r2:Nat)] w4 fun e w'=>e = .returned (.int .i64 2)/\St w4 w':=fun w4 f4=>y_Len (h3.turn f4 (fun k hk=>by rw[hk];exact nt3 bl (by simp)) (fun e=>ne.2.2.2.1 e) (fun e=>ne.2.2.2.2 e)) rt2 (by decide)
 have HRG:=Hd RG;have HGT:=@Hd _ GT;have HLN:=@Hd _ LN
 have HY:=Hd (ai o03 (ai nt3 (ai Bl3 Bo3)))
 have lz:=o03.fr.size
 have ht3:∀k,tfoot sb b T3 k->k<w3.heap.size:=h3.st.lt
 have HT3:=@Hd _ ht3
 clear RG GT LN h2 o02 ch2 rt1 Bl Bo h3 o03 o3 ch3 rt2 nt3 Bl3 Bo3 riL pkL HX2 HNT l3 hr2 hk2 cs2 ch2' ht3
 refine hK.out _ _ ⟨cs3,ch3'⟩ (fun _=>?_)
 clear hK K hHeld cs ch
 refine rdO 6 rfl (fun K hK=>?_)
 go_simp
 refine hK.out _ _ ⟨cs3,ch3'⟩ (fun _=>?_)
 clear hK K
 refine wpAnyH_done (by kernel_rfl) ?_ _
 go_wp2_with fail
 refine(uh HRG).mono ?_
 clear HRG
 rintro e w4 ⟨v,rfl,rv,f4⟩
 obtain⟨o03,nt3,Bl3,Bo3⟩:=uh HY
 have Bl4:=Bl3.kept f4 id
 have c4:=Bl4.c;have z4:=Bl4.z
 have HB4:=Hd (ai Bl4 rv);have HF4:=Hd f4
 obtain⟨g,cap,ev⟩:∃g cap,v = .slice (some ⟨g,0,none⟩) 2 cap:=by
  rcases rowp_form rv with ⟨_,h0⟩ | ⟨g,cap,e⟩
  ·exact absurd h0 (by decide)
  ·exact⟨g,cap,e⟩
 obtain⟨W5,hW5⟩:∃W5,w4.setCell ⟨bl,0,none⟩ v=W5:=⟨_,rfl⟩
 have f5:Fr (fun k=>k=bl) w4 W5:=hW5▸Fr.box w4 bl _
 have f35:Fr (fun k=>k=bl) w3 W5:=(f4.mono nE).trans' f5 (fun _ hk=>.inl hk)
 have Bl5:Box W5 bl v:=hW5▸Bl4.set _
 have cs5:W5.cell? ⟨bs,0,none⟩=some (ptr sb):=f35.cell' cs3 ne.1
 have rv5:W5.ownsRow w3.heap.size 43 2 v awL.length (pcl awL):=row_kept rv f5 (fun k hk e=>by have:=(rv.lt k hk).1;have:=Bl3.lt;have e:k=bl:=e;omega)
 have GT5:=uh HGT W5 f35
 have HX5:=Hd (ai o03 (ai nt3 (ai Bo3 (ai f35 (ai Bl5 rv5)))));have HW5:=Hd hW5;have HG5:=Hd GT5
 rw[<-hW5,ev] at cs5
 clear o03 nt3 Bl3 Bo3 Bl4 rv f4 GT5 f5 f35 Bl5 rv5 HB4 HF4 HY HGT hW5
 subst ev
 go_wp2_with fail
 rw[uh HW5]
 refine(uh HG5).mono ?_
 clear HG5
 rintro e w6 ⟨rfl,f6⟩
 obtain⟨o03,nt3,Bo3,f35,Bl5,rv5⟩:=uh HX5
 have f36:Fr (fun k=>k=bl) w3 w6:=f35.trans' f6 nE
 have Bo6:Box w6 bo v2:=Bo3.kept f36 (fun e=>ne.2.2.1 e.symm)
 have Bl6:=Bl5.kept f6 id
 have cs6:w6.cell? ⟨bs,0,none⟩=some (ptr sb):=f36.cell' cs3 ne.1
 have LN6:=uh HLN w6 f36
 have HL6:=Hd LN6;have HX6:=Hd (ai f36 (ai Bo6 (ai Bl6 (own_still rv5 f6))))
 clear o03 nt3 Bo3 f35 Bl5 rv5 f6 f36 Bo6 Bl6 LN6 HLN cs5 c4 z4
 go_wp2_with fail
 refine(uh HL6).mono ?_
 clear HL6
 rintro e w7 ⟨rfl,f7⟩
 obtain⟨f36,Bo6,Bl6,rv6⟩:=uh HX6
 obtain⟨o03,nt3,-⟩:=uh HX5
 have Bo7:=Bo6.kept f7 id
 have c7:=Bo7.c;have z7:=Bo7.z
 obtain⟨W8,hW8⟩:∃W8,w7.setCell ⟨bo,0,none⟩ (.bool true)=W8:=⟨_,rfl⟩
 have f8:Fr (fun k=>k=bo) w7 W8:=hW8▸Fr.box w7 bo _
 have Bo8:Box W8 bo (.bool true):=hW8▸Bo7.set _
 have HE:=Hd (show ∃T' P' v,OnxX (fun k=>k=bl\/k=bo) w sb b T W8 T' sz A P' false/\Box W8 bl v/\Box W8 bo (.bool true)/\W8.ownsRow w.heap.size 43 2 v 2 (pcl awL)/\(∀k,v.ownBlock=some k->¬tfoot sb b T' k)/\¬tfoot sb b T' bl/\¬tfoot sb b T' bo from by
  have rv7:=own_still rv6 f7
  have lo3:bo<w3.heap.size:=Nat.lt_of_lt_of_le lbo lz
  refine⟨T3,P3,_,(((OnxX.of o03).var (f36.trans' f7 nE) (fun k hk=>.inl hk) (fun k hk=>by rw[hk];exact nt3 bl (by simp)))).var f8 (fun k hk=>.inr hk) (fun k hk=>by rw[hk];exact nt3 bo (by simp)),(Bl6.kept f7 id).kept f8 (fun e=>ne.2.2.1 e),Bo8,row_lo (row_kept rv7 f8 (fun k hk e=>by have:=(rv7.lt k hk).1;have e:k=bo:=e;omega)) lz,fun k hk ht=>by have:=(rv7.lt k hk).1;have:=uh HT3 k ht;omega,nt3 bl (by simp),nt3 bo (by simp)⟩)
 have HW8:=Hd hW8
 clear o03 nt3 f36 Bo6 Bl6 rv6 Bo7 hW8 f8 Bo8 f7 HX5 HX6
 go_wp2_with fail
 rw[uh HW8]
 go_end0
 exact⟨rfl,uh HE⟩
end
end
end Go.Proofs.YtbiopjmpdhcjgaaGreatDoor
