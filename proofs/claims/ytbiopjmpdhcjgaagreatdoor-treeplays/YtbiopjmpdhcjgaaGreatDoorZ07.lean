/- Joined: Stor Sorts. -/
import Derived.Maps.OwnSet
import Derived.Laws.OwnMore
import Derived.Maps.AppendAt
import Derived.Test.YtbiopjmpdhcjgaaGreatDoorShelf
import Derived.Sort.OwnSortedInts
import Derived.Test.YtbiopjmpdhcjgaaGreatDoorZ02
import Derived.Test.YtbiopjmpdhcjgaaGreatDoorZ03
import Derived.Test.YtbiopjmpdhcjgaaGreatDoorZ04
namespace Go.Proofs.YtbiopjmpdhcjgaaGreatDoor
open Go.RowKit
set_option maxHeartbeats 4000000

section
theorem int_key:Maps.Keyed Tryz.prog 3:=Maps.int_keyed Tryz.underlying3
theorem zero3 (w:World):(zeroValue 3).run Tryz.prog w = .ok (.int .i64 0) w:=by kernel_rfl
structure Tay where
 L:Lay
 lg:Nat
 mb:Nat
 sv:Value
def tfoot (sb b:Nat) (T:Tay):Nat->Prop:=fun k=>foot b T.L k\/k=sb\/k=T.lg\/k=T.mb\/T.sv.ownBlock=some k
structure Placed (D:DataW Unit) (P:List (Int×Int)):Prop where
 isMap:Maps.IsMap D
 hit:∀(p:Nat) (x:Int×Int),P[p]? = some x->Maps.has D (.int .i64 (x.1 - 12400))=true/\∀z,D.atKey (.int .i64 (x.1 - 12400)) z = .lit (.int .i64 p)
 miss:∀j:Int,(∀x∈P,x.1≠j)->Maps.has D (.int .i64 (j - 12400))=false

structure StL (w:World) (sb b:Nat) (T:Tay) (n:Nat) (A:Ab) (P:List (Int×Int)) (dd:Bool):Prop where
 dev:DevL w b T.L A
 log:LogAt w T.lg b 0 12304
 words:A.n * 8=12400+n
 c0:w.cell? ⟨sb,0,none⟩=some (ptr b)
 c1:w.cell? ⟨sb,1,none⟩=some (ptr T.lg)
 c2:w.cell? ⟨sb,2,none⟩=some (.int .i64 n)
 c3:w.cell? ⟨sb,3,none⟩=some T.sv
 c4:w.cell? ⟨sb,4,none⟩=some (.map (some T.mb))
 c5:w.cell? ⟨sb,5,none⟩=some (.bool dd)
 zs:∀o,w.frozen? ⟨sb,o,none⟩=false
 own:w.ownsRow 0 161 2 T.sv P.length (wcells P)
 map:∃D,w.ownsMap Tryz.prog 3 (plainElem (H:=Unit) Tryz.prog 3) T.mb P.length D/\Placed D P
 few:P.length<=6144
 keys:∀x∈P,12400<=x.1/\x.1<12400+n
 nsb:¬foot b T.L sb
 nlg:¬foot b T.L T.lg
 nmb:¬foot b T.L T.mb
 nsv:∀k,T.sv.ownBlock=some k->¬foot b T.L k/\k≠sb/\k≠T.lg/\k≠T.mb
 lgsb:T.lg≠sb
 mbsb:T.mb≠sb
 mblg:T.mb≠T.lg
section
variable {w w' w0:World} {sb b:Nat} {T T0:Tay} {n:Nat} {A:Ab} {P:List (Int×Int)} {dd:Bool}
theorem StL.lt (h:StL w sb b T n A P dd):∀k,tfoot sb b T k->k<w.heap.size:=by
 rintro k (hk | rfl | rfl | rfl | hk)
 ·exact h.dev.lt k hk
 ·exact World.block_lt_of_cell? _ _ h.c0
 ·exact World.block_lt_of_cell? _ _ h.log.c0
 ·obtain⟨D,h1,_⟩:=h.map;exact h1.lt
 ·exact(h.own.lt k hk).2
theorem ownsMap_block {R:Value->Option (DataW Unit×List MemPlace)} {k:TypeId} {m c:Nat} {D:DataW Unit} (h:w.ownsMap Tryz.prog k R m c D) (hb:w'.heap[m]? = w.heap[m]?) (_hs:w.heap.size<=w'.heap.size):w'.ownsMap Tryz.prog k R m c D:=by
 obtain⟨es,clock,h1,h2⟩:=h
 exact⟨es,clock,by rw[hb];exact h1,h2⟩
theorem StL.kept (h:StL w sb b T n A P dd) {F:Nat->Prop} (hf:Fr F w w') (hF:∀k,tfoot sb b T k->¬F k):StL w' sb b T n A P dd:=by
 have eb:w'.heap[sb]? = w.heap[sb]?:=hf.block _ (h.lt _ (.inr (.inl rfl))) (hF _ (.inr (.inl rfl)))
 have cb:∀o,w'.cell? ⟨sb,o,none⟩=w.cell? ⟨sb,o,none⟩:=fun o=>World.cell?_of_block eb
 have em:w'.heap[T.mb]? = w.heap[T.mb]?:=hf.block _ (h.lt _ (.inr (.inr (.inr (.inl rfl))))) (hF _ (.inr (.inr (.inr (.inl rfl)))))
 refine { h with dev:=h.dev.kept hf (fun k hk=>hF k (.inl hk)),log:=h.log.kept hf (hF _ (.inr (.inr (.inl rfl)))),c0:=?_,c1:=?_,c2:=?_,c3:=?_,c4:=?_,c5:=?_,zs:=?_,own:=?_,map:=?_ }
 ·rw[cb];exact h.c0
 ·rw[cb];exact h.c1
 ·rw[cb];exact h.c2
 ·rw[cb];exact h.c3
 ·rw[cb];exact h.c4
 ·rw[cb];exact h.c5
 ·intro o;rw[World.frozen?_of_block (a:=⟨sb,o,none⟩) eb];exact h.zs o
 ·exact owns_same h.own fun k hk=>hf.block k (h.own.lt k hk).2 (hF k (.inr (.inr (.inr (.inr hk)))))
 ·obtain⟨D,h1,h2⟩:=h.map
  exact⟨D,ownsMap_block h1 em hf.size,h2⟩
theorem StL.still (h:StL w sb b T n A P dd) (hf:St w w'):StL w' sb b T n A P dd:=h.kept hf (fun _ _ x=>x)
structure Onx (w0:World) (sb b:Nat) (T0:Tay) (w:World) (T:Tay) (n:Nat) (A:Ab) (P:List (Int×Int)) (dd:Bool):Prop where
 st:StL w sb b T n A P dd
 fr:Fr (tfoot sb b T0) w0 w
 sub:∀k,tfoot sb b T k->tfoot sb b T0 k\/w0.heap.size<=k
theorem Onx.start (d:StL w sb b T n A P dd):Onx w sb b T w T n A P dd:=⟨d,Fr.refl _ _,fun _=>.inl⟩
theorem Onx.quiet (h:Onx w0 sb b T0 w T n A P dd) (hf:St w w'):Onx w0 sb b T0 w' T n A P dd:=⟨h.st.still hf,h.fr.trans' hf (fun _ hk=>hk.elim),h.sub⟩
theorem Onx.trans {w1:World} {T1:Tay} {A1:Ab} {P1:List (Int×Int)} {dd1:Bool} (h:Onx w0 sb b T0 w T n A P dd) (k:Onx w sb b T w1 T1 n A1 P1 dd1):Onx w0 sb b T0 w1 T1 n A1 P1 dd1:=
 ⟨k.st,h.fr.trans' k.fr h.sub,fun j hj=>(k.sub j hj).elim (h.sub j) (fun x=>.inr (Nat.le_trans h.fr.size x))⟩
theorem Onx.turn (h:Onx w0 sb b T0 w T n A P dd) {F:Nat->Prop} (hf:Fr F w w') (h1:∀k,F k->¬tfoot sb b T k) (h2:∀k,F k->w0.heap.size<=k):Onx w0 sb b T0 w' T n A P dd:=
 ⟨h.st.kept hf (fun k hk hF=>h1 k hF hk),h.fr.trans' hf (fun k hk=>.inr (h2 k hk)),h.sub⟩
theorem Onx.after {w1:World} (h:Onx w1 sb b T0 w T n A P dd) (hf:St w0 w1):Onx w0 sb b T0 w T n A P dd:=
 ⟨h.st,(hf.mono (G:=tfoot sb b T0) (fun _ hk=>hk.elim)).trans h.fr,fun k hk=>(h.sub k hk).imp id (fun x=>Nat.le_trans hf.size x)⟩
theorem Onx.other (h:Onx w0 sb b T0 w T n A P dd) {k:Nat} (hk:k<w0.heap.size) (hn:¬tfoot sb b T0 k):¬tfoot sb b T k:=fun hf=>by
 rcases h.sub k hf with e | e
 ·exact hn e
 ·omega
end
section
variable {w w' w0:World} {sb b:Nat} {T T0:Tay} {n:Nat} {A:Ab} {P:List (Int×Int)} {dd:Bool}
theorem StL.relay (h:StL w sb b T n A P dd) {F:Nat->Prop} (hf:Fr F w w') (hF:∀k,F k->k=sb\/k=T.mb\/T.sv.ownBlock=some k) (mb:Nat) (sv:Value) (P':List (Int×Int)) (dd':Bool)
  (cs:∀o,o<3->w'.cell? ⟨sb,o,none⟩=w.cell? ⟨sb,o,none⟩) (c3:w'.cell? ⟨sb,3,none⟩=some sv) (c4:w'.cell? ⟨sb,4,none⟩=some (.map (some mb))) (c5:w'.cell? ⟨sb,5,none⟩=some (.bool dd'))
  (zs:∀o,w'.frozen? ⟨sb,o,none⟩=false) (own:w'.ownsRow 0 161 2 sv P'.length (wcells P')) (map:∃D,w'.ownsMap Tryz.prog 3 (plainElem (H:=Unit) Tryz.prog 3) mb P'.length D/\Placed D P')
  (few:P'.length<=6144) (keys:∀x∈P',12400<=x.1/\x.1<12400+n) (hm:mb=T.mb\/w.heap.size<=mb) (hs:∀k,sv.ownBlock=some k->(T.sv.ownBlock=some k\/w.heap.size<=k)/\k≠mb) :
  Onx w sb b T w' { T with mb:=mb,sv:=sv } n A P' dd':=by
 have ltl:∀k,foot b T.L k->k<w.heap.size:=fun k hk=>h.lt k (.inl hk)
 have ltsb:sb<w.heap.size:=h.lt _ (.inr (.inl rfl))
 have ltlg:T.lg<w.heap.size:=h.lt _ (.inr (.inr (.inl rfl)))
 have nF:∀k,foot b T.L k->¬F k:=fun k hk hFk=>by
  rcases hF k hFk with rfl | rfl | e
  ·exact h.nsb hk
  ·exact h.nmb hk
  ·exact(h.nsv k e).1 hk
 have nL:¬F T.lg:=fun hFk=>by
  rcases hF _ hFk with e | e | e
  ·exact h.lgsb e
  ·exact h.mblg e.symm
  ·exact(h.nsv _ e).2.2.1 rfl
 refine⟨?_,hf.mono (fun k hk=>.inl ?_),?_⟩
 ·refine { dev:=h.dev.kept hf nF,log:=h.log.kept hf nL,words:=h.words,c0:=?_,c1:=?_,c2:=?_,c3:=c3,c4:=c4,c5:=c5,zs:=zs,own:=own,map:=map,few:=few,keys:=keys,nsb:=h.nsb,nlg:=h.nlg,nmb:=?_,nsv:=?_,lgsb:=h.lgsb,mbsb:=?_,mblg:=?_ }
  ·rw[cs 0 (by omega)];exact h.c0
  ·rw[cs 1 (by omega)];exact h.c1
  ·rw[cs 2 (by omega)];exact h.c2
  ·intro hk
   rcases hm with rfl | e
   ·exact h.nmb hk
   ·have:=ltl _ hk;exact absurd this (by show ¬mb<w.heap.size;omega)
  ·intro k hk
   obtain⟨h1,h2⟩:=hs k hk
   rcases h1 with h1 | h1
   ·obtain⟨a1,a2,a3,_⟩:=h.nsv k h1
    exact⟨a1,a2,a3,h2⟩
   ·exact⟨fun hk=>by have:=ltl _ hk;omega,by omega,by show k≠T.lg;omega,h2⟩
  ·rcases hm with rfl | e
   ·exact h.mbsb
   ·show mb≠sb;omega
  ·rcases hm with rfl | e
   ·exact h.mblg
   ·show mb≠T.lg;omega
 ·rcases hF k hk with e | e | e
  ·exact .inr (.inl e)
  ·exact .inr (.inr (.inr (.inl e)))
  ·exact .inr (.inr (.inr (.inr e)))
 ·rintro k (hk | hk | hk | hk | hk)
  ·exact .inl (.inl hk)
  ·exact .inl (.inr (.inl hk))
  ·exact .inl (.inr (.inr (.inl hk)))
  ·rcases hm with e | e
   ·exact .inl (.inr (.inr (.inr (.inl (hk.trans e)))))
   ·right;have:k=mb:=hk;omega
  ·rcases (hs k hk).1 with e | e
   ·exact .inl (.inr (.inr (.inr (.inr e))))
   ·exact .inr e
end
def put (P:List (Int×Int)) (j v:Int):List (Int×Int):=
 match P.findIdx? (fun x=>x.1 == j) with
 | some p=>P.set p (j,v)
 | none=>P ++ [(j,v)]
def Once (P:List (Int×Int)):Prop:=∀(p q:Nat) (x y:Int×Int),P[p]? = some x->P[q]? = some y->x.1=y.1->p=q
theorem Placed.once {D:DataW Unit} {P:List (Int×Int)} (h:Placed D P):Once P:=fun p q x y hp hq e=>by
 have h1:=(h.hit p x hp).2 .nil
 have h2:=(h.hit q y hq).2 .nil
 rw[e] at h1
 rw[h1] at h2
 have h3:(p:Int)=q:=by simpa using h2
 omega
theorem homed_one {P:List (Int×Int)} (h:Once P) {p:Nat} {x:Int×Int} (hp:P[p]? = some x) {j:Nat} (hj:x.1=j) (f:Nat->Int):homed P f j=x.2:=by
 unfold homed
 have hm:∃y,P.find? (fun y=>y.1 == (j:Int))=some y:=by
  rw[<-Option.isSome_iff_exists,List.find?_isSome]
  exact⟨x,List.mem_of_getElem? hp,by simp[hj]⟩
 obtain⟨y,hy⟩:=hm
 rw[hy]
 have hy1:=List.find?_some hy
 obtain⟨q,hq⟩:=List.getElem?_of_mem (List.mem_of_find?_eq_some hy)
 have:=h p q x y hp hq (by rw[hj];simpa using (beq_iff_eq.1 hy1).symm)
 subst this
 rw[hp] at hq
 simp at hq
 rw[hq]
theorem once_reverse {P:List (Int×Int)} (h:Once P) (f:Nat->Int):homed P.reverse f=homed P f:=by
 funext j
 by_cases hm:∃y∈P,y.1=(j:Int)
 ·obtain⟨y,hy,e⟩:=hm
  obtain⟨p,hp⟩:=List.getElem?_of_mem hy
  rw[homed_one h hp e]
  have hlt:p<P.length:=by
   rcases Nat.lt_or_ge p P.length with h1 | h1
   ·exact h1
   ·rw[List.getElem?_eq_none h1] at hp;cases hp
  have hr:P.reverse[P.length - 1 - p]? = some y:=by
   rw[List.getElem?_reverse (by omega),show P.length - 1 - (P.length - 1 - p)=p by omega];exact hp
  refine homed_one (fun a c x z ha hc exz=>?_) hr e f
  have la:a<P.length:=by
   rcases Nat.lt_or_ge a P.reverse.length with h1 | h1
   ·simpa using h1
   ·rw[List.getElem?_eq_none h1] at ha;cases ha
  have lc:c<P.length:=by
   rcases Nat.lt_or_ge c P.reverse.length with h1 | h1
   ·simpa using h1
   ·rw[List.getElem?_eq_none h1] at hc;cases hc
  rw[List.getElem?_reverse la] at ha
  rw[List.getElem?_reverse lc] at hc
  have:=h _ _ x z ha hc exz
  omega
 ·rw[homed_other (fun y hy e=>hm ⟨y,List.mem_reverse.1 hy,e⟩),homed_other (fun y hy e=>hm ⟨y,hy,e⟩)]
theorem findIdx_some {P:List (Int×Int)} {j:Int} {p:Nat} (h:P.findIdx? (fun x=>x.1 == j)=some p):∃v,P[p]? = some (j,v):=by
 rw[List.findIdx?_eq_some_iff_getElem] at h
 obtain⟨h1,h2,_⟩:=h
 refine⟨(P[p]).2,?_⟩
 rw[List.getElem?_eq_getElem h1]
 simp at h2
 rw[<-h2]
theorem findIdx_none {P:List (Int×Int)} {j:Int} (h:P.findIdx? (fun x=>x.1 == j)=none):∀x∈P,x.1≠j:=by
 rw[List.findIdx?_eq_none_iff] at h
 intro x hx e
 have:=h x hx
 simp[e] at this
theorem put_keys {P:List (Int×Int)} {j v:Int} {x:Int×Int} (h:x∈put P j v):x.1=j\/∃y∈P,y.1=x.1:=by
 unfold put at h
 split at h
 ·rcases List.mem_or_eq_of_mem_set h with h1 | h1
  ·exact .inr ⟨x,h1,rfl⟩
  ·exact .inl (by rw[h1])
 ·rcases List.mem_append.1 h with h1 | h1
  ·exact .inr ⟨x,h1,rfl⟩
  ·simp at h1;exact .inl (by rw[h1])
theorem homed_put {P:List (Int×Int)} (h:Once P) (j:Nat) (v:Int) (f:Nat->Int):homed (put P j v) f=upd (homed P f) j v/\Once (put P j v):=by
 have ho:Once (put P j v):=by
  unfold put
  split
  ·rename_i p hp
   obtain⟨u,hu⟩:=findIdx_some hp
   intro a c x y ha hc e
   have key:∀(a:Nat) (x:Int×Int),(P.set p ((j:Int),v))[a]? = some x->∃z,P[a]? = some z/\z.1=x.1:=by
    intro a x hx
    rw[List.getElem?_set] at hx
    split at hx
    ·rename_i ha
     subst ha
     split at hx
     ·simp at hx;exact⟨_,hu,by rw[<-hx]⟩
     ·cases hx
    ·exact⟨x,hx,rfl⟩
   obtain⟨z1,h1,e1⟩:=key a x ha
   obtain⟨z2,h2,e2⟩:=key c y hc
   exact h a c z1 z2 h1 h2 (by rw[e1,e2,e])
  ·rename_i hn
   have hn':=findIdx_none hn
   intro a c x y ha hc e
   have key:∀(a:Nat) (x:Int×Int),(P ++ [((j:Int),v)])[a]? = some x->(a<P.length/\P[a]? = some x)\/(a=P.length/\x=((j:Int),v)):=by
    intro a x hx
    rw[List.getElem?_append] at hx
    split at hx
    ·rename_i hl;exact .inl ⟨hl,hx⟩
    ·rename_i hl
     have:a - P.length=0:=by
      rcases Nat.eq_zero_or_pos (a - P.length) with h0 | h0
      ·exact h0
      ·rw[List.getElem?_eq_none (by simp;omega)] at hx;cases hx
     rw[this] at hx
     simp at hx
     exact .inr ⟨by omega,hx.symm⟩
   rcases key a x ha with ⟨l1,h1⟩ | ⟨l1,rfl⟩ <;> rcases key c y hc with ⟨l2,h2⟩ | ⟨l2,rfl⟩
   ·exact h a c x y h1 h2 e
   ·exact absurd e (hn' x (List.mem_of_getElem? h1))
   ·exact absurd e.symm (hn' y (List.mem_of_getElem? h2))
   ·omega
 refine⟨?_,ho⟩
 funext i
 by_cases hi:i=j
 ·subst hi
  rw[upd_same]
  have:∃p:Nat,(put P i v)[p]? = some ((i:Int),v):=by
   unfold put
   split
   ·rename_i p hp
    obtain⟨u,hu⟩:=findIdx_some hp
    have hlt:p<P.length:=by
     rcases Nat.lt_or_ge p P.length with h1 | h1
     ·exact h1
     ·rw[List.getElem?_eq_none h1] at hu;cases hu
    exact⟨p,by rw[List.getElem?_set_self hlt]⟩
   ·exact⟨P.length,by rw[List.getElem?_append_right (Nat.le_refl _)];simp⟩
  obtain⟨p,hp⟩:=this
  exact homed_one ho hp rfl f
 ·rw[upd_other _ _ hi]
  by_cases hm:∃y∈P,y.1=(i:Int)
  ·obtain⟨y,hy,e⟩:=hm
   obtain⟨q,hq⟩:=List.getElem?_of_mem hy
   rw[homed_one h hq e]
   refine homed_one ho (p:=q) ?_ e f
   unfold put
   split
   ·rename_i p hp
    obtain⟨u,hu⟩:=findIdx_some hp
    rw[List.getElem?_set_ne]
    ·exact hq
    ·intro epq
     subst epq
     rw[hu] at hq
     injection hq with hq'
     rw[<-hq'] at e
     have e':(j:Int)=i:=e
     omega
   ·have hlt:q<P.length:=by
     rcases Nat.lt_or_ge q P.length with h1 | h1
     ·exact h1
     ·rw[List.getElem?_eq_none h1] at hq;cases hq
    rw[List.getElem?_append_left hlt];exact hq
  ·rw[homed_other (fun y hy e=>hm ⟨y,hy,e⟩)]
   refine homed_other (fun y hy e=>?_) f
   rcases put_keys hy with e1 | ⟨z,hz,e1⟩
   ·rw[e] at e1;omega
   ·exact hm ⟨z,hz,by rw[e1,e]⟩
section
variable {w w' w0:World} {sb b:Nat} {T T0:Tay} {n:Nat} {A:Ab} {P:List (Int×Int)} {dd:Bool}
theorem StL.n8 (h:StL w sb b T n A P dd):n<=53136:=by have:=h.dev.n8;have:=h.words;omega
theorem StL.look_hit (h:StL w sb b T n A P dd) {p:Nat} {x:Int×Int} (hp:P[p]? = some x) (i:Int) (hi:x.1=12400+i) (hi2:i<65536) (hi0:0<=i) :
  (Instr.lookup 72 (.map (some T.mb)) (.int .i64 i) true).run Tryz.prog w = .ok (.tuple #[.int .i64 p,.bool true]) w:=by
 obtain⟨D,h1,h2⟩:=h.map
 obtain⟨v,ps,hrun,hv⟩:=h1.look_ok (zd:=.lit (.int .i64 0)) (zp:=[]) int_key Tryz.underlying72 (zero3 w) (plainElem_int Tryz.underlying3 (by decide)) (Maps.keyOf_int_mk (a:=i) Tryz.underlying3 (WalkArith.wf_i64 (by omega)))
 obtain⟨e1,e2⟩:=h2.hit p x hp
 rw[hi,show 12400+i - 12400=i by omega] at e1 e2
 rw[e2] at hv
 obtain⟨c,rfl,hc,_⟩:=plainElem_int_inv Tryz.underlying3 hv
 have hc':=congrArg Prod.fst hc
 have:c=p:=by simp at hc';omega
 rw[hrun,e1,this]
theorem StL.look_miss (h:StL w sb b T n A P dd) (i:Int) (hi:∀x∈P,x.1≠12400+i) (hi2:i<65536) (hi0:0<=i) :
  (Instr.lookup 72 (.map (some T.mb)) (.int .i64 i) true).run Tryz.prog w = .ok (.tuple #[.int .i64 0,.bool false]) w:=by
 obtain⟨D,h1,h2⟩:=h.map
 obtain⟨v,ps,hrun,hv⟩:=h1.look_ok (zd:=.lit (.int .i64 0)) (zp:=[]) int_key Tryz.underlying72 (zero3 w) (plainElem_int Tryz.underlying3 (by decide)) (Maps.keyOf_int_mk (a:=i) Tryz.underlying3 (WalkArith.wf_i64 (by omega)))
 have e1:=h2.miss (12400+i) hi
 rw[show 12400+i - 12400=i by omega] at e1
 rw[Maps.atKey_of_not_has e1] at hv
 obtain⟨c,rfl,hc,_⟩:=plainElem_int_inv Tryz.underlying3 hv
 have hc':=congrArg Prod.fst hc
 have:c=0:=by simp at hc';omega
 rw[hrun,e1,this]
theorem t_has (c2:w.cell? ⟨sb,2,none⟩=some (.int .i64 n)) (i:Int) (h0:0<=i) (hi:i<n):Calls Tryz.prog 104 #[ptr sb,.int .i64 i] w fun e w'=>e = .returned (.tuple #[])/\w'=w:=by
 go_enter Tryz.func104,Tryz.ntmps104
 go_wp2
 go_end0
 exact⟨rfl,rfl⟩
theorem t_live (h:StL w sb b T n A P false) (ha:A.dead=false):Calls Tryz.prog 81 #[ptr sb] w fun e w'=>e = .returned (.tuple #[])/\w'=w:=by
 have c0:=h.c0;have c5:=h.c5
 have D:=dead_any b A.dead w h.dev.c6
 rw[ha] at D
 clear h ha
 go_enter Tryz.func81,Tryz.ntmps81
 go_wp2_with (go_at_call 127;refine D.mono ?_;rintro e w' ⟨rfl,rfl⟩)
 go_end0
 exact⟨rfl,rfl⟩
theorem t_size (c2:w.cell? ⟨sb,2,none⟩=some (.int .i64 n)):Calls Tryz.prog 75 #[ptr sb] w fun e w'=>e = .returned (.int .i64 n)/\w'=w:=by
 go_enter Tryz.func75,Tryz.ntmps75
 go_wp2
 go_ret
 exact⟨rfl,rfl⟩
theorem StL.form (h:StL w sb b T n A P dd):(T.sv = .slice none 0 0/\P = [])\/∃g cap,T.sv = .slice (some ⟨g,0,none⟩) P.length cap:=by
 rcases h.own.2 with ⟨h1,h2⟩ | ⟨g,cap,cur,h1,_⟩
 ·exact .inl ⟨h1,List.eq_nil_of_length_eq_zero h2⟩
 ·exact .inr ⟨g,cap,h1⟩
theorem StL.form' (h:StL w sb b T n A P dd):∃a cap,T.sv = .slice a P.length cap:=by
 rcases h.form with ⟨h1,h2⟩ | ⟨g,cap,h1⟩
 ·exact⟨none,0,by rw[h1,h2];rfl⟩
 ·exact⟨_,cap,h1⟩
theorem t_load (h:StL w sb b T n A P false) (ha:A.dead=false) (i:Nat) (hi:i<n):Calls Tryz.prog 59 #[ptr sb,.int .i64 i] w fun e w'=>e = .returned (u64 (homed P A.now (12400+i)))/\w'=w:=by
 have H1:=t_has h.c2 i (by omega) (by omega)
 have H2:=t_live h ha
 have n8:=h.n8
 by_cases hm:∃x∈P,x.1=12400+(i:Int)
 ·obtain⟨x,hx,e⟩:=hm
  obtain⟨p,hp⟩:=List.getElem?_of_mem hx
  have lk:=h.look_hit hp i e (by omega) (by omega)
  obtain⟨D,hD1,hD2⟩:=h.map
  rw[homed_one hD2.once hp (j:=12400+i) (by rw[e];simp)]
  have hlt:p<P.length:=by
   rcases Nat.lt_or_ge p P.length with h1 | h1
   ·exact h1
   ·rw[List.getElem?_eq_none h1] at hp;cases hp
  rcases h.form with ⟨_,h2⟩ | ⟨g,cap,hsv⟩
  ·rw[h2] at hlt;simp at hlt
  have own:=h.own
  rw[hsv] at own
  have cv:w.cell? ⟨g,p * 2+1,none⟩=some (u64 x.2):=by
   rw[own.cellAt (p * 2+1) (by omega)];exact(wcells_at P p x hp).2
  have c3:=h.c3;have c4:=h.c4
  rw[hsv] at c3
  have few:=h.few
  generalize P.length=len at *
  generalize x.2=v at *
  clear h ha hD1 hD2 own hsv hp hx e
  go_enter Tryz.func59,Tryz.ntmps59
  go_wp2_with (first | (go_at_call 104;refine H1.mono ?_;rintro e w' ⟨rfl,rfl⟩) | (go_at_call 81;refine H2.mono ?_;rintro e w' ⟨rfl,rfl⟩))
  go_ret
  exact⟨rfl,rfl⟩
 ·have lk:=h.look_miss i (fun x hx e=>hm ⟨x,hx,e⟩) (by omega) (by omega)
  rw[homed_other (fun y hy e=>hm ⟨y,hy,by rw[e];simp⟩)]
  have c0:=h.c0;have c4:=h.c4
  have LD:=load_ok h.dev ha (12400+i) (by have:=h.words;omega)
  have HLD:=Hd LD
  clear h ha hm LD
  go_enter Tryz.func59,Tryz.ntmps59
  go_wp2_with (first | (go_at_call 104;refine H1.mono ?_;rintro e w' ⟨rfl,hh⟩;replace hh:=hh.symm;subst hh) | (go_at_call 81;refine H2.mono ?_;rintro e w' ⟨rfl,hh⟩;replace hh:=hh.symm;subst hh) | fail)
  refine(uh HLD).mono ?_
  rintro e w1 ⟨rfl,rfl⟩
  clear HLD lk
  go_wp2
  go_ret
  exact⟨rfl,rfl⟩
theorem t_forget (h:StL w sb b T n A P dd):Calls Tryz.prog 85 #[ptr sb] w fun e w'=>e = .returned (.tuple #[])/\∃T',T'.L=T.L/\Onx w sb b T w' T' n A [] dd:=by
 have c3:=h.c3;have z:=h.zs
 have hmm:=@run_makeMap Tryz.prog
 have lt:sb<w.heap.size:=h.lt _ (.inr (.inl rfl))
 have q4:((w.setCell ⟨sb,3,none⟩ (.slice none 0 0)).alloc (.map #[] 0)).cell? ⟨sb,4,none⟩=some (.map (some T.mb)):=by
  rw[World.cell?_alloc_lt _ _ _ (by simpa using lt),World.cell?_setCell_other _ _ _ _ (by simp)];exact h.c4
 have q5:((w.setCell ⟨sb,3,none⟩ (.slice none 0 0)).alloc (.map #[] 0)).frozen? ⟨sb,4,none⟩=false:=by
  rw[((Fr.refl (fun _=>False) (w.setCell ⟨sb,3,none⟩ (.slice none 0 0))).alloc (.map #[] 0)).frozen (by simpa using lt) id,World.frozen?_setCell];exact z 4
 have H:=Hd h
 clear h
 go_enter Tryz.func85,Tryz.ntmps85
 go_wp2
 go_end0
 have h:=uh H
 refine⟨rfl,_,?_,h.relay (F:=fun k=>k=sb) ?_ (fun k hk=>.inl hk) w.heap.size (.slice none 0 0) [] dd ?_ ?_ ?_ ?_ ?_ (World.ownsRow_nil _ _ _ _) ?_ (by simp) (by simp) (.inr (Nat.le_refl _)) (fun k hk=>by simp[Value.ownBlock] at hk)⟩
 ·rfl
 ·exact(((Fr.refl (fun k=>k=sb) w).setCell (.inl rfl) _).setCell (.inl rfl) _).alloc _
 ·intro o ho
  rw[World.cell?_alloc_lt _ _ _ (by simpa using lt),World.cell?_setCell_other _ _ _ _ (by simp <;> omega),World.cell?_setCell_other _ _ _ _ (by simp <;> omega)]
 ·rw[World.cell?_alloc_lt _ _ _ (by simpa using lt),World.cell?_setCell_other _ _ _ _ (by simp),World.cell?_setCell_same _ _ _ h.c3]
 ·rw[World.cell?_alloc_lt _ _ _ (by simpa using lt)]
  exact World.cell?_setCell_same _ _ _ ((World.cell?_setCell_other _ _ _ _ (by simp)).trans h.c4)
 ·rw[World.cell?_alloc_lt _ _ _ (by simpa using lt),World.cell?_setCell_other _ _ _ _ (by simp),World.cell?_setCell_other _ _ _ _ (by simp)];exact h.c5
 ·intro o
  rw[((Fr.refl (fun _=>False) _).alloc (.map #[] 0)).frozen (by simpa using lt) id,World.frozen?_setCell,World.frozen?_setCell];exact z o
 ·refine⟨.map [],?_,⟨Maps.isMap_empty,fun p x hp=>by simp at hp,fun j hj=>rfl⟩⟩
  have:=World.ownsMap_made (H:=Unit) ((w.setCell ⟨sb,3,none⟩ (.slice none 0 0)).setCell ⟨sb,4,none⟩ (.map (some w.heap.size))) Tryz.prog 3 (plainElem Tryz.prog 3)
  simpa using this
end
section
variable {w w' w0:World} {sb b:Nat} {T T0:Tay} {n:Nat} {A:Ab} {P:List (Int×Int)} {dd:Bool}
theorem wcells_set (P:List (Int×Int)) (p:Nat) (x:Int×Int) (hp:P[p]? = some x) (v:Int):wcells (P.set p (x.1,v))=(wcells P).set (p * 2+1) (u64 v):=by
 induction P generalizing p with
 | nil=>simp at hp
 | cons y l ih=>
  cases p with
  | zero=>
   simp at hp
   subst hp
   simp[wcells]
  | succ q=>
   simp at hp
   have:=ih q hp
   rw[show(q+1) * 2+1=(q * 2+1)+1+1 by omega]
   simp only[wcells,List.flatMap_cons,List.set_cons_succ] at this ⊢
   rw[List.cons_append,List.cons_append,List.cons_append,List.cons_append,List.set_cons_succ,List.set_cons_succ,List.nil_append,List.nil_append,this]
theorem put_hit {j:Int} {p:Nat} {x:Int×Int} (ho:Once P) (hp:P[p]? = some x) (hj:x.1=j) (v:Int):put P j v=P.set p (x.1,v):=by
 have hlt:p<P.length:=by
  rcases Nat.lt_or_ge p P.length with h1 | h1
  ·exact h1
  ·rw[List.getElem?_eq_none h1] at hp;cases hp
 unfold put
 split
 ·rename_i q hq
  obtain⟨u,hu⟩:=findIdx_some hq
  have:=ho q p _ _ hu hp hj.symm
  subst this
  rw[hj]
 ·rename_i hn
  exact absurd hj (findIdx_none hn x (List.mem_of_getElem? hp))
theorem put_miss {j:Int} (hm:∀x∈P,x.1≠j) (v:Int):put P j v=P ++ [(j,v)]:=by
 unfold put
 split
 ·rename_i q hq
  obtain⟨u,hu⟩:=findIdx_some hq
  exact absurd rfl (hm _ (List.mem_of_getElem? hu))
 ·rfl
theorem Placed.set {D:DataW Unit} (h:Placed D P) {p:Nat} {x:Int×Int} (hp:P[p]? = some x) (v:Int):Placed D (P.set p (x.1,v)):=by
 have hlt:p<P.length:=by
  rcases Nat.lt_or_ge p P.length with h1 | h1
  ·exact h1
  ·rw[List.getElem?_eq_none h1] at hp;cases hp
 refine⟨h.isMap,fun q y hq=>?_,fun j hj=>h.miss j fun y hy e=>?_⟩
 ·rw[List.getElem?_set] at hq
  split at hq
  ·rename_i e
   subst e
   obtain rfl:(x.1,v)=y:=by simpa [hlt] using hq
   exact h.hit p x hp
  ·exact h.hit q y hq
 ·obtain⟨q,hq⟩:=List.getElem?_of_mem hy
  by_cases e2:q=p
  ·subst e2
   rw[hp] at hq
   injection hq with hq
   subst hq
   exact hj (x.1,v) (List.mem_of_getElem? (i:=q) (by rw[List.getElem?_set_self hlt])) e
  ·exact hj y (List.mem_of_getElem? (i:=q) (by rw[List.getElem?_set_ne (Ne.symm e2)];exact hq)) e
theorem Placed.snoc {D:DataW Unit} (h:Placed D P) {j:Int} (hm:∀x∈P,x.1≠j) (v:Int):Placed (D.put (.int .i64 (j - 12400)) (.lit (.int .i64 P.length))) (P ++ [(j,v)]):=by
 refine⟨h.isMap.put _ _,fun q y hq=>?_,fun i hi=>?_⟩
 ·rw[List.getElem?_append] at hq
  split at hq
  ·have hne:(Lit.int .i64 (y.1 - 12400)) ≠ .int .i64 (j - 12400):=fun e=>by
    have e2:y.1 - 12400=j - 12400:=by injection e
    exact hm y (List.mem_of_getElem? hq) (by omega)
   rw[Maps.has_put_other hne]
   exact⟨(h.hit q y hq).1,fun z=>by rw[Maps.atKey_put_other hne];exact(h.hit q y hq).2 z⟩
  ·rename_i hl
   have h0:q - P.length=0:=by
    rcases Nat.eq_zero_or_pos (q - P.length) with h0 | h0
    ·exact h0
    ·rw[List.getElem?_eq_none (by simp;omega)] at hq;cases hq
   rw[h0] at hq
   have hq':y=(j,v):=by simpa using hq.symm
   subst hq'
   have:q=P.length:=by omega
   subst this
   exact⟨Maps.has_put_same h.isMap (show WideAt.IsKeyLit (.int .i64 _) from trivial) _,fun z=>Maps.atKey_put_same h.isMap (show WideAt.IsKeyLit (.int .i64 _) from trivial) _ _⟩
 ·have h1:∀x∈P,x.1≠i:=fun x hx=>hi x (List.mem_append_left _ hx)
  have h2:j≠i:=hi (j,v) (by simp)
  have hne:(Lit.int .i64 (i - 12400)) ≠ .int .i64 (j - 12400):=fun e=>by
   have e2:i - 12400=j - 12400:=by injection e
   omega
  rw[Maps.has_put_other hne]
  exact h.miss i h1
theorem t_put_old (h:StL w sb b T n A P false) (ha:A.dead=false) (i:Nat) (v:Int) (hi:i<n) (x:Int×Int) (hx:x∈P) (hxi:x.1=12400+(i:Int)) :
  Calls Tryz.prog 123 #[ptr sb,.int .i64 i,u64 v] w fun e w'=>e = .returned (.tuple #[])/\∃T',T'.L=T.L/\Onx w sb b T w' T' n A (put P (12400+(i:Int)) v) false:=by
 have H1:=t_has h.c2 i (by omega) (by omega)
 have H2:=t_live h ha
 have n8:=h.n8
 obtain⟨p,hp⟩:=List.getElem?_of_mem hx
 have hlt:p<P.length:=by
  rcases Nat.lt_or_ge p P.length with h1 | h1
  ·exact h1
  ·rw[List.getElem?_eq_none h1] at hp;cases hp
 have lk:=h.look_hit hp i hxi (by omega) (by omega)
 obtain⟨D,hD1,hD2⟩:=h.map
 rcases h.form with ⟨_,h2⟩ | ⟨g,cap,hsv⟩
 ·rw[h2] at hlt;simp at hlt
 have own:=h.own
 rw[hsv] at own
 have cv:w.cell? ⟨g,p * 2+1,none⟩=some (u64 x.2):=by
  rw[own.cellAt (p * 2+1) (by omega)];exact(wcells_at P p x hp).2
 have cz:=own.frozenAt (p * 2+1)
 have c3:=h.c3;have c4:=h.c4
 rw[hsv] at c3
 have few:=h.few
 have e1:=put_hit hD2.once hp hxi v
 have st:=own.stored (p * 2+1) (u64 v)
 have ng:=h.nsv g (by rw[hsv];rfl)
 have fin:Onx w sb b T (w.setCell ⟨g,p * 2+1,none⟩ (u64 v)) { T with mb:=T.mb,sv:=T.sv } n A (put P (12400+(i:Int)) v) false:=by
  have ce:∀o,(w.setCell ⟨g,p * 2+1,none⟩ (u64 v)).cell? ⟨sb,o,none⟩=w.cell? ⟨sb,o,none⟩:=fun o=>World.cell?_setCell_other _ _ _ _ (fun e=>ng.2.1 (by injection e))
  rw[e1]
  refine h.relay (F:=fun k=>k=g) ((Fr.refl (fun k=>k=g) w).setCell (.inl rfl) _) (fun k hk=>.inr (.inr (by rw[hk,hsv];rfl))) T.mb T.sv _ false (fun o _=>ce o) ?_ ?_ ?_ (fun o=>by rw[World.frozen?_setCell];exact h.zs o) ?_ ⟨D,?_,hD2.set hp v⟩ ?_ ?_ (.inl rfl) (fun k hk=>⟨.inl hk,(h.nsv k hk).2.2.2⟩)
  ·rw[ce];exact h.c3
  ·rw[ce];exact h.c4
  ·rw[ce];exact h.c5
  ·rw[hsv,List.length_set,wcells_set P p x hp v];exact st.1
  ·rw[List.length_set];exact ownsMap_block hD1 (Below.heap_setCell _ _ _ _ (Ne.symm ng.2.2.2)) (by simp)
  ·rw[List.length_set];exact few
  ·intro y hy
   rcases List.mem_or_eq_of_mem_set hy with hy | hy
   ·exact h.keys y hy
   ·rw[hy];exact h.keys x hx
 have HFIN:=Hd fin
 generalize P.length=len at *
 clear h ha hD1 hD2 own hsv hp hx st e1 fin ng
 go_enter Tryz.func123,Tryz.ntmps123
 go_wp2_with (first | (go_at_call 104;refine H1.mono ?_;rintro e w' ⟨rfl,hh⟩;replace hh:=hh.symm;subst hh) | (go_at_call 81;refine H2.mono ?_;rintro e w' ⟨rfl,hh⟩;replace hh:=hh.symm;subst hh))
 refine bodyPost_ret (results_none rfl _ _ _) rfl ?_
 exact⟨rfl,_,rfl,uh HFIN⟩
theorem t_put_new (h:StL w sb b T n A P false) (ha:A.dead=false) (i:Nat) (v:Int) (hi:i<n) (hm:∀x∈P,x.1≠12400+(i:Int)) (hb:P.length<6144) :
  Calls Tryz.prog 123 #[ptr sb,.int .i64 i,u64 v] w fun e w'=>e = .returned (.tuple #[])/\∃T',T'.L=T.L/\Onx w sb b T w' T' n A (put P (12400+(i:Int)) v) false:=by
 have H1:=t_has h.c2 i (by omega) (by omega)
 have H2:=t_live h ha
 have n8:=h.n8
 have lk:=h.look_miss i hm (by omega) (by omega)
 obtain⟨D,hD1,hD2⟩:=h.map
 obtain⟨a,cap,hsv⟩:=h.form'
 have c3:=h.c3;have c4:=h.c4
 rw[hsv] at c3
 have HH:=Hd h;have HD1:=Hd hD1;have HD2:=Hd hD2;have HM:=Hd hm;have HSV:=Hd hsv
 generalize hlen:P.length=len at *
 have HLEN:=Hd hlen
 have hne:((len:Int) == 6144)=false:=by simp;omega
 clear h ha hD1 hD2 hsv hm hlen
 go_enter Tryz.func123,Tryz.ntmps123
 go_wp2_with (first | (go_at_call 104;refine H1.mono ?_;rintro e w' ⟨rfl,hh⟩;replace hh:=hh.symm;subst hh) | (go_at_call 81;refine H2.mono ?_;rintro e w' ⟨rfl,hh⟩;replace hh:=hh.symm;subst hh) | fail)
 refine region_tailP 10 (by kernel_rfl) (by kernel_rfl) ?_
 simp only[List.take_succ_cons,List.take_zero,List.drop_succ_cons,List.drop_zero]
 repeat (go_big_quiet_step (first | fail))
 refine wpQuiet_nil ?_
 rintro _ ⟨nq,rfl⟩
 clear lk H1 H2
 have om:=(uh HD1).kept (w':=w.drewN nq) (row:=none) ⟨rfl,rfl,rfl,Nat.le_refl _,fun _ _ _=>rfl⟩ (by simp)
 have ltm:sb<w.heap.size:=(uh HH).lt _ (.inr (.inl rfl))
 have nm:sb≠T.mb:=Ne.symm (uh HH).mbsb
 have fin:∀w1,(w.drewN nq).grownBy w1 (some T.mb)->Fr (fun k=>k=T.mb) w w1:=fun w1 hg=>((Fr.refl (fun k=>k=T.mb) w).drewN nq).grown hg (fun k e=>.inl (by injection e with e;exact e.symm))
 have q3:∀w1,(w.drewN nq).grownBy w1 (some T.mb)->w1.cell? ⟨sb,3,none⟩=some (.slice a len cap):=fun w1 hg=>(fin w1 hg).cell' c3 nm
 have hi2:=info_wr
 obtain⟨i0,hi0⟩:∃i,Tryz.prog.info? 161=some i:=by
  cases h:Tryz.prog.info? 161 with
  | none=>rw[h] at hi2;simp at hi2
  | some i=>exact⟨i,rfl⟩
 rw[hi0] at hi2
 simp only[Option.map_some,Option.some.injEq,Prod.mk.injEq] at hi2
 have ow:∀w1,(w.drewN nq).grownBy w1 (some T.mb)->w1.ownsRow 0 161 2 (.slice a len cap) len (wcells P):=fun w1 hg=>by
  have h:=uh HH
  have:=h.own
  rw[uh HSV,uh HLEN] at this
  exact owns_same this (fun k hk=>(fin w1 hg).block k (this.lt k hk).2 (fun e=>(h.nsv k (by rw[uh HSV];exact hk)).2.2.2 e))
 have HI:=Hd (ai hi0 hi2);have HQ3:=@Hd _ q3;have HFN:=@Hd _ fin;have HOW:=@Hd _ ow
 clear hi0 hi2 q3 fin ow
 go_wp2_with (first | (at_mapUpdate;refine wpList_mapUpdate_own _ rfl _ _ _ 72 rfl 3 3 int_key Tryz.underlying72 _ T.mb len D rfl om (by unfold maxLen;omega) _ _ _ rfl rfl (Maps.keyOf_int_mk (a:=(i:Int)) Tryz.underlying3 (WalkArith.wf_i64 (by omega))) _ [] (plainElem_int (a:=(len:Int)) Tryz.underlying3 (WalkArith.wf_i64 (by omega))) ?_;intro w1 hown1 hgrow1;have c3n:=uh HQ3 w1 hgrow1;clear c3 c4) | (at_builtin;refine wpList_append_own_at _ rfl _ _ 71 rfl 0 161 i0 (.agg #[.int .i64 0,.int .u64 0]) 2 16 Tryz.underlying71 (uh HI).1 (uh HI).2.1 (uh HI).2.2.1 (uh HI).2.2.2 rfl (by decide) _ len (wcells P) rfl ((uh HOW w1 hgrow1).alloc _) _ 1 1 [.int .i64 (12400+(i:Int)),u64 v] rfl rfl ?c1 ?c2 ?c3 ?c4 ?c5 ?_) | fail)
 case c1=>exact pair_news _ _ _ _
 case c2=>intro u hu;simp at hu;rcases hu with rfl | rfl <;> rfl
 case c3=>unfold maxLen;omega
 case c4=>omega
 case c5=>simp
 intro v' w6 hown hgrow hnil hloc
 have h:=uh HH
 have f1:=uh HFN w1 hgrow1
 have o1:=uh HOW w1 hgrow1
 have hsv:=uh HSV
 have f6:Fr (fun k=>k=T.mb\/some k=(Value.slice a len cap).ownBlock) w w6:=
  (f1.mono (G:=fun k=>k=T.mb\/some k=(Value.slice a len cap).ownBlock) (fun k e=>.inl (.inl e))).trans' (((Fr.refl (fun r=>some r=(Value.slice a len cap).ownBlock) w1).alloc _).grown hgrow (fun r e=>.inl e.symm)) (fun r hr=>.inl (.inr hr))
 have n6:¬(sb=T.mb\/some sb=(Value.slice a len cap).ownBlock):=fun e=>by
  rcases e with e | e
  ·exact nm e
  ·exact(h.nsv sb (by rw[hsv];exact e.symm)).2.1 rfl
 have cs:∀o x,w.cell? ⟨sb,o,none⟩=some x->w6.cell? ⟨sb,o,none⟩=some x:=fun o x hx=>f6.cell' hx n6
 have c63:=cs 3 _ h.c3
 have z6:∀o,w6.frozen? ⟨sb,o,none⟩=false:=fun o=>(f6.frozen (p:=⟨sb,o,none⟩) ltm n6).trans (h.zs o)
 obtain⟨g,cp,hv'⟩:∃g cp,v' = .slice (some ⟨g,0,none⟩) (len+1) cp:=by
  rcases hown.2 with ⟨e,_⟩ | ⟨g,cp,_,e,_⟩
  ·exact absurd e hnil
  ·exact⟨g,cp,e⟩
 subst hv'
 have gnew:T.sv.ownBlock=some g\/w.heap.size<=g:=by
  rcases hloc with e | e
  ·left;rw[hsv,<-e];rfl
  ·right
   have:g=w1.heap.size+1:=by simpa [Value.ownBlock] using e
   have:=f1.size
   omega
 have ngs:g≠sb:=fun e=>by
  rcases gnew with h1 | h1
  ·exact(h.nsv g h1).2.1 e
  ·omega
 have ngm:g≠T.mb:=fun e=>by
  rcases gnew with h1 | h1
  ·exact(h.nsv g h1).2.2.2 e
  ·have:T.mb<w.heap.size:=h.lt _ (.inr (.inr (.inr (.inl rfl))));omega
 have e1:=put_miss (uh HM) v
 have lm1:T.mb<w1.heap.size:=Nat.lt_of_lt_of_le (h.lt _ (.inr (.inr (.inr (.inl rfl))))) f1.size
 have fin:Onx w sb b T (w6.setCell ⟨sb,3,none⟩ (.slice (some ⟨g,0,none⟩) (len+1) cp)) { T with mb:=T.mb,sv:=.slice (some ⟨g,0,none⟩) (len+1) cp } n A (put P (12400+(i:Int)) v) false:=by
  rw[e1]
  have lenE:(P ++ [((12400:Int)+i,v)]).length=len+1:=by rw[List.length_append,uh HLEN];rfl
  refine h.relay (F:=fun k=>k=sb\/k=T.mb\/T.sv.ownBlock=some k) ((f6.mono (G:=fun k=>k=sb\/k=T.mb\/T.sv.ownBlock=some k) (fun k e=>.inl (e.elim (fun x=>.inr (.inl x)) (fun x=>.inr (.inr (by rw[hsv];exact x.symm)))))).setCell (.inl (.inl rfl)) _) (fun k hk=>hk) T.mb _ _ false (fun o ho=>?_) (World.cell?_setCell_same _ _ _ c63) ?_ ?_ (fun o=>by rw[World.frozen?_setCell];exact z6 o) ?_ ⟨_,?_,(uh HD2).snoc (uh HM) v⟩ ?_ ?_ (.inl rfl) (fun k hk=>?_)
  ·rw[World.cell?_setCell_other _ _ _ _ (by simp <;> omega)]
   rcases (show o=0\/o=1\/o=2 by omega) with rfl | rfl | rfl
   ·rw[cs 0 _ h.c0,h.c0]
   ·rw[cs 1 _ h.c1,h.c1]
   ·rw[cs 2 _ h.c2,h.c2]
  ·rw[World.cell?_setCell_other _ _ _ _ (by simp)];exact cs 4 _ h.c4
  ·rw[World.cell?_setCell_other _ _ _ _ (by simp)];exact cs 5 _ h.c5
  ·rw[lenE,wcells_app]
   exact owns_same hown (fun k hk=>Below.heap_setCell _ _ _ _ (by
    have:g=k:=by simpa [Value.ownBlock] using hk
    show k≠sb;omega))
  ·rw[lenE,uh HLEN,show(12400:Int)+i - 12400=i by omega]
   refine ownsMap_block hown1 ?_ ?_
   ·rw[Below.heap_setCell _ _ _ _ (show T.mb≠sb from h.mbsb),hgrow.block T.mb (by simp;omega) (fun e=>(h.nsv T.mb (by rw[hsv];exact e.symm)).2.2.2 rfl)]
    exact Below.heap_alloc _ _ _ lm1
   ·have h5:=hgrow.size
    have h6:(w1.alloc (Obj.cells #[.int .i64 (12400+(i:Int)),u64 v] 161)).heap.size=w1.heap.size+1:=by simp
    have h7:(w6.setCell ⟨sb,3,none⟩ (.slice (some ⟨g,0,none⟩) (len+1) cp)).heap.size=w6.heap.size:=by simp
    omega
  ·rw[lenE];omega
  ·intro y hy
   rcases List.mem_append.1 hy with hy | hy
   ·exact h.keys y hy
   ·have:y=((12400:Int)+i,v):=by simpa using hy
    rw[this]
    exact⟨by show(12400:Int)<=12400+i;omega,by show(12400:Int)+i<12400+n;omega⟩
  ·have:g=k:=by simpa [Value.ownBlock] using hk
   subst this
   exact⟨gnew,ngm⟩
 have HFIN:=Hd fin
 clear h fin e1 gnew ngs ngm hown hgrow hnil hloc f1 o1 hsv f6 n6 cs lm1 hown1 hgrow1 om HFN HOW HQ3 HI HD1 HD2 HM HH HSV HLEN c3n hne
 go_wp2
 go_end0
 refine⟨rfl,_,?_,uh HFIN⟩
 rfl
theorem t_put (h:StL w sb b T n A P false) (ha:A.dead=false) (i:Nat) (v:Int) (hi:i<n) (hb:P.length<6144\/∃x∈P,x.1=12400+(i:Int)) :
  Calls Tryz.prog 123 #[ptr sb,.int .i64 i,u64 v] w fun e w'=>e = .returned (.tuple #[])/\∃T',T'.L=T.L/\Onx w sb b T w' T' n A (put P (12400+(i:Int)) v) false:=by
 by_cases hm:∃x∈P,x.1=12400+(i:Int)
 ·obtain⟨x,hx,e⟩:=hm
  exact t_put_old h ha i v hi x hx e
 ·exact t_put_new h ha i v hi (fun x hx e=>hm ⟨x,hx,e⟩) (hb.elim id (fun x=>absurd x hm))
end
end

section
open Go.RowKit Go.Sort
theorem Fr.grow1 {w w':World} {g:Nat} (h:w.grownBy w' (some g)):Fr (fun j=>j=g) w w':=
 ⟨h.os,h.tape,h.output,h.size,fun k hk hn=>h.block k hk (fun e=>hn (by cases e;rfl))⟩
theorem sort_own (W:World) (base g cap:Nat) (zs:List Int) (hl:zs.length<=65536) (h:W.ownsRow base 3 1 (.slice (some ⟨g,0,none⟩) zs.length cap) zs.length (zs.map (Value.int .i64))) :
  Calls Tryz.prog 72 #[.slice (some ⟨g,0,none⟩) zs.length cap] W fun e W'=>e = .returned (.tuple #[])/\∃ts:List Int,(∀x,x∈ts ↔ x∈zs)/\ts.length=zs.length/\Fr (fun j=>j=g) W W'/\
   W'.ownsRow base 3 1 (.slice (some ⟨g,0,none⟩) ts.length cap) ts.length (ts.map (Value.int .i64)):=by
 rcases h.2 with ⟨hn,_⟩ | ⟨g',cap',cur,hv,hbase,hb,h1,h2,h3,h4⟩
 ·cases hn
 cases hv
 have hH:=holds_of_blockI hb (by simpa using h4)
 refine(Tryz.slices_Sort_int g 0 cap zs W hH (Array.getElem?_eq_some_iff.1 hb).1 (by omega)).mono ?_
 rintro e W' ⟨rfl,n,os,rfl⟩
 have hlen:(zs.mergeSort fun x y=>decide (x<=y)).length=zs.length:=List.length_mergeSort _
 refine⟨rfl,zs.mergeSort fun x y=>decide (x<=y),fun x=>List.mem_mergeSort,hlen,Fr.grow1 (grownBy_sortedI _),?_⟩
 have:=ownsRow_sortedI (n:=n) (os:=os) hlen hbase hb h1 h2 h3
 rw[hlen]
 exact this
theorem compact_own (W:World) (base g cap:Nat) (ts:List Int) (hl:ts.length<=65536) (h:W.ownsRow base 3 1 (.slice (some ⟨g,0,none⟩) ts.length cap) ts.length (ts.map (Value.int .i64))) :
  Calls Tryz.prog 171 #[.slice (some ⟨g,0,none⟩) ts.length cap] W fun e W'=>∃us:List Int,e = .returned (.slice (some ⟨g,0,none⟩) us.length cap)/\(∀x,x∈us ↔ x∈ts)/\us.length<=ts.length/\Fr (fun j=>j=g) W W'/\
   ∀j x,us[j]? = some x->W'.cell? ⟨g,j,none⟩=some (.int .i64 x):=by
 rcases h.2 with ⟨hn,_⟩ | ⟨g',cap',cur,hv,hbase,hb,h1,h2,h3,h4⟩
 ·cases hn
 cases hv
 have hH:=holds_of_blockI hb (by simpa using h4)
 refine(Tryz.slices_Compact_int g 0 cap ts W hH (by omega) h1).mono ?_
 rintro e W' ⟨rfl,q,rfl⟩
 have hlen:(Lib.compact ts).length<=ts.length:=by
  unfold Lib.compact Lib.compactUpTo
  rw[List.length_map]
  exact Nat.le_trans (List.length_filter_le _ _) (by simp)
 refine⟨Lib.compact ts,rfl,fun x=>mem_compact ts,hlen,?_,fun j x hx=>?_⟩
 ·have:=grownBy_sortedI (w:=W) (g:=g) (n:=q) (os:=#[]) (Lib.compact ts ++ List.replicate (ts.length - (Lib.compact ts).length) 0).toArray
  simp only[grow,Array.append_empty] at this
  exact Fr.grow1 this
 ·have hj:j<(Lib.compact ts).length:=(List.getElem?_eq_some_iff.1 hx).1
  have:=cell?_putRow (Value.int .i64) (Sort.ahead W q) g 0 ts.toArray (Lib.compact ts ++ List.replicate (ts.length - (Lib.compact ts).length) 0).toArray hH (by simp;omega) j (by simp;omega)
  rw[Nat.zero_add] at this
  rw[this]
  have e1:(Lib.compact ts ++ List.replicate (ts.length - (Lib.compact ts).length) 0).toArray[j]! = x:=by
   rw[getElem!_pos _ j (by simp;omega)]
   simp only[List.getElem_toArray]
   rw[List.getElem_append_left hj]
   exact(List.getElem?_eq_some_iff.1 hx).2
  rw[e1]
end
end Go.Proofs.YtbiopjmpdhcjgaaGreatDoor
