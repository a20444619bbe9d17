/- Joined: NvD RdA. -/
import Derived.Defers
import Derived.Recover
import Derived.Laws.Bits64b
import Derived.BigQuiet
import Derived.Test.YtbiopjmpdhcjgaaGreatDoorS00
import Derived.Test.YtbiopjmpdhcjgaaGreatDoorS01
import Derived.Test.YtbiopjmpdhcjgaaGreatDoorS02
namespace Go.Proofs.YtbiopjmpdhcjgaaGreatDoor
open Go.RowKit
set_option maxHeartbeats 4000000

section
def Enters (g:Nat):Prop:=∀(args:Array Value) (w:World),(callFunc g args).run Tryz.prog w = .ok (.enter g args) w
abbrev boxed (w:World) (word:Int):World:=(w.alloc (.cells #[.int .i64 word] 3)).alloc (.cells #[.int .i64 0] 3)
section
variable {word:Int} {g:Nat} {first cap:Array Value} {w:World} {F:Nat->Prop} {R:World->Prop}
end
structure At (w0:World) (b:Nat) (F:Nat->Prop) (G:Nat->Option Obj) (w:World) (A:Ab):Prop where
 ex:∃L,DevL w b L A/\∀k,foot b L k->F k\/w0.heap.size<=k
 fr:Fr (fun k=>F k\/(G k).isSome=true) w0 w
 gs:∀k o,G k=some o->w.heap[k]? = some o/\¬F k/\k<w0.heap.size
section
variable {w0 w:World} {b:Nat} {F:Nat->Prop} {G:Nat->Option Obj} {A:Ab}
theorem At.start {L:Lay} (h:DevL w b L A) (G:Nat->Option Obj) (hG:∀k o,G k=some o->w.heap[k]? = some o/\¬foot b L k):At w b (foot b L) G w A:=
 ⟨⟨L,h,fun _=>.inl⟩,Fr.refl _ _,fun k o e=>⟨(hG k o e).1,(hG k o e).2,(Array.getElem?_eq_some_iff.1 (hG k o e).1).1⟩⟩
theorem At.cell (h:At w0 b F G w A) {p:Addr} {v:Value} (hv:w0.cell? p=some v) (hF:¬F p.block) (hG:G p.block=none):w.cell? p=some v:=
 h.fr.cell' hv (fun e=>e.elim hF (by rw[hG];simp))
theorem At.hf (h:At w0 b F G w A) {L:Lay} (hL:∀k,foot b L k->F k\/w0.heap.size<=k) {k:Nat} {o:Obj} (hk:G k=some o):¬foot b L k:=fun hf=>by
 obtain⟨_,n,l⟩:=h.gs k o hk
 rcases hL k hf with e | e
 ·exact n e
 ·omega
theorem At.step (h:At w0 b F G w A) {w':World} {L L':Lay} {A':Ab} (hL:∀k,foot b L k->F k\/w0.heap.size<=k) (d':DevL w' b L' A') (f':Fr (foot b L) w w') (s':∀k,foot b L' k->foot b L k\/w.heap.size<=k):At w0 b F G w' A':=by
 refine⟨⟨L',d',fun k hk=>?_⟩,h.fr.trans' f' (fun k hk=>(hL k hk).elim (fun e=>.inl (.inl e)) .inr),fun k o e=>?_⟩
 ·rcases s' k hk with e | e
  ·exact hL k e
  ·exact .inr (Nat.le_trans h.fr.size e)
 ·obtain⟨g1,g2,g3⟩:=h.gs k o e
  exact⟨(f'.block k (Nat.lt_of_lt_of_le g3 h.fr.size) (h.hf hL e)).trans g1,g2,g3⟩
theorem At.more (h:At w0 b F G w A) {w':World} (hf:Fr (fun _=>False) w w'):At w0 b F G w' A:=by
 obtain⟨L,d,hL⟩:=h.ex
 exact⟨⟨L,d.keptF hf,hL⟩,h.fr.trans' hf (fun k hk=>hk.elim),fun k o e=>by
  obtain⟨g1,g2,g3⟩:=h.gs k o e
  exact⟨(hf.block k (Nat.lt_of_lt_of_le g3 h.fr.size) id).trans g1,g2,g3⟩⟩
theorem At.alloc (h:At w0 b F G w A) (o:Obj):At w0 b F G (w.alloc o) A:=h.more ((Fr.refl _ w).alloc o)
theorem At.drew (h:At w0 b F G w A):At w0 b F G w.drew A:=h.more ((Fr.refl _ w).drew)
theorem At.drewN (h:At w0 b F G w A) (n:Nat):At w0 b F G (w.drewN n) A:=h.more ((Fr.refl _ w).drewN n)
theorem At.setCell (h:At w0 b F G w A) {k:Nat} {cs:Array Value} {t:TypeId} (hk:G k=some (.cells cs t (0,0))) (i:Nat) (v:Value) :
  At w0 b F (upd G k (some (.cells (cs.setIfInBounds i v) t (0,0)))) (w.setCell ⟨k,i,none⟩ v) A:=by
 obtain⟨L,d,hL⟩:=h.ex
 have hf:Fr (fun j=>j=k) w (w.setCell ⟨k,i,none⟩ v):=(Fr.refl (fun j=>j=k) w).setCell (.inl rfl) v
 obtain⟨g1,g2,g3⟩:=h.gs k _ hk
 refine⟨⟨L,d.kept hf (fun j hj e=>h.hf hL hk (by rw[<-e];exact hj)),hL⟩,?_,fun j o e=>?_⟩
 ·refine(h.fr.mono (G:=fun j=>F j\/(upd G k (some (Obj.cells (cs.setIfInBounds i v) t (0,0))) j).isSome=true) (fun j hj=>.inl ?_)).trans' hf (fun j hj=>.inl (.inr (by subst hj;rw[upd_same];rfl)))
  rcases hj with e | e
  ·exact .inl e
  ·refine .inr ?_
   by_cases ej:j=k
   ·subst ej;rw[upd_same];rfl
   ·rw[upd_other _ _ ej];exact e
 ·by_cases ej:j=k
  ·subst ej
   rw[upd_same] at e
   cases e
   exact⟨heap_setCell_same w j i cs t v g1,g2,g3⟩
  ·rw[upd_other _ _ ej] at e
   obtain⟨q1,q2,q3⟩:=h.gs j o e
   exact⟨(Below.heap_setCell _ _ _ _ ej).trans q1,q2,q3⟩
end
section
variable {V:World} {b:Nat} {L:Lay} {A A':Ab} {G G':Nat->Option Obj} {g:Nat} {first cap:Array Value} {word:Int}
end
theorem wrap_small (x:Int) (h0:0<=x) (h:x<4294967296):IntKind.i64.wrap x=x/\IntKind.u64.wrap x=x:=by
 rw[IntKind.wrap_i64,IntKind.wrap_u64];omega
end

section
structure LogAt (w:World) (lg b at_ ws:Nat):Prop where
 c0:w.cell? ⟨lg,0,none⟩=some (ptr b)
 c1:w.cell? ⟨lg,1,none⟩=some (.int .i64 at_)
 c2:w.cell? ⟨lg,2,none⟩=some (.int .i64 ws)
theorem LogAt.kept {w w':World} {lg b at_ ws:Nat} (h:LogAt w lg b at_ ws) {F:Nat->Prop} (hf:Fr F w w') (hF:¬F lg):LogAt w' lg b at_ ws:=
 ⟨hf.cell' h.c0 hF,hf.cell' h.c1 hF,hf.cell' h.c2 hF⟩
theorem LogAt.drewN {w:World} {lg b at_ ws:Nat} (h:LogAt w lg b at_ ws) (n:Nat):LogAt (w.drewN n) lg b at_ ws:=⟨h.c0,h.c1,h.c2⟩
theorem place_ok {w:World} {lg b at_ ws:Nat} (h:LogAt w lg b at_ ws) (ha:at_<=65536) (k:Nat) (hk:k<=65536) :
  Calls Tryz.prog 167 #[ptr lg,.int .i64 k] w fun e w'=>e = .returned (.int .i64 ((at_:Int)+8+2 * k))/\w'=w:=by
 have c1:=h.c1
 clear h
 go_enter Tryz.func167,Tryz.ntmps167
 go_wp2
 go_ret
 exact⟨rfl,rfl⟩
theorem most_ok {w:World} {lg b at_ ws:Nat} (h:LogAt w lg b at_ ws) (ha:16<=ws) (hw:ws<=65536) :
  Calls Tryz.prog 129 #[ptr lg] w fun e w'=>e = .returned (.int .i64 (((ws - 16) / 2:Nat):Int))/\w'=w:=by
 have c2:=h.c2
 clear h
 go_enter Tryz.func129,Tryz.ntmps129
 go_wp2
 go_ret
 refine⟨?_,rfl⟩
 show Ending.returned (Value.int IntKind.i64 (((ws:Int) - 16) / 2))=_
 rw[show((ws:Int) - 16) / 2=(((ws - 16) / 2:Nat):Int) by omega]
def outside (n at_:Nat) (word en:Int):Prop:=0<=word/\word<n * 8/\(word<at_\/en<=word)
theorem outside_yes {w:World} {lg b at_ ws bn n kn:Nat} (h:LogAt w lg b at_ ws) (hn:n<=8192) (h0:w.cell? ⟨b,0,none⟩=some (rowc bn n kn)) (word en:Int) (ho:outside n at_ word en) :
  Calls Tryz.prog 128 #[ptr lg,.int .i64 word,.int .i64 en] w fun e w'=>e = .returned (.bool true)/\w'=w:=by
 have c0:=h.c0
 have c1:=h.c1
 clear h
 obtain⟨o1,o2,o3⟩:=ho
 by_cases h3:word<at_
 ·clear o3
  go_enter Tryz.func128,Tryz.ntmps128
  go_wp2_with (go_at_call 117;refine(words_any b bn n _ hn h0).mono ?_;rintro e w' ⟨rfl,rfl⟩)
  go_ret
  exact⟨rfl,rfl⟩
 ·have h4:en<=word:=by rcases o3 with h | h;exact absurd h h3;exact h
  clear o3
  go_enter Tryz.func128,Tryz.ntmps128
  go_wp2_with (go_at_call 117;refine(words_any b bn n _ hn h0).mono ?_;rintro e w' ⟨rfl,rfl⟩)
  go_ret
  exact⟨rfl,rfl⟩
theorem fromEnd_ok (lg:Nat) (n:Int) (w:World) :
  Calls Tryz.prog 170 #[ptr lg,.int .i64 n] w fun e w'=>e = .returned (.func (.func 197) #[] #[.pointer (some ⟨w.heap.size+1,0,none⟩),.pointer (some ⟨w.heap.size,0,none⟩)])/\w'=(w.alloc (.cells #[ptr lg] 70)).alloc (.cells #[.int .i64 n] 3):=by
 go_enter Tryz.func170,Tryz.ntmps170
 go_wp2
 go_ret
 exact⟨rfl,rfl⟩
structure Mid (N:Nat) (free:Prop) (A:Ab) (s:Int) (f g:Nat->Int) (fl:List Nat):Prop where
 n:A.n=N
 dead:A.dead=false
 big:A.fuse<9223372036854775808
 fz:free->A.fuse<0
 st:A.steps<=s
 lasts:∀j,A.lasts j=f j
 now:∀j,A.now j=g j
 way:∀a,A.way a=if a∈fl then some (fun k=>g (a * 8+k)) else none
abbrev Calm (N:Nat) (free:Prop) (A:Ab) (s:Int) (f:Nat->Int):Prop:=Mid N free A s f f []
structure Torn (N:Nat) (A:Ab) (s:Int) (f g:Nat->Int):Prop where
 n:A.n=N
 st:A.steps<=s
 lasts:∀j,A.lasts j=f j
 now:∀j,A.now j=g j
section
variable {N:Nat} {free:Prop} {A:Ab} {s:Int} {f g:Nat->Int} {fl:List Nat}
theorem Mid.torn (h:Mid N free A s f g fl):Torn N { A with dead:=true } s f g:=⟨h.n,h.st,h.lasts,h.now⟩
theorem Torn.more (h:Torn N A s f g) {t:Int} (ht:s<=t):Torn N A t f g:=⟨h.n,Int.le_trans h.st ht,h.lasts,h.now⟩
theorem Mid.more (h:Mid N free A s f g fl) {t:Int} (ht:s<=t):Mid N free A t f g fl:={ h with st:=Int.le_trans h.st ht }
theorem Mid.tick (h:Mid N free A s f g fl):Mid N free A.tick (s+1) f g fl:=by
 refine { h with big:=?_,fz:=?_,st:=?_ }
 ·have:=h.big;show(if 0<A.fuse then A.fuse - 1 else A.fuse)<_;split <;> omega
 ·intro hf;have:=h.fz hf;show(if 0<A.fuse then A.fuse - 1 else A.fuse)<0;rw[if_neg (by omega)];exact this
 ·have:=h.st;show A.steps+1<=s+1;omega
theorem Mid.live (h:Mid N free A s f g fl) (h0:A.fuse≠0) (hs:s<4294967296):Live A:=⟨h.dead,h0,h.big,by have:=h.st;omega⟩
theorem Mid.store (h:Mid N free A s f g []) (j:Nat) (v:Int):Mid N free (A.store j v) s f (upd g j v) []:=by
 refine { h with now:=fun i=>?_,way:=fun a=>?_ }
 ·show upd A.now j v i=upd g j v i
  by_cases e:i=j
  ·subst e;rw[upd_same,upd_same]
  ·rw[upd_other _ _ e,upd_other _ _ e];exact h.now i
 ·show A.way a=_
  rw[h.way a];simp
theorem Mid.sent (h:Mid N free A s f g fl) (a:Nat):Mid N free (A.sendLine a) s f g (a :: fl):=by
 refine { h with way:=fun i=>?_ }
 show upd A.way a _ i=_
 by_cases e:i=a
 ·subst e
  rw[upd_same,if_pos (by simp)]
  congr 1
  funext k
  exact h.now _
 ·rw[upd_other _ _ e,h.way i]
  simp[e]
theorem Mid.fenced (h:Mid N free A s f g fl) (hc:∀j,g j≠f j->j / 8∈fl):Calm N free A.fenced s g:=by
 refine { h with lasts:=fun j=>?_,way:=fun a=>?_ }
 ·show(match A.way (j / 8) with | some l=>l (j % 8) | none=>A.lasts j)=g j
  rw[h.way]
  by_cases e:j / 8∈fl
  ·rw[if_pos e]
   show g (j / 8 * 8+j % 8)=g j
   rw[show j / 8 * 8+j % 8=j by omega]
  ·rw[if_neg e]
   show A.lasts j=g j
   rw[h.lasts]
   exact(Classical.byContradiction fun hn=>e (hc j (fun e'=>hn e'.symm)))
 ·show none=_
  simp
theorem fresh_calm (n:Nat) (free:Prop):Calm n free (Ab.fresh n) 0 (fun _=>0):=
 ⟨rfl,rfl,by simp[Ab.fresh],fun _=>by simp[Ab.fresh],Int.le_refl _,fun _=>rfl,fun _=>rfl,fun _=>by simp[Ab.fresh]⟩
end
def DM (w:World) (b:Nat) (L:Lay) (w':World) (P:Ab->Prop):Prop:=
 ∃L' A',DevL w' b L' A'/\P A'/\Fr (foot b L) w w'/\∀k,foot b L' k->foot b L k\/w.heap.size<=k
theorem DM.mono {w w':World} {b:Nat} {L:Lay} {P P':Ab->Prop} (h:DM w b L w' P) (hp:∀A,P A->P' A):DM w b L w' P':=
 let ⟨L',A',d,p,r⟩:=h;⟨L',A',d,hp _ p,r⟩
theorem DM.refl {w:World} {b:Nat} {L:Lay} {A:Ab} (d:DevL w b L A) {P:Ab->Prop} (hp:P A):DM w b L w P:=⟨L,A,d,hp,Fr.refl _ _,fun _=>.inl⟩
theorem DM.after {w w1 w':World} {b:Nat} {L:Lay} {P:Ab->Prop} (h:DM w1 b L w' P) (hf:Fr (fun _=>False) w w1):DM w b L w' P:=by
 obtain⟨L',A',d,p,f,s⟩:=h
 exact⟨L',A',d,p,(hf.mono (G:=foot b L) (fun k hk=>hk.elim)).trans f,fun k hk=>(s k hk).imp id (fun x=>Nat.le_trans hf.size x)⟩
theorem DM.trans {w w1 w2:World} {b:Nat} {L L1:Lay} {P:Ab->Prop} (h:DM w1 b L1 w2 P) (f1:Fr (foot b L) w w1) (s1:∀k,foot b L1 k->foot b L k\/w.heap.size<=k):DM w b L w2 P:=by
 obtain⟨L2,A2,d2,p2,f2,s2⟩:=h
 exact⟨L2,A2,d2,p2,f1.trans' f2 s1,fun k hk=>(s2 k hk).elim (s1 k) (fun x=>.inr (Nat.le_trans f1.size x))⟩
theorem DM.more {w w1 w2:World} {b:Nat} {L:Lay} {P:Ab->Prop} (h:DM w b L w1 P) (hf:Fr (fun _=>False) w1 w2):DM w b L w2 P:=by
 obtain⟨L',A',d,p,f,s⟩:=h
 exact⟨L',A',d.keptF hf,p,f.trans' hf (fun k hk=>hk.elim),s⟩
def Ends (w:World) (b:Nat) (L:Lay) (ok torn:Ab->Prop) (e:Ending) (w':World):Prop:=
 (e = .returned (.tuple #[])/\DM w b L w' ok)\/(e = .panicked lost/\DM w b L w' torn)
section
variable {w:World} {b:Nat} {L:Lay} {N:Nat} {free:Prop} {A:Ab} {s:Int} {f g:Nat->Int} {fl:List Nat}
theorem d_store (d:DevL w b L A) (h:Mid N free A s f g []) (hs:s<4294967296) (j:Nat) (hj:j<N * 8) (v:Int) :
  Calls Tryz.prog 166 #[ptr b,.int .i64 j,u64 v] w (Ends w b L (fun A'=>Mid N free A' (s+1) f (upd g j v) []) (fun A'=>¬free/\Torn N A' s f g)):=by
 have hj':j<A.n * 8:=by rw[h.n];exact hj
 by_cases h0:A.fuse=0
 ·refine(store_lost d (.inr h0) j v (by omega) (by omega)).mono ?_
  rintro e w' ⟨rfl,d',f'⟩
  exact .inr ⟨rfl,L,_,d',⟨fun hf=>by have:=h.fz hf;omega,h.torn⟩,f',fun _=>.inl⟩
 ·refine(store_ok d (h.live h0 hs) j hj' v).mono ?_
  rintro e w' ⟨rfl,d',f'⟩
  exact .inl ⟨rfl,L,_,d',(h.tick).store j v,f',fun _=>.inl⟩
theorem d_flush (d:DevL w b L A) (h:Mid N free A s f g fl) (hs:s+1<4294967296) (j:Nat) (hj:j<N * 8) :
  Calls Tryz.prog 168 #[ptr b,.int .i64 j] w (Ends w b L (fun A'=>Mid N free A' (s+1) f g (j / 8 :: fl)) (fun A'=>¬free/\Torn N A' s f g)):=by
 have hj':j<A.n * 8:=by rw[h.n];exact hj
 by_cases h0:A.fuse=0
 ·refine(flush_lost d (.inr h0) j (by omega) (by omega)).mono ?_
  rintro e w' ⟨rfl,d',f'⟩
  exact .inr ⟨rfl,L,_,d',⟨fun hf=>by have:=h.fz hf;omega,h.torn⟩,f',fun _=>.inl⟩
 ·refine(flush_ok d (h.live h0 (by omega)) (by have:=h.st;omega) j hj').mono ?_
  rintro e w' ⟨rfl,L',d',f',s'⟩
  exact .inl ⟨rfl,L',_,d',(h.tick).sent (j / 8),f',s'⟩
theorem d_fence (d:DevL w b L A) (h:Mid N free A s f g fl) (hs:s+1<4294967296) (hc:∀j,g j≠f j->j / 8∈fl) :
  Calls Tryz.prog 169 #[ptr b] w (Ends w b L (fun A'=>Calm N free A' (s+1) g) (fun A'=>¬free/\Torn N A' s f g)):=by
 by_cases h0:A.fuse=0
 ·refine(fence_lost d (.inr h0)).mono ?_
  rintro e w' ⟨rfl,d',f'⟩
  exact .inr ⟨rfl,L,_,d',⟨fun hf=>by have:=h.fz hf;omega,h.torn⟩,f',fun _=>.inl⟩
 ·refine(fence_ok d (h.live h0 (by omega)) (by have:=h.st;omega)).mono ?_
  rintro e w' ⟨rfl,L',d',f',s'⟩
  exact .inl ⟨rfl,L',_,d',(h.tick).fenced hc,f',fun k hk=>.inl (s' k hk)⟩
theorem d_load (d:DevL w b L A) (h:Mid N free A s f g fl) (j:Nat) (hj:j<N * 8) :
  Calls Tryz.prog 105 #[ptr b,.int .i64 j] w fun e w'=>e = .returned (u64 (g j))/\w'=w:=by
 have:=load_ok d h.dead j (by rw[h.n];exact hj)
 rw[h.now j] at this
 exact this
end
structure On (w0:World) (b:Nat) (L0:Lay) (w:World) (L:Lay) (A:Ab):Prop where
 d:DevL w b L A
 fr:Fr (foot b L0) w0 w
 sub:∀k,foot b L k->foot b L0 k\/w0.heap.size<=k
section
variable {w0 w w':World} {b:Nat} {L0 L:Lay} {A:Ab} {N:Nat} {free:Prop} {s:Int} {f g:Nat->Int} {fl:List Nat} {ok torn:Ab->Prop} {e:Ending}
theorem On.start (d:DevL w b L A):On w b L w L A:=⟨d,Fr.refl _ _,fun _=>.inl⟩
theorem On.quiet (h:On w0 b L0 w L A) (hf:Fr (fun _=>False) w w'):On w0 b L0 w' L A:=⟨h.d.keptF hf,h.fr.trans' hf (fun _ hk=>hk.elim),h.sub⟩
theorem On.drewN (h:On w0 b L0 w L A) (n:Nat):On w0 b L0 (w.drewN n) L A:=h.quiet ((Fr.refl _ w).drewN n)
theorem On.alloc (h:On w0 b L0 w L A) (o:Obj):On w0 b L0 (w.alloc o) L A:=h.quiet ((Fr.refl _ w).alloc o)
theorem On.log {lg at_ ws:Nat} (h:On w0 b L0 w L A) (hl:LogAt w0 lg b at_ ws) (hlg:¬foot b L0 lg):LogAt w lg b at_ ws:=hl.kept h.fr hlg
theorem DM.on {P:Ab->Prop} (h:DM w0 b L0 w P):∃L A,On w0 b L0 w L A/\P A:=let ⟨L,A,d,p,f,s⟩:=h;⟨L,A,⟨d,f,s⟩,p⟩
theorem On.ends (h:On w0 b L0 w L A) (k:Ends w b L ok torn e w'):Ends w0 b L0 ok torn e w':=
 k.imp (fun⟨x,y⟩=>⟨x,y.trans h.fr h.sub⟩) (fun⟨x,y⟩=>⟨x,y.trans h.fr h.sub⟩)
theorem On.dmd (h:On w0 b L0 w L A) {P:Ab->Prop} (k:DM w b L w' P):DM w0 b L0 w' P:=k.trans h.fr h.sub
theorem On.other (h:On w0 b L0 w L A) {k:Nat} (hk:k<w0.heap.size) (hn:¬foot b L0 k):¬foot b L k:=fun hf=>by
 rcases h.sub k hf with e | e
 ·exact hn e
 ·omega
theorem On.trans {w1:World} {L1:Lay} {A1:Ab} (h:On w0 b L0 w L A) (k:On w b L w1 L1 A1):On w0 b L0 w1 L1 A1:=
 ⟨k.d,h.fr.trans' k.fr h.sub,fun j hj=>(k.sub j hj).elim (h.sub j) (fun x=>.inr (Nat.le_trans h.fr.size x))⟩
theorem On.new (h:On w0 b L0 w L A) {k:Nat} (hk:w.heap.size<=k):¬foot b L k:=fun hf=>by have:=h.d.lt k hf;omega
theorem o_store (o:On w0 b L0 w L A) (h:Mid N free A s f g []) (hs:s<4294967296) (i:Int) (j:Nat) (hi:i=j) (hj:j<N * 8) (v:Int) :
  Calls Tryz.prog 166 #[ptr b,.int .i64 i,u64 v] w (Ends w0 b L0 (fun A'=>Mid N free A' (s+1) f (upd g j v) []) (fun A'=>¬free/\Torn N A' s f g)):=by
 subst hi;exact(d_store o.d h hs j hj v).mono fun _ _=>o.ends
theorem o_flush (o:On w0 b L0 w L A) (h:Mid N free A s f g fl) (hs:s+1<4294967296) (i:Int) (j:Nat) (hi:i=j) (hj:j<N * 8) :
  Calls Tryz.prog 168 #[ptr b,.int .i64 i] w (Ends w0 b L0 (fun A'=>Mid N free A' (s+1) f g (j / 8 :: fl)) (fun A'=>¬free/\Torn N A' s f g)):=by
 subst hi;exact(d_flush o.d h hs j hj).mono fun _ _=>o.ends
theorem o_fence (o:On w0 b L0 w L A) (h:Mid N free A s f g fl) (hs:s+1<4294967296) (hc:∀j,g j≠f j->j / 8∈fl) :
  Calls Tryz.prog 169 #[ptr b] w (Ends w0 b L0 (fun A'=>Calm N free A' (s+1) g) (fun A'=>¬free/\Torn N A' s f g)):=(d_fence o.d h hs hc).mono fun _ _=>o.ends
end
section
variable {w0 w:World} {b:Nat} {L0 L:Lay} {N:Nat} {free:Prop} {A:Ab} {s:Int} {f:Nat->Int} {lg at_ ws:Nat}
theorem mark_ok (o:On w0 b L0 w L A) (hl:LogAt w0 lg b at_ ws) (hlg:¬foot b L0 lg) (h:Calm N free A s f) (hs:s+3<4294967296) (hat:at_<N * 8) (m:Int) :
  Calls Tryz.prog 131 #[ptr lg,u64 m] w (Ends w0 b L0 (fun A'=>Calm N free A' (s+3) (upd f at_ m)) (fun A'=>¬free/\∃g,(g=f\/g=upd f at_ m)/\Torn N A' (s+3) f g)):=by
 have c0:=(o.log hl hlg).c0
 have c1:=(o.log hl hlg).c1
 have HO:=Hd o;have HL:=Hd hl;have HG:=Hd hlg;have HC:=Hd h
 clear o hl hlg h
 go_enter Tryz.func131,Tryz.ntmps131
 go_wp2_with fail
 refine region_tailP 9 (by kernel_rfl) (by kernel_rfl) ?_
 simp only[List.take_succ_cons,List.take_zero,List.drop_succ_cons,List.drop_zero]
 repeat (go_big_quiet_step (fail))
 refine wpQuiet_nil ?_
 rintro _ ⟨nq,rfl⟩
 go_wp2_with fail
 refine(o_store ((uh HO).drewN nq) (uh HC) (by omega) _ at_ rfl hat m).mono ?_
 rintro e w1 (⟨rfl,D⟩ | ⟨rfl,D⟩)
 rotate_left
 ·exact⟨rfl,.inr ⟨rfl,D.mono fun A' t=>⟨t.1,f,.inl rfl,t.2.more (by omega)⟩⟩⟩
 obtain⟨L1,A1,o1,h1⟩:=D.on
 have c0:=(o1.log (uh HL) (uh HG)).c0
 have c1:=(o1.log (uh HL) (uh HG)).c1
 have H1:=Hd o1;have K1:=Hd h1
 clear o1 h1 D HO HC
 go_wp2_with fail
 refine region_tailP 8 (by kernel_rfl) (by kernel_rfl) ?_
 simp only[List.take_succ_cons,List.take_zero,List.drop_succ_cons,List.drop_zero]
 repeat (go_big_quiet_step (fail))
 refine wpQuiet_nil ?_
 rintro _ ⟨nq2,rfl⟩
 go_wp2_with fail
 refine(o_flush ((uh H1).drewN nq2) (uh K1) (by omega) _ at_ rfl hat).mono ?_
 rintro e w2 (⟨rfl,D⟩ | ⟨rfl,D⟩)
 rotate_left
 ·exact⟨rfl,.inr ⟨rfl,D.mono fun A' t=>⟨t.1,_,.inr rfl,t.2.more (by omega)⟩⟩⟩
 obtain⟨L2,A2,o2,h2⟩:=D.on
 have c0:=(o2.log (uh HL) (uh HG)).c0
 have H2:=Hd o2;have K2:=Hd h2
 clear o2 h2 D H1 K1
 go_wp2_with fail
 refine(o_fence (uh H2) (uh K2) (by omega) ?_).mono ?_
 ·intro j hj
  by_cases e:j=at_
  ·subst e;simp
  ·exact absurd (upd_other _ _ e) hj
 rintro e w3 (⟨rfl,D⟩ | ⟨rfl,D⟩)
 rotate_left
 ·exact⟨rfl,.inr ⟨rfl,D.mono fun A' t=>⟨t.1,_,.inr rfl,t.2.more (by omega)⟩⟩⟩
 have DD:=Hd D
 clear D H2 K2
 go_wp2
 go_end0
 exact .inl ⟨rfl,(uh DD).mono fun A' t=>t.more (by omega)⟩
end
def WrAt (w:World) (xb xo:Nat) (xs:List (Int×Int)):Prop:=
 ∀k x,xs[k]? = some x->w.cell? ⟨xb,xo+k * 2,none⟩=some (.int .i64 x.1)/\w.cell? ⟨xb,xo+k * 2+1,none⟩=some (u64 x.2)
theorem WrAt.kept {w w':World} {xb xo:Nat} {xs:List (Int×Int)} (h:WrAt w xb xo xs) {F:Nat->Prop} (hf:Fr F w w') (hF:¬F xb):WrAt w' xb xo xs:=
 fun k x hx=>⟨hf.cell' (h k x hx).1 hF,hf.cell' (h k x hx).2 hF⟩
def ent (xs:List (Int×Int)) (i:Nat):Int:=if i % 2=0 then (xs.getD (i / 2) (0,0)).1 else (xs.getD (i / 2) (0,0)).2
def noted (at_:Nat) (xs:List (Int×Int)) (f:Nat->Int) (m j:Nat):Int:=if at_+8<=j/\j<at_+8+m then ent xs (j - (at_+8)) else f j
theorem noted_zero (at_:Nat) (xs:List (Int×Int)) (f:Nat->Int):noted at_ xs f 0=f:=by
 funext j;unfold noted;rw[if_neg (by omega)]
theorem noted_step (at_:Nat) (xs:List (Int×Int)) (f:Nat->Int) (m:Nat):upd (noted at_ xs f m) (at_+8+m) (ent xs m)=noted at_ xs f (m+1):=by
 funext j
 by_cases e:j=at_+8+m
 ·subst e
  rw[upd_same];unfold noted;rw[if_pos (by omega),show at_+8+m - (at_+8)=m by omega]
 ·rw[upd_other _ _ e];unfold noted
  by_cases h:at_+8<=j/\j<at_+8+m
  ·rw[if_pos h,if_pos (by omega)]
  ·rw[if_neg h,if_neg (by omega)]
theorem ent_word {xs:List (Int×Int)} {k:Nat} {x:Int×Int} (h:xs[k]? = some x):ent xs (2 * k)=x.1:=by
 unfold ent;rw[if_pos (by omega),show 2 * k / 2=k by omega,List.getD_eq_getElem?_getD,h];rfl
theorem ent_val {xs:List (Int×Int)} {k:Nat} {x:Int×Int} (h:xs[k]? = some x):ent xs (2 * k+1)=x.2:=by
 unfold ent;rw[if_neg (by omega),show(2 * k+1) / 2=k by omega,List.getD_eq_getElem?_getD,h];rfl
def lns (a0:Nat):Nat->List Nat
 | 0=>[]
 | q+1=>(a0+q) :: lns a0 q
theorem mem_lns (a0 a:Nat):∀q,a∈lns a0 q ↔ a0<=a/\a<a0+q
 | 0=>by simp[lns]
 | q+1=>by simp only[lns,List.mem_cons,mem_lns a0 a q];omega
section
variable {w0 w:World} {b:Nat} {L0 L:Lay} {N:Nat} {free:Prop} {A:Ab} {s:Int} {f:Nat->Int} {lg at_ ws:Nat}
theorem note_ok (o:On w0 b L0 w L A) (hl:LogAt w0 lg b at_ ws) (hlg:¬foot b L0 lg) (h:Calm N free A s f) (xb xo cap:Nat) (xs:List (Int×Int)) (hx:WrAt w0 xb xo xs) (hxb:¬foot b L0 xb)
  (hxs:∀x∈xs,0<=x.1/\x.1<N * 8) (h8:at_ % 8=0) (hws:at_+16+2 * xs.length<=N * 8) (hN:N<=8192) (hs:s+3 * xs.length+2<4294967296) :
  Calls Tryz.prog 130 #[ptr lg,.slice (some ⟨xb,xo,none⟩) xs.length cap] w (Ends w0 b L0 (fun A'=>Calm N free A' (s+3 * xs.length+2) (noted at_ xs f (2 * xs.length)))
   (fun A'=>¬free/\∃g,(∀j,(j<at_+8\/at_+8+2 * xs.length<=j)->g j=f j)/\Torn N A' (s+3 * xs.length+2) f g)):=by
 have HO:=Hd o;have HL:=Hd hl;have HG:=Hd hlg;have HC:=Hd h;have HX:=Hd hx;have HXB:=Hd hxb;have HXS:=Hd hxs
 clear o hl hlg h hx hxb hxs
 generalize hlen:xs.length=len at *
 have HLEN:=Hd hlen
 clear hlen
 go_enter Tryz.func130,Tryz.ntmps130
 go_wp2
 go_loopw [9] (fun i wr=>∃k:Nat,k<=len/\i = .int .i64 k/\∃L1 A1,On w0 b L0 wr L1 A1/\Mid N free A1 (s+2 * k) f (noted at_ xs f (2 * k)) []) (fun i wr=>len - (intOf i).toNat)
 case atStart=>exact⟨0,Nat.zero_le _,rfl,L,A,uh HO,by rw[Nat.mul_zero,noted_zero];simpa using uh HC⟩
 case round=>
  obtain⟨k,hk,rfl,L1,A1,o1,m1⟩:=hrel
  by_cases hlt:k<len
  ·obtain⟨x,hxk⟩:∃x,xs[k]? = some x:=⟨_,List.getElem?_eq_getElem (by rw[uh HLEN];exact hlt)⟩
   have hxb:=(uh HXS) x (List.mem_of_getElem? hxk)
   obtain⟨cw,cv⟩:=(uh HX).kept o1.fr (uh HXB) k x hxk
   have wr1:=(wrap_small x.1 hxb.1 (by omega)).2
   have lr:=o1.log (uh HL) (uh HG)
   have HO1:=Hd o1;have HM1:=Hd m1;have HLR:=Hd lr;have HXK:=Hd hxk
   clear o1 m1 lr hxk
   go_wp2
   obtain⟨W1,hW1⟩:∃W1,wr.alloc (.cells #[.int .i64 x.1,.int .u64 x.2] 161)=W1:=⟨_,rfl⟩
   have o2:On w0 b L0 W1 L1 A1:=hW1▸(uh HO1).alloc _
   have x0:W1.cell? ⟨wr.heap.size,0,none⟩=some (.int .i64 x.1):=by rw[<-hW1];exact cell_of_row _ _ _ _ _ _ (heap_alloc_new wr _)
   have x1:W1.cell? ⟨wr.heap.size,1,none⟩=some (.int .u64 x.2):=by rw[<-hW1];exact cell_of_row _ _ _ _ _ _ (heap_alloc_new wr _)
   have nf:¬foot b L1 wr.heap.size:=(uh HO1).new (Nat.le_refl _)
   rw[hW1]
   generalize wr.heap.size=bx at *
   have l2:=o2.log (uh HL) (uh HG)
   have c0:=l2.c0
   have HO2:=Hd o2;have HL2:=Hd l2;have HNF:=Hd nf;have HX0:=Hd x0;have HX1:=Hd x1
   clear hW1 o2 l2 nf cw cv HO1 HLR x1
   refine region_tailP 10 (by kernel_rfl) (by kernel_rfl) ?_
   simp only[List.take_succ_cons,List.take_zero,List.drop_succ_cons,List.drop_zero]
   repeat (go_big_quiet_step (first | (go_at_call 167;exact Calls.quiet_of_same (place_ok ((uh HL2).drewN _) (by omega) k (by omega)))))
   refine wpQuiet_nil ?_
   rintro _ ⟨nq,rfl⟩
   clear c0 x0
   go_wp2_with fail
   refine(o_store (On.start ((uh HO2).drewN nq).d) (uh HM1) (by omega) _ (at_+8+2 * k) (by omega) (by omega) x.1).mono ?_
   rintro e w1 (⟨rfl,D⟩ | ⟨rfl,D⟩)
   rotate_left
   ·exact⟨rfl,.inr ⟨rfl,(((uh HO2).drewN nq).dmd D).mono fun A' t=>⟨t.1,_,fun j hj=>by unfold noted;rw[if_neg (by omega)],t.2.more (by omega)⟩⟩⟩
   obtain⟨L3,A3,o3,m3⟩:=D.on
   rw[<-ent_word (uh HXK),noted_step] at m3
   have x1:w1.cell? ⟨bx,1,none⟩=some (.int .u64 x.2):=o3.fr.cell' (uh HX1) (uh HNF)
   have o4:=((uh HO2).drewN nq).trans o3
   have l4:=o4.log (uh HL) (uh HG)
   have c0:=l4.c0
   have HO4:=Hd o4;have HL4:=Hd l4;have HM3:=Hd m3
   clear D o3 m3 o4 l4 HO2 HL2 HM1
   go_wp2_with fail
   refine region_tailP 10 (by kernel_rfl) (by kernel_rfl) ?_
   simp only[List.take_succ_cons,List.take_zero,List.drop_succ_cons,List.drop_zero]
   repeat (go_big_quiet_step (first | (go_at_call 167;exact Calls.quiet_of_same (place_ok ((uh HL4).drewN _) (by omega) k (by omega)))))
   refine wpQuiet_nil ?_
   rintro _ ⟨nq2,rfl⟩
   clear c0 x1
   go_wp2_with fail
   refine(o_store ((uh HO4).drewN nq2) (uh HM3) (by omega) _ (at_+8+(2 * k+1)) (by omega) (by omega) x.2).mono ?_
   rintro e w1 (⟨rfl,D⟩ | ⟨rfl,D⟩)
   rotate_left
   ·exact⟨rfl,.inr ⟨rfl,D.mono fun A' t=>⟨t.1,_,fun j hj=>by unfold noted;rw[if_neg (by omega)],t.2.more (by omega)⟩⟩⟩
   obtain⟨L5,A5,o5,m5⟩:=D.on
   rw[<-ent_val (uh HXK),noted_step] at m5
   have HO5:=Hd o5;have HM5:=Hd m5
   clear D o5 m5 HO4 HL4 HM3
   go_wp2
   exact⟨⟨k+1,by omega,by go_num,L5,A5,uh HO5,by rw[show 2 * (k+1)=2 * k+1+1 by omega];exact(uh HM5).more (by omega)⟩,by simp[intOf];omega⟩
  ·obtain rfl:k=len:=by omega
   have l1:=o1.log (uh HL) (uh HG)
   have HO1:=Hd o1;have HM1:=Hd m1;have HL1:=Hd l1
   clear o1 m1 l1 HO HC HX HXB HXS
   have p0:=Hd (place_ok (uh HL1) (by omega) 0 (by omega))
   go_wp2_with (first | (go_at_call 167;refine(uh p0).mono ?_;rintro e w' ⟨rfl,rfl⟩))
   clear p0
   go_loopw [6] (fun i wx=>∃q:Nat,8 * q<=2 * k+7/\i = .int .i64 ((at_:Int)+8+8 * q)/\∃L1 A1,On w0 b L0 wx L1 A1/\Mid N free A1 (s+2 * k+q) f (noted at_ xs f (2 * k)) (lns (at_ / 8+1) q)) (fun i wx=>at_+8+2 * k - (intOf i).toNat)
   case atStart=>exact⟨0,by omega,by simp,L1,A1,uh HO1,by simpa [lns] using uh HM1⟩
   case round=>
    obtain⟨q,hq,rfl,L2,A2,o2,m2⟩:=hrel
    have l2:=o2.log (uh HL) (uh HG)
    have c0:=l2.c0
    have HO2:=Hd o2;have HM2:=Hd m2
    have p1:=Hd (place_ok l2 (by omega) k (by omega))
    clear o2 m2 l2 HO1 HM1 HL1
    by_cases hlt:8 * q<2 * k
    ·go_wp2_with (first | (go_at_call 167;refine(uh p1).mono ?_;rintro e w' ⟨rfl,rfl⟩))
     refine(o_flush (uh HO2) (uh HM2) (by omega) _ (at_+8+8 * q) (by omega) (by omega)).mono ?_
     rintro e w3 (⟨rfl,D⟩ | ⟨rfl,D⟩)
     rotate_left
     ·exact⟨rfl,.inr ⟨rfl,D.mono fun A' t=>⟨t.1,_,fun j hj=>by unfold noted;rw[if_neg (by omega)],t.2.more (by omega)⟩⟩⟩
     obtain⟨L3,A3,o3,m3⟩:=D.on
     rw[show(at_+8+8 * q) / 8=at_ / 8+1+q by omega] at m3
     have HO3:=Hd o3;have HM3:=Hd m3
     clear D o3 m3 p1 HO2 HM2 c0
     go_wp2
     exact⟨⟨q+1,by omega,by go_num,L3,A3,uh HO3,(uh HM3).more (by omega)⟩,by simp[intOf];omega⟩
    ·go_wp2_with (first | (go_at_call 167;refine(uh p1).mono ?_;rintro e w' ⟨rfl,rfl⟩))
     refine(o_fence (uh HO2) (uh HM2) (by omega) ?_).mono ?_
     ·intro j hj
      have:at_+8<=j/\j<at_+8+2 * k:=Classical.byContradiction fun hn=>hj (by unfold noted;rw[if_neg hn])
      rw[mem_lns];omega
     rintro e w3 (⟨rfl,D⟩ | ⟨rfl,D⟩)
     rotate_left
     ·exact⟨rfl,.inr ⟨rfl,D.mono fun A' t=>⟨t.1,_,fun j hj=>by unfold noted;rw[if_neg (by omega)],t.2.more (by omega)⟩⟩⟩
     have DD:=Hd D
     clear D HO2 HM2 p1 c0
     go_wp2
     go_end0
     exact .inl ⟨rfl,(uh DD).mono fun A' t=>t.more (by omega)⟩
end
end
end Go.Proofs.YtbiopjmpdhcjgaaGreatDoor
