/- Joined: RdA RdB. -/
import Derived.BigQuiet
import Derived.OwnWalkIn
import Derived.TacticsInMore
import Derived.LoopNIn
import Derived.LoopIn
import Derived.RangeFuncCalls
import Derived.Lib.SlicesCompact
import Derived.Test.YtbiopjmpdhcjgaaGreatDoorZ01
import Derived.Test.YtbiopjmpdhcjgaaGreatDoorZ02
namespace Go.Proofs.YtbiopjmpdhcjgaaGreatDoor
open Go.RowKit
set_option maxHeartbeats 4000000

section
structure LogAt (w:World) (lg b at_ ws:Nat):Prop where
 c0:w.cell? ⟨lg,0,none⟩=some (ptr b)
 c1:w.cell? ⟨lg,1,none⟩=some (.int .i64 at_)
 c2:w.cell? ⟨lg,2,none⟩=some (.int .i64 ws)
theorem LogAt.kept {w w':World} {lg b at_ ws:Nat} (h:LogAt w lg b at_ ws) {F:Nat->Prop} (hf:Fr F w w') (hF:¬F lg):LogAt w' lg b at_ ws:=
 ⟨hf.cell' h.c0 hF,hf.cell' h.c1 hF,hf.cell' h.c2 hF⟩
theorem LogAt.drewN {w:World} {lg b at_ ws:Nat} (h:LogAt w lg b at_ ws) (n:Nat):LogAt (w.drewN n) lg b at_ ws:=⟨h.c0,h.c1,h.c2⟩
theorem place_ok {w:World} {lg b at_ ws:Nat} (h:LogAt w lg b at_ ws) (ha:at_<=65536) (k:Nat) (hk:k<=65536) :
  Calls Tryz.prog 167 #[ptr lg,.int .i64 k] w fun e w'=>e = .returned (.int .i64 ((at_:Int)+8+2 * k))/\w'=w:=by
 have c1:=h.c1
 clear h
 go_enter Tryz.func167,Tryz.ntmps167
 go_wp2
 go_ret
 exact⟨rfl,rfl⟩
theorem most_ok {w:World} {lg b at_ ws:Nat} (h:LogAt w lg b at_ ws) (ha:16<=ws) (hw:ws<=65536) :
  Calls Tryz.prog 129 #[ptr lg] w fun e w'=>e = .returned (.int .i64 (((ws - 16) / 2:Nat):Int))/\w'=w:=by
 have c2:=h.c2
 clear h
 go_enter Tryz.func129,Tryz.ntmps129
 go_wp2
 go_ret
 refine⟨?_,rfl⟩
 show Ending.returned (Value.int IntKind.i64 (((ws:Int) - 16) / 2))=_
 rw[show((ws:Int) - 16) / 2=(((ws - 16) / 2:Nat):Int) by omega]
def outside (n at_:Nat) (word en:Int):Prop:=0<=word/\word<n * 8/\(word<at_\/en<=word)
theorem outside_yes {w:World} {lg b at_ ws bn n kn:Nat} (h:LogAt w lg b at_ ws) (hn:n<=8192) (h0:w.cell? ⟨b,0,none⟩=some (rowc bn n kn)) (word en:Int) (ho:outside n at_ word en) :
  Calls Tryz.prog 128 #[ptr lg,.int .i64 word,.int .i64 en] w fun e w'=>e = .returned (.bool true)/\w'=w:=by
 have c0:=h.c0
 have c1:=h.c1
 clear h
 obtain⟨o1,o2,o3⟩:=ho
 by_cases h3:word<at_
 ·clear o3
  go_enter Tryz.func128,Tryz.ntmps128
  go_wp2_with (go_at_call 117;refine(words_any b bn n _ hn h0).mono ?_;rintro e w' ⟨rfl,rfl⟩)
  go_ret
  exact⟨rfl,rfl⟩
 ·have h4:en<=word:=by rcases o3 with h | h;exact absurd h h3;exact h
  clear o3
  go_enter Tryz.func128,Tryz.ntmps128
  go_wp2_with (go_at_call 117;refine(words_any b bn n _ hn h0).mono ?_;rintro e w' ⟨rfl,rfl⟩)
  go_ret
  exact⟨rfl,rfl⟩
theorem fromEnd_ok (lg:Nat) (n:Int) (w:World) :
  Calls Tryz.prog 170 #[ptr lg,.int .i64 n] w fun e w'=>e = .returned (.func (.func 197) #[] #[.pointer (some ⟨w.heap.size+1,0,none⟩),.pointer (some ⟨w.heap.size,0,none⟩)])/\w'=(w.alloc (.cells #[ptr lg] 70)).alloc (.cells #[.int .i64 n] 3):=by
 go_enter Tryz.func170,Tryz.ntmps170
 go_wp2
 go_ret
 exact⟨rfl,rfl⟩
structure Mid (N:Nat) (free:Prop) (A:Ab) (s:Int) (f g:Nat->Int) (fl:List Nat):Prop where
 n:A.n=N
 dead:A.dead=false
 big:A.fuse<9223372036854775808
 fz:free->A.fuse<0
 st:A.steps<=s
 lasts:∀j,A.lasts j=f j
 now:∀j,A.now j=g j
 way:∀a,A.way a=if a∈fl then some (fun k=>g (a * 8+k)) else none
abbrev Calm (N:Nat) (free:Prop) (A:Ab) (s:Int) (f:Nat->Int):Prop:=Mid N free A s f f []
structure Torn (N:Nat) (A:Ab) (s:Int) (f g:Nat->Int):Prop where
 n:A.n=N
 st:A.steps<=s
 lasts:∀j,A.lasts j=f j
 now:∀j,A.now j=g j
section
variable {N:Nat} {free:Prop} {A:Ab} {s:Int} {f g:Nat->Int} {fl:List Nat}
theorem Mid.torn (h:Mid N free A s f g fl):Torn N { A with dead:=true } s f g:=⟨h.n,h.st,h.lasts,h.now⟩
theorem Torn.more (h:Torn N A s f g) {t:Int} (ht:s<=t):Torn N A t f g:=⟨h.n,Int.le_trans h.st ht,h.lasts,h.now⟩
theorem Mid.more (h:Mid N free A s f g fl) {t:Int} (ht:s<=t):Mid N free A t f g fl:={ h with st:=Int.le_trans h.st ht }
theorem Mid.tick (h:Mid N free A s f g fl):Mid N free A.tick (s+1) f g fl:=by
 refine { h with big:=?_,fz:=?_,st:=?_ }
 ·have:=h.big;show(if 0<A.fuse then A.fuse - 1 else A.fuse)<_;split <;> omega
 ·intro hf;have:=h.fz hf;show(if 0<A.fuse then A.fuse - 1 else A.fuse)<0;rw[if_neg (by omega)];exact this
 ·have:=h.st;show A.steps+1<=s+1;omega
theorem Mid.live (h:Mid N free A s f g fl) (h0:A.fuse≠0) (hs:s<4294967296):Live A:=⟨h.dead,h0,h.big,by have:=h.st;omega⟩
theorem Mid.store (h:Mid N free A s f g []) (j:Nat) (v:Int):Mid N free (A.store j v) s f (upd g j v) []:=by
 refine { h with now:=fun i=>?_,way:=fun a=>?_ }
 ·show upd A.now j v i=upd g j v i
  by_cases e:i=j
  ·subst e;rw[upd_same,upd_same]
  ·rw[upd_other _ _ e,upd_other _ _ e];exact h.now i
 ·show A.way a=_
  rw[h.way a];simp
theorem Mid.sent (h:Mid N free A s f g fl) (a:Nat):Mid N free (A.sendLine a) s f g (a :: fl):=by
 refine { h with way:=fun i=>?_ }
 show upd A.way a _ i=_
 by_cases e:i=a
 ·subst e
  rw[upd_same,if_pos (by simp)]
  congr 1
  funext k
  exact h.now _
 ·rw[upd_other _ _ e,h.way i]
  simp[e]
theorem Mid.fenced (h:Mid N free A s f g fl) (hc:∀j,g j≠f j->j / 8∈fl):Calm N free A.fenced s g:=by
 refine { h with lasts:=fun j=>?_,way:=fun a=>?_ }
 ·show(match A.way (j / 8) with | some l=>l (j % 8) | none=>A.lasts j)=g j
  rw[h.way]
  by_cases e:j / 8∈fl
  ·rw[if_pos e]
   show g (j / 8 * 8+j % 8)=g j
   rw[show j / 8 * 8+j % 8=j by omega]
  ·rw[if_neg e]
   show A.lasts j=g j
   rw[h.lasts]
   exact(Classical.byContradiction fun hn=>e (hc j (fun e'=>hn e'.symm)))
 ·show none=_
  simp
theorem fresh_calm (n:Nat) (free:Prop):Calm n free (Ab.fresh n) 0 (fun _=>0):=
 ⟨rfl,rfl,by simp[Ab.fresh],fun _=>by simp[Ab.fresh],Int.le_refl _,fun _=>rfl,fun _=>rfl,fun _=>by simp[Ab.fresh]⟩
end
def DM (w:World) (b:Nat) (L:Lay) (w':World) (P:Ab->Prop):Prop:=
 ∃L' A',DevL w' b L' A'/\P A'/\Fr (foot b L) w w'/\∀k,foot b L' k->foot b L k\/w.heap.size<=k
theorem DM.mono {w w':World} {b:Nat} {L:Lay} {P P':Ab->Prop} (h:DM w b L w' P) (hp:∀A,P A->P' A):DM w b L w' P':=
 let ⟨L',A',d,p,r⟩:=h;⟨L',A',d,hp _ p,r⟩
theorem DM.refl {w:World} {b:Nat} {L:Lay} {A:Ab} (d:DevL w b L A) {P:Ab->Prop} (hp:P A):DM w b L w P:=⟨L,A,d,hp,Fr.refl _ _,fun _=>.inl⟩
theorem DM.after {w w1 w':World} {b:Nat} {L:Lay} {P:Ab->Prop} (h:DM w1 b L w' P) (hf:Fr (fun _=>False) w w1):DM w b L w' P:=by
 obtain⟨L',A',d,p,f,s⟩:=h
 exact⟨L',A',d,p,(hf.mono (G:=foot b L) (fun k hk=>hk.elim)).trans f,fun k hk=>(s k hk).imp id (fun x=>Nat.le_trans hf.size x)⟩
theorem DM.trans {w w1 w2:World} {b:Nat} {L L1:Lay} {P:Ab->Prop} (h:DM w1 b L1 w2 P) (f1:Fr (foot b L) w w1) (s1:∀k,foot b L1 k->foot b L k\/w.heap.size<=k):DM w b L w2 P:=by
 obtain⟨L2,A2,d2,p2,f2,s2⟩:=h
 exact⟨L2,A2,d2,p2,f1.trans' f2 s1,fun k hk=>(s2 k hk).elim (s1 k) (fun x=>.inr (Nat.le_trans f1.size x))⟩
theorem DM.more {w w1 w2:World} {b:Nat} {L:Lay} {P:Ab->Prop} (h:DM w b L w1 P) (hf:Fr (fun _=>False) w1 w2):DM w b L w2 P:=by
 obtain⟨L',A',d,p,f,s⟩:=h
 exact⟨L',A',d.keptF hf,p,f.trans' hf (fun k hk=>hk.elim),s⟩
def Ends (w:World) (b:Nat) (L:Lay) (ok torn:Ab->Prop) (e:Ending) (w':World):Prop:=
 (e = .returned (.tuple #[])/\DM w b L w' ok)\/(e = .panicked lost/\DM w b L w' torn)
section
variable {w:World} {b:Nat} {L:Lay} {N:Nat} {free:Prop} {A:Ab} {s:Int} {f g:Nat->Int} {fl:List Nat}
theorem d_store (d:DevL w b L A) (h:Mid N free A s f g []) (hs:s<4294967296) (j:Nat) (hj:j<N * 8) (v:Int) :
  Calls Tryz.prog 166 #[ptr b,.int .i64 j,u64 v] w (Ends w b L (fun A'=>Mid N free A' (s+1) f (upd g j v) []) (fun A'=>¬free/\Torn N A' s f g)):=by
 have hj':j<A.n * 8:=by rw[h.n];exact hj
 by_cases h0:A.fuse=0
 ·refine(store_lost d (.inr h0) j v (by omega) (by omega)).mono ?_
  rintro e w' ⟨rfl,d',f'⟩
  exact .inr ⟨rfl,L,_,d',⟨fun hf=>by have:=h.fz hf;omega,h.torn⟩,f',fun _=>.inl⟩
 ·refine(store_ok d (h.live h0 hs) j hj' v).mono ?_
  rintro e w' ⟨rfl,d',f'⟩
  exact .inl ⟨rfl,L,_,d',(h.tick).store j v,f',fun _=>.inl⟩
theorem d_flush (d:DevL w b L A) (h:Mid N free A s f g fl) (hs:s+1<4294967296) (j:Nat) (hj:j<N * 8) :
  Calls Tryz.prog 168 #[ptr b,.int .i64 j] w (Ends w b L (fun A'=>Mid N free A' (s+1) f g (j / 8 :: fl)) (fun A'=>¬free/\Torn N A' s f g)):=by
 have hj':j<A.n * 8:=by rw[h.n];exact hj
 by_cases h0:A.fuse=0
 ·refine(flush_lost d (.inr h0) j (by omega) (by omega)).mono ?_
  rintro e w' ⟨rfl,d',f'⟩
  exact .inr ⟨rfl,L,_,d',⟨fun hf=>by have:=h.fz hf;omega,h.torn⟩,f',fun _=>.inl⟩
 ·refine(flush_ok d (h.live h0 (by omega)) (by have:=h.st;omega) j hj').mono ?_
  rintro e w' ⟨rfl,L',d',f',s'⟩
  exact .inl ⟨rfl,L',_,d',(h.tick).sent (j / 8),f',s'⟩
theorem d_fence (d:DevL w b L A) (h:Mid N free A s f g fl) (hs:s+1<4294967296) (hc:∀j,g j≠f j->j / 8∈fl) :
  Calls Tryz.prog 169 #[ptr b] w (Ends w b L (fun A'=>Calm N free A' (s+1) g) (fun A'=>¬free/\Torn N A' s f g)):=by
 by_cases h0:A.fuse=0
 ·refine(fence_lost d (.inr h0)).mono ?_
  rintro e w' ⟨rfl,d',f'⟩
  exact .inr ⟨rfl,L,_,d',⟨fun hf=>by have:=h.fz hf;omega,h.torn⟩,f',fun _=>.inl⟩
 ·refine(fence_ok d (h.live h0 (by omega)) (by have:=h.st;omega)).mono ?_
  rintro e w' ⟨rfl,L',d',f',s'⟩
  exact .inl ⟨rfl,L',_,d',(h.tick).fenced hc,f',fun k hk=>.inl (s' k hk)⟩
theorem d_load (d:DevL w b L A) (h:Mid N free A s f g fl) (j:Nat) (hj:j<N * 8) :
  Calls Tryz.prog 105 #[ptr b,.int .i64 j] w fun e w'=>e = .returned (u64 (g j))/\w'=w:=by
 have:=load_ok d h.dead j (by rw[h.n];exact hj)
 rw[h.now j] at this
 exact this
end
structure On (w0:World) (b:Nat) (L0:Lay) (w:World) (L:Lay) (A:Ab):Prop where
 d:DevL w b L A
 fr:Fr (foot b L0) w0 w
 sub:∀k,foot b L k->foot b L0 k\/w0.heap.size<=k
section
variable {w0 w w':World} {b:Nat} {L0 L:Lay} {A:Ab} {N:Nat} {free:Prop} {s:Int} {f g:Nat->Int} {fl:List Nat} {ok torn:Ab->Prop} {e:Ending}
theorem On.start (d:DevL w b L A):On w b L w L A:=⟨d,Fr.refl _ _,fun _=>.inl⟩
theorem On.quiet (h:On w0 b L0 w L A) (hf:Fr (fun _=>False) w w'):On w0 b L0 w' L A:=⟨h.d.keptF hf,h.fr.trans' hf (fun _ hk=>hk.elim),h.sub⟩
theorem On.drewN (h:On w0 b L0 w L A) (n:Nat):On w0 b L0 (w.drewN n) L A:=h.quiet ((Fr.refl _ w).drewN n)
theorem On.alloc (h:On w0 b L0 w L A) (o:Obj):On w0 b L0 (w.alloc o) L A:=h.quiet ((Fr.refl _ w).alloc o)
theorem On.log {lg at_ ws:Nat} (h:On w0 b L0 w L A) (hl:LogAt w0 lg b at_ ws) (hlg:¬foot b L0 lg):LogAt w lg b at_ ws:=hl.kept h.fr hlg
theorem DM.on {P:Ab->Prop} (h:DM w0 b L0 w P):∃L A,On w0 b L0 w L A/\P A:=let ⟨L,A,d,p,f,s⟩:=h;⟨L,A,⟨d,f,s⟩,p⟩
theorem On.ends (h:On w0 b L0 w L A) (k:Ends w b L ok torn e w'):Ends w0 b L0 ok torn e w':=
 k.imp (fun⟨x,y⟩=>⟨x,y.trans h.fr h.sub⟩) (fun⟨x,y⟩=>⟨x,y.trans h.fr h.sub⟩)
theorem On.dmd (h:On w0 b L0 w L A) {P:Ab->Prop} (k:DM w b L w' P):DM w0 b L0 w' P:=k.trans h.fr h.sub
theorem On.other (h:On w0 b L0 w L A) {k:Nat} (hk:k<w0.heap.size) (hn:¬foot b L0 k):¬foot b L k:=fun hf=>by
 rcases h.sub k hf with e | e
 ·exact hn e
 ·omega
theorem On.trans {w1:World} {L1:Lay} {A1:Ab} (h:On w0 b L0 w L A) (k:On w b L w1 L1 A1):On w0 b L0 w1 L1 A1:=
 ⟨k.d,h.fr.trans' k.fr h.sub,fun j hj=>(k.sub j hj).elim (h.sub j) (fun x=>.inr (Nat.le_trans h.fr.size x))⟩
theorem On.new (h:On w0 b L0 w L A) {k:Nat} (hk:w.heap.size<=k):¬foot b L k:=fun hf=>by have:=h.d.lt k hf;omega
theorem o_store (o:On w0 b L0 w L A) (h:Mid N free A s f g []) (hs:s<4294967296) (i:Int) (j:Nat) (hi:i=j) (hj:j<N * 8) (v:Int) :
  Calls Tryz.prog 166 #[ptr b,.int .i64 i,u64 v] w (Ends w0 b L0 (fun A'=>Mid N free A' (s+1) f (upd g j v) []) (fun A'=>¬free/\Torn N A' s f g)):=by
 subst hi;exact(d_store o.d h hs j hj v).mono fun _ _=>o.ends
theorem o_flush (o:On w0 b L0 w L A) (h:Mid N free A s f g fl) (hs:s+1<4294967296) (i:Int) (j:Nat) (hi:i=j) (hj:j<N * 8) :
  Calls Tryz.prog 168 #[ptr b,.int .i64 i] w (Ends w0 b L0 (fun A'=>Mid N free A' (s+1) f g (j / 8 :: fl)) (fun A'=>¬free/\Torn N A' s f g)):=by
 subst hi;exact(d_flush o.d h hs j hj).mono fun _ _=>o.ends
theorem o_fence (o:On w0 b L0 w L A) (h:Mid N free A s f g fl) (hs:s+1<4294967296) (hc:∀j,g j≠f j->j / 8∈fl) :
  Calls Tryz.prog 169 #[ptr b] w (Ends w0 b L0 (fun A'=>Calm N free A' (s+1) g) (fun A'=>¬free/\Torn N A' s f g)):=(d_fence o.d h hs hc).mono fun _ _=>o.ends
end
section
variable {w0 w:World} {b:Nat} {L0 L:Lay} {N:Nat} {free:Prop} {A:Ab} {s:Int} {f:Nat->Int} {lg at_ ws:Nat}
theorem mark_ok (o:On w0 b L0 w L A) (hl:LogAt w0 lg b at_ ws) (hlg:¬foot b L0 lg) (h:Calm N free A s f) (hs:s+3<4294967296) (hat:at_<N * 8) (m:Int) :
  Calls Tryz.prog 131 #[ptr lg,u64 m] w (Ends w0 b L0 (fun A'=>Calm N free A' (s+3) (upd f at_ m)) (fun A'=>¬free/\∃g,(g=f\/g=upd f at_ m)/\Torn N A' (s+3) f g)):=by
 have c0:=(o.log hl hlg).c0
 have c1:=(o.log hl hlg).c1
 have HO:=Hd o;have HL:=Hd hl;have HG:=Hd hlg;have HC:=Hd h
 clear o hl hlg h
 go_enter Tryz.func131,Tryz.ntmps131
 go_wp2_with fail
 refine region_tailP 9 (by kernel_rfl) (by kernel_rfl) ?_
 simp only[List.take_succ_cons,List.take_zero,List.drop_succ_cons,List.drop_zero]
 repeat (go_big_quiet_step (fail))
 refine wpQuiet_nil ?_
 rintro _ ⟨nq,rfl⟩
 go_wp2_with fail
 refine(o_store ((uh HO).drewN nq) (uh HC) (by omega) _ at_ rfl hat m).mono ?_
 rintro e w1 (⟨rfl,D⟩ | ⟨rfl,D⟩)
 rotate_left
 ·exact⟨rfl,.inr ⟨rfl,D.mono fun A' t=>⟨t.1,f,.inl rfl,t.2.more (by omega)⟩⟩⟩
 obtain⟨L1,A1,o1,h1⟩:=D.on
 have c0:=(o1.log (uh HL) (uh HG)).c0
 have c1:=(o1.log (uh HL) (uh HG)).c1
 have H1:=Hd o1;have K1:=Hd h1
 clear o1 h1 D HO HC
 go_wp2_with fail
 refine region_tailP 8 (by kernel_rfl) (by kernel_rfl) ?_
 simp only[List.take_succ_cons,List.take_zero,List.drop_succ_cons,List.drop_zero]
 repeat (go_big_quiet_step (fail))
 refine wpQuiet_nil ?_
 rintro _ ⟨nq2,rfl⟩
 go_wp2_with fail
 refine(o_flush ((uh H1).drewN nq2) (uh K1) (by omega) _ at_ rfl hat).mono ?_
 rintro e w2 (⟨rfl,D⟩ | ⟨rfl,D⟩)
 rotate_left
 ·exact⟨rfl,.inr ⟨rfl,D.mono fun A' t=>⟨t.1,_,.inr rfl,t.2.more (by omega)⟩⟩⟩
 obtain⟨L2,A2,o2,h2⟩:=D.on
 have c0:=(o2.log (uh HL) (uh HG)).c0
 have H2:=Hd o2;have K2:=Hd h2
 clear o2 h2 D H1 K1
 go_wp2_with fail
 refine(o_fence (uh H2) (uh K2) (by omega) ?_).mono ?_
 ·intro j hj
  by_cases e:j=at_
  ·subst e;simp
  ·exact absurd (upd_other _ _ e) hj
 rintro e w3 (⟨rfl,D⟩ | ⟨rfl,D⟩)
 rotate_left
 ·exact⟨rfl,.inr ⟨rfl,D.mono fun A' t=>⟨t.1,_,.inr rfl,t.2.more (by omega)⟩⟩⟩
 have DD:=Hd D
 clear D H2 K2
 go_wp2
 go_end0
 exact .inl ⟨rfl,(uh DD).mono fun A' t=>t.more (by omega)⟩
end
def WrAt (w:World) (xb xo:Nat) (xs:List (Int×Int)):Prop:=
 ∀k x,xs[k]? = some x->w.cell? ⟨xb,xo+k * 2,none⟩=some (.int .i64 x.1)/\w.cell? ⟨xb,xo+k * 2+1,none⟩=some (u64 x.2)
theorem WrAt.kept {w w':World} {xb xo:Nat} {xs:List (Int×Int)} (h:WrAt w xb xo xs) {F:Nat->Prop} (hf:Fr F w w') (hF:¬F xb):WrAt w' xb xo xs:=
 fun k x hx=>⟨hf.cell' (h k x hx).1 hF,hf.cell' (h k x hx).2 hF⟩
def ent (xs:List (Int×Int)) (i:Nat):Int:=if i % 2=0 then (xs.getD (i / 2) (0,0)).1 else (xs.getD (i / 2) (0,0)).2
def noted (at_:Nat) (xs:List (Int×Int)) (f:Nat->Int) (m j:Nat):Int:=if at_+8<=j/\j<at_+8+m then ent xs (j - (at_+8)) else f j
theorem noted_zero (at_:Nat) (xs:List (Int×Int)) (f:Nat->Int):noted at_ xs f 0=f:=by
 funext j;unfold noted;rw[if_neg (by omega)]
theorem noted_step (at_:Nat) (xs:List (Int×Int)) (f:Nat->Int) (m:Nat):upd (noted at_ xs f m) (at_+8+m) (ent xs m)=noted at_ xs f (m+1):=by
 funext j
 by_cases e:j=at_+8+m
 ·subst e
  rw[upd_same];unfold noted;rw[if_pos (by omega),show at_+8+m - (at_+8)=m by omega]
 ·rw[upd_other _ _ e];unfold noted
  by_cases h:at_+8<=j/\j<at_+8+m
  ·rw[if_pos h,if_pos (by omega)]
  ·rw[if_neg h,if_neg (by omega)]
theorem ent_word {xs:List (Int×Int)} {k:Nat} {x:Int×Int} (h:xs[k]? = some x):ent xs (2 * k)=x.1:=by
 unfold ent;rw[if_pos (by omega),show 2 * k / 2=k by omega,List.getD_eq_getElem?_getD,h];rfl
theorem ent_val {xs:List (Int×Int)} {k:Nat} {x:Int×Int} (h:xs[k]? = some x):ent xs (2 * k+1)=x.2:=by
 unfold ent;rw[if_neg (by omega),show(2 * k+1) / 2=k by omega,List.getD_eq_getElem?_getD,h];rfl
def lns (a0:Nat):Nat->List Nat
 | 0=>[]
 | q+1=>(a0+q) :: lns a0 q
theorem mem_lns (a0 a:Nat):∀q,a∈lns a0 q ↔ a0<=a/\a<a0+q
 | 0=>by simp[lns]
 | q+1=>by simp only[lns,List.mem_cons,mem_lns a0 a q];omega
section
variable {w0 w:World} {b:Nat} {L0 L:Lay} {N:Nat} {free:Prop} {A:Ab} {s:Int} {f:Nat->Int} {lg at_ ws:Nat}
theorem note_ok (o:On w0 b L0 w L A) (hl:LogAt w0 lg b at_ ws) (hlg:¬foot b L0 lg) (h:Calm N free A s f) (xb xo cap:Nat) (xs:List (Int×Int)) (hx:WrAt w0 xb xo xs) (hxb:¬foot b L0 xb)
  (hxs:∀x∈xs,0<=x.1/\x.1<N * 8) (h8:at_ % 8=0) (hws:at_+16+2 * xs.length<=N * 8) (hN:N<=8192) (hs:s+3 * xs.length+2<4294967296) :
  Calls Tryz.prog 130 #[ptr lg,.slice (some ⟨xb,xo,none⟩) xs.length cap] w (Ends w0 b L0 (fun A'=>Calm N free A' (s+3 * xs.length+2) (noted at_ xs f (2 * xs.length)))
   (fun A'=>¬free/\∃g,(∀j,(j<at_+8\/at_+8+2 * xs.length<=j)->g j=f j)/\Torn N A' (s+3 * xs.length+2) f g)):=by
 have HO:=Hd o;have HL:=Hd hl;have HG:=Hd hlg;have HC:=Hd h;have HX:=Hd hx;have HXB:=Hd hxb;have HXS:=Hd hxs
 clear o hl hlg h hx hxb hxs
 generalize hlen:xs.length=len at *
 have HLEN:=Hd hlen
 clear hlen
 go_enter Tryz.func130,Tryz.ntmps130
 go_wp2
 go_loopw [9] (fun i wr=>∃k:Nat,k<=len/\i = .int .i64 k/\∃L1 A1,On w0 b L0 wr L1 A1/\Mid N free A1 (s+2 * k) f (noted at_ xs f (2 * k)) []) (fun i wr=>len - (intOf i).toNat)
 case atStart=>exact⟨0,Nat.zero_le _,rfl,L,A,uh HO,by rw[Nat.mul_zero,noted_zero];simpa using uh HC⟩
 case round=>
  obtain⟨k,hk,rfl,L1,A1,o1,m1⟩:=hrel
  by_cases hlt:k<len
  ·obtain⟨x,hxk⟩:∃x,xs[k]? = some x:=⟨_,List.getElem?_eq_getElem (by rw[uh HLEN];exact hlt)⟩
   have hxb:=(uh HXS) x (List.mem_of_getElem? hxk)
   obtain⟨cw,cv⟩:=(uh HX).kept o1.fr (uh HXB) k x hxk
   have wr1:=(wrap_small x.1 hxb.1 (by omega)).2
   have lr:=o1.log (uh HL) (uh HG)
   have HO1:=Hd o1;have HM1:=Hd m1;have HLR:=Hd lr;have HXK:=Hd hxk
   clear o1 m1 lr hxk
   go_wp2
   obtain⟨W1,hW1⟩:∃W1,wr.alloc (.cells #[.int .i64 x.1,.int .u64 x.2] 161)=W1:=⟨_,rfl⟩
   have o2:On w0 b L0 W1 L1 A1:=hW1▸(uh HO1).alloc _
   have x0:W1.cell? ⟨wr.heap.size,0,none⟩=some (.int .i64 x.1):=by rw[<-hW1];exact cell_of_row _ _ _ _ _ _ (heap_alloc_new wr _)
   have x1:W1.cell? ⟨wr.heap.size,1,none⟩=some (.int .u64 x.2):=by rw[<-hW1];exact cell_of_row _ _ _ _ _ _ (heap_alloc_new wr _)
   have nf:¬foot b L1 wr.heap.size:=(uh HO1).new (Nat.le_refl _)
   rw[hW1]
   generalize wr.heap.size=bx at *
   have l2:=o2.log (uh HL) (uh HG)
   have c0:=l2.c0
   have HO2:=Hd o2;have HL2:=Hd l2;have HNF:=Hd nf;have HX0:=Hd x0;have HX1:=Hd x1
   clear hW1 o2 l2 nf cw cv HO1 HLR x1
   refine region_tailP 10 (by kernel_rfl) (by kernel_rfl) ?_
   simp only[List.take_succ_cons,List.take_zero,List.drop_succ_cons,List.drop_zero]
   repeat (go_big_quiet_step (first | (go_at_call 167;exact Calls.quiet_of_same (place_ok ((uh HL2).drewN _) (by omega) k (by omega)))))
   refine wpQuiet_nil ?_
   rintro _ ⟨nq,rfl⟩
   clear c0 x0
   go_wp2_with fail
   refine(o_store (On.start ((uh HO2).drewN nq).d) (uh HM1) (by omega) _ (at_+8+2 * k) (by omega) (by omega) x.1).mono ?_
   rintro e w1 (⟨rfl,D⟩ | ⟨rfl,D⟩)
   rotate_left
   ·exact⟨rfl,.inr ⟨rfl,(((uh HO2).drewN nq).dmd D).mono fun A' t=>⟨t.1,_,fun j hj=>by unfold noted;rw[if_neg (by omega)],t.2.more (by omega)⟩⟩⟩
   obtain⟨L3,A3,o3,m3⟩:=D.on
   rw[<-ent_word (uh HXK),noted_step] at m3
   have x1:w1.cell? ⟨bx,1,none⟩=some (.int .u64 x.2):=o3.fr.cell' (uh HX1) (uh HNF)
   have o4:=((uh HO2).drewN nq).trans o3
   have l4:=o4.log (uh HL) (uh HG)
   have c0:=l4.c0
   have HO4:=Hd o4;have HL4:=Hd l4;have HM3:=Hd m3
   clear D o3 m3 o4 l4 HO2 HL2 HM1
   go_wp2_with fail
   refine region_tailP 10 (by kernel_rfl) (by kernel_rfl) ?_
   simp only[List.take_succ_cons,List.take_zero,List.drop_succ_cons,List.drop_zero]
   repeat (go_big_quiet_step (first | (go_at_call 167;exact Calls.quiet_of_same (place_ok ((uh HL4).drewN _) (by omega) k (by omega)))))
   refine wpQuiet_nil ?_
   rintro _ ⟨nq2,rfl⟩
   clear c0 x1
   go_wp2_with fail
   refine(o_store ((uh HO4).drewN nq2) (uh HM3) (by omega) _ (at_+8+(2 * k+1)) (by omega) (by omega) x.2).mono ?_
   rintro e w1 (⟨rfl,D⟩ | ⟨rfl,D⟩)
   rotate_left
   ·exact⟨rfl,.inr ⟨rfl,D.mono fun A' t=>⟨t.1,_,fun j hj=>by unfold noted;rw[if_neg (by omega)],t.2.more (by omega)⟩⟩⟩
   obtain⟨L5,A5,o5,m5⟩:=D.on
   rw[<-ent_val (uh HXK),noted_step] at m5
   have HO5:=Hd o5;have HM5:=Hd m5
   clear D o5 m5 HO4 HL4 HM3
   go_wp2
   exact⟨⟨k+1,by omega,by go_num,L5,A5,uh HO5,by rw[show 2 * (k+1)=2 * k+1+1 by omega];exact(uh HM5).more (by omega)⟩,by simp[intOf];omega⟩
  ·obtain rfl:k=len:=by omega
   have l1:=o1.log (uh HL) (uh HG)
   have HO1:=Hd o1;have HM1:=Hd m1;have HL1:=Hd l1
   clear o1 m1 l1 HO HC HX HXB HXS
   have p0:=Hd (place_ok (uh HL1) (by omega) 0 (by omega))
   go_wp2_with (first | (go_at_call 167;refine(uh p0).mono ?_;rintro e w' ⟨rfl,rfl⟩))
   clear p0
   go_loopw [6] (fun i wx=>∃q:Nat,8 * q<=2 * k+7/\i = .int .i64 ((at_:Int)+8+8 * q)/\∃L1 A1,On w0 b L0 wx L1 A1/\Mid N free A1 (s+2 * k+q) f (noted at_ xs f (2 * k)) (lns (at_ / 8+1) q)) (fun i wx=>at_+8+2 * k - (intOf i).toNat)
   case atStart=>exact⟨0,by omega,by simp,L1,A1,uh HO1,by simpa [lns] using uh HM1⟩
   case round=>
    obtain⟨q,hq,rfl,L2,A2,o2,m2⟩:=hrel
    have l2:=o2.log (uh HL) (uh HG)
    have c0:=l2.c0
    have HO2:=Hd o2;have HM2:=Hd m2
    have p1:=Hd (place_ok l2 (by omega) k (by omega))
    clear o2 m2 l2 HO1 HM1 HL1
    by_cases hlt:8 * q<2 * k
    ·go_wp2_with (first | (go_at_call 167;refine(uh p1).mono ?_;rintro e w' ⟨rfl,rfl⟩))
     refine(o_flush (uh HO2) (uh HM2) (by omega) _ (at_+8+8 * q) (by omega) (by omega)).mono ?_
     rintro e w3 (⟨rfl,D⟩ | ⟨rfl,D⟩)
     rotate_left
     ·exact⟨rfl,.inr ⟨rfl,D.mono fun A' t=>⟨t.1,_,fun j hj=>by unfold noted;rw[if_neg (by omega)],t.2.more (by omega)⟩⟩⟩
     obtain⟨L3,A3,o3,m3⟩:=D.on
     rw[show(at_+8+8 * q) / 8=at_ / 8+1+q by omega] at m3
     have HO3:=Hd o3;have HM3:=Hd m3
     clear D o3 m3 p1 HO2 HM2 c0
     go_wp2
     exact⟨⟨q+1,by omega,by go_num,L3,A3,uh HO3,(uh HM3).more (by omega)⟩,by simp[intOf];omega⟩
    ·go_wp2_with (first | (go_at_call 167;refine(uh p1).mono ?_;rintro e w' ⟨rfl,rfl⟩))
     refine(o_fence (uh HO2) (uh HM2) (by omega) ?_).mono ?_
     ·intro j hj
      have:at_+8<=j/\j<at_+8+2 * k:=Classical.byContradiction fun hn=>hj (by unfold noted;rw[if_neg hn])
      rw[mem_lns];omega
     rintro e w3 (⟨rfl,D⟩ | ⟨rfl,D⟩)
     rotate_left
     ·exact⟨rfl,.inr ⟨rfl,D.mono fun A' t=>⟨t.1,_,fun j hj=>by unfold noted;rw[if_neg (by omega)],t.2.more (by omega)⟩⟩⟩
     have DD:=Hd D
     clear D HO2 HM2 p1 c0
     go_wp2
     go_end0
     exact .inl ⟨rfl,(uh DD).mono fun A' t=>t.more (by omega)⟩
end
end

section
section
variable {w0 w:World} {b:Nat} {L0 L:Lay} {N:Nat} {A:Ab} {lg at_ ws:Nat}
theorem load_int {w:World} {b:Nat} {L:Lay} {A:Ab} (d:DevL w b L A) (hd:A.dead=false) (i:Int) (h0:0<=i) (hi:i<A.n * 8) :
  Calls Tryz.prog 105 #[ptr b,.int .i64 i] w fun e w'=>e = .returned (u64 (A.now i.toNat))/\w'=w:=by
 obtain⟨j,rfl⟩:=Int.eq_ofNat_of_zero_le h0
 rw[Int.toNat_natCast]
 exact load_ok d hd j (by omega)
theorem place_int {w:World} (h:LogAt w lg b at_ ws) (ha:at_<=65536) (i:Int) (h0:0<=i) (hi:i<=65536) :
  Calls Tryz.prog 167 #[ptr lg,.int .i64 i] w fun e w'=>e = .returned (.int .i64 ((at_:Int)+8+2 * i))/\w'=w:=by
 obtain⟨j,rfl⟩:=Int.eq_ofNat_of_zero_le h0
 exact place_ok h ha j (by omega)
structure Reads (W:World) (bl bn lg b at_ ws n:Nat) (g:Nat->Int):Prop where
 cn:W.cell? ⟨bn,0,none⟩=some (.int .i64 n)
 cl:W.cell? ⟨bl,0,none⟩=some (ptr lg)
 log:LogAt W lg b at_ ws
 dev:∃L A,DevL W b L A/\A.dead=false/\at_+8+2 * n<=A.n * 8/\A.n<=8192/\∀j,at_+8<=j->j<at_+8+2 * n->A.now j=g j
def come (at_ n:Nat) (g:Nat->Int) (k:Nat):Value:=
 .agg #[.int .i64 (wrap64 (g (at_+8+2 * (n - 1 - k)))),u64 (g (at_+8+2 * (n - 1 - k)+1))]
attribute [local go_sem] Oper.semAt_some
set_option maxRecDepth 100000 in
theorem iter_ok (bl bn n l:Nat) (g:Nat->Int) (J:Nat->World->Prop) (hn:n<=65536) (hJ:∀k W,J k W->Reads W bl bn lg b at_ ws n g) :
  Iter 0 Tryz.prog 197 #[.pointer (some ⟨bn,0,none⟩),.pointer (some ⟨bl,0,none⟩)] (come at_ n g) n l J:=by
 intro J' Jx Jp hJJ hdr hY W h0
 have hwd:Fence.wide.depth=none:=rfl
 have hwf:∀f,Fence.wide.fn f:=fun _=>trivial
 have hr0:=hJ 0 W (hJJ 0 W h0)
 have cn:=hr0.cn
 have HJ:=Hd hJ;have HJJ:=Hd hJJ;have HD:=Hd hdr;have HY:=Hd hY;have H0:=Hd h0
 clear hJ hJJ hdr hY h0 hr0
 refine callsIn_of_wp Tryz.func197 rfl trivial ?_ rfl
 simp only[Tryz.ntmps197,List.size_toArray,List.length_cons,List.length_nil,Nat.reduceAdd,Nat.reduceSub,Array.replicate_succ,Array.replicate_zero,List.push_toArray,List.append_toArray,List.nil_append,List.cons_append]
 gi_wp2
 gi_loopw [4] (fun c wr=>∃k:Nat,k<=n/\c = .int .i64 ((n:Int) - 1 - k)/\J' k wr) (fun c wr=>(intOf c+1).toNat)
 case atStart=>exact⟨0,Nat.zero_le _,by simp,uh H0⟩
 case round=>
  obtain⟨k,hk,rfl,hj⟩:=hrel
  have hr:=uh HJ k wr (uh HJJ k wr hj)
  by_cases hlt:k<n
  ·obtain⟨L1,A1,d1,dd,hb,hb2,hg⟩:=hr.dev
   have cl:=hr.cl
   have c0:=hr.log.c0
   have HR:=Hd hr;have HJ1:=Hd hj;have HD1:=Hd d1;have HDD:=Hd dd;have HG:=Hd hg
   clear hr hj d1 dd hg cn H0
   gi_wp2_with (gi_at_call 167;refine(callsIn_wide.2 (place_int (uh HR).log (by omega) _ (by omega) (by omega))).mono ?_;rintro e w' ⟨rfl,hh⟩;replace hh:=hh.symm;subst hh)
   refine region_tail 16 (by kernel_rfl) (by kernel_rfl) (by kernel_rfl) ?_
   simp only[List.take_succ_cons,List.take_zero,List.drop_succ_cons,List.drop_zero]
   repeat (gi_big_quiet_step (first | (gi_at_call 105;exact CallsIn.quiet_of_same (callsIn_wide.2 (load_int ((uh HD1).keptF ((Fr.refl _ wr).drewN _)) (uh HDD) _ (by omega) (by omega))))))
   refine wpQuietIn_nil ?_
   rintro _ ⟨nq,rfl⟩
   obtain⟨fn,tmps,assign,body,hy,hR⟩:=uh HY k (wr.drewN nq) hlt (uh HD k wr nq (uh HJ1))
   have e1:=uh HG (at_+8+2 * (n - 1 - k)) (by omega) (by omega)
   have e2:=uh HG (at_+8+2 * (n - 1 - k)+1) (by omega) (by omega)
   unfold come at hy
   rw[<-e1,<-e2] at hy
   have HRR:=Hd hR
   clear e1 e2 HD1 HDD HG c0 cl hR HR HJ1
   gi_wp2
   refine(uh HRR).mono ?_
   clear hy HRR
   rintro e W3 (⟨rfl,hj3⟩ | ⟨rfl,hx3⟩ | ⟨ch,rfl,hp3⟩)
   ·have HJ3:=Hd hj3
    clear hj3
    gi_wp2
    go_roundw
    case rel=>exact⟨k+1,by omega,by simp;omega,uh HJ3⟩
    case measure=>simp[intOf];omega
   ·have HX3:=Hd hx3
    clear hx3
    gi_wp2
    refine bodyPost_ret (results_none rfl _ _ _) rfl ?_
    exact .inr (.inl ⟨_,rfl,uh HX3⟩)
   ·exact⟨rfl,.inr (.inr ⟨ch,rfl,hp3⟩)⟩
  ·obtain rfl:k=n:=by omega
   have HJ1:=Hd hj
   clear hj hr cn H0
   gi_wp2
   go_end0
   exact .inl ⟨_,rfl,uh HJ1⟩
end
def homed (ys:List (Int×Int)) (f:Nat->Int) (j:Nat):Int:=match ys.find? (fun x=>x.1 == (j:Int)) with | some x=>x.2 | none=>f j
theorem homed_nil (f:Nat->Int):homed [] f=f:=rfl
theorem homed_seen {ys:List (Int×Int)} {x:Int×Int} (h:∃y∈ys,y.1=x.1) (f:Nat->Int):homed (ys ++ [x]) f=homed ys f:=by
 funext j
 unfold homed
 rw[List.find?_append]
 cases e:ys.find? (fun x=>x.1 == (j:Int)) with
 | some y=>rfl
 | none=>
  have hn:¬x.1=(j:Int):=fun hx=>by
   obtain⟨y,hy,hyx⟩:=h
   have:=List.find?_eq_none.1 e y hy
   simp[hyx,hx] at this
  simp[hn]
theorem homed_new {ys:List (Int×Int)} {x:Int×Int} (h:¬∃y∈ys,y.1=x.1) (h0:0<=x.1) (f:Nat->Int):homed (ys ++ [x]) f=upd (homed ys f) x.1.toNat x.2:=by
 funext j
 by_cases e:j=x.1.toNat
 ·subst e
  have hx:((x.1.toNat:Nat):Int)=x.1:=Int.toNat_of_nonneg h0
  rw[upd_same]
  unfold homed
  rw[List.find?_append,List.find?_eq_none.2 (fun y hy=>by rw[hx];simp;exact fun e=>h ⟨y,hy,e⟩)]
  simp[hx]
 ·rw[upd_other _ _ e]
  unfold homed
  rw[List.find?_append]
  have hn:¬x.1=(j:Int):=fun hx=>e (by omega)
  cases e:ys.find? (fun x=>x.1 == (j:Int)) with
  | some y=>rfl
  | none=>simp[hn]
theorem homed_between (ys:List (Int×Int)) (k:Nat) (f:Nat->Int) (j:Nat):homed (ys.take k) f j=f j\/homed (ys.take k) f j=homed ys f j:=by
 unfold homed
 cases e:(ys.take k).find? (fun x=>x.1 == (j:Int)) with
 | none=>exact .inl rfl
 | some x=>
  refine .inr ?_
  have:ys.find? (fun x=>x.1 == (j:Int))=some x:=by
   conv=>lhs;rw[<-List.take_append_drop k ys]
   rw[List.find?_append,e];rfl
  rw[this]
theorem homed_other {ys:List (Int×Int)} {j:Nat} (h:∀y∈ys,y.1≠(j:Int)) (f:Nat->Int):homed ys f j=f j:=by
 unfold homed
 rw[List.find?_eq_none.2 (fun y hy=>by simp;exact h y hy)]
theorem homed_turned {ys:List (Int×Int)} {f:Nat->Int} {j:Nat} (h:homed ys f j≠f j):∃y∈ys,y.1=(j:Int):=
 Classical.byContradiction fun hn=>h (homed_other (fun y hy e=>hn ⟨y,hy,e⟩) f)
theorem homed_again (ys:List (Int×Int)) (f g:Nat->Int) (j:Nat) (h:g j=f j\/g j=homed ys f j):homed ys g j=homed ys f j:=by
 by_cases e:∃y∈ys,y.1=(j:Int)
 ·unfold homed
  cases ef:ys.find? (fun x=>x.1 == (j:Int)) with
  | some x=>rfl
  | none=>
   obtain⟨y,hy,hj⟩:=e
   have:=List.find?_eq_none.1 ef y hy
   simp[hj] at this
 ·have ho:∀y∈ys,y.1≠(j:Int):=fun y hy e'=>e ⟨y,hy,e'⟩
  rw[homed_other ho,homed_other ho]
  rw[homed_other ho] at h
  exact h.elim id id
theorem mem_compact {x:Int} (zs:List Int):x∈Lib.compact zs ↔ x∈zs:=by
 unfold Lib.compact Lib.compactUpTo
 simp only[List.mem_map,List.mem_filter,List.mem_range]
 constructor
 ·rintro⟨i,⟨hi,_⟩,rfl⟩
  rw[getElem!_pos zs.toArray i (by simpa using hi)]
  simp
 ·intro hx
  obtain⟨i,hi,he⟩:=List.mem_iff_getElem.1 hx
  have key:∀i (hi:i<zs.length),∃j,(j<zs.length/\Lib.keeps zs.toArray j=true)/\zs.toArray[j]! = zs[i]:=by
   intro i
   induction i using Nat.strongRecOn with
   | _ i ih=>
    intro hi
    by_cases hk:Lib.keeps zs.toArray i=true
    ·exact⟨i,⟨hi,hk⟩,by rw[getElem!_pos zs.toArray i (by simpa using hi)];simp⟩
    ·have hk':i≠0/\zs.toArray[i]! = zs.toArray[i - 1]!:=by
      unfold Lib.keeps at hk
      simpa using hk
     obtain⟨j,hj,e⟩:=ih (i - 1) (by omega) (by omega)
     refine⟨j,hj,?_⟩
     rw[e]
     have:=hk'.2
     rw[getElem!_pos zs.toArray i (by simpa using hi),getElem!_pos zs.toArray (i - 1) (by simp;omega)] at this
     simpa using this.symm
  obtain⟨j,hj,e⟩:=key i hi
  exact⟨j,hj,e.trans he⟩
section
variable {w:World} {b:Nat} {L:Lay} {N:Nat} {A:Ab} {f:Nat->Int} {lg at_ ws:Nat}
theorem three (w:World) (O1 O2 O3:Obj):(((w.alloc O1).alloc O2).alloc O3).heap[w.heap.size]? = some O1/\(((w.alloc O1).alloc O2).alloc O3).heap[w.heap.size+1]? = some O2/\(((w.alloc O1).alloc O2).alloc O3).heap[w.heap.size+2]? = some O3:=by
 have s1:(w.alloc O1).heap.size=w.heap.size+1:=by simp
 have s2:((w.alloc O1).alloc O2).heap.size=w.heap.size+2:=by simp
 refine⟨?_,?_,?_⟩
 ·rw[Below.heap_alloc _ _ _ (by omega),Below.heap_alloc _ _ _ (by omega)];exact heap_alloc_new w O1
 ·rw[Below.heap_alloc _ _ _ (by omega),<-s1];exact heap_alloc_new _ O2
 ·rw[<-s2];exact heap_alloc_new _ O3
theorem two (w:World) (O1 O2:Obj):((w.alloc O1).alloc O2).heap[w.heap.size]? = some O1/\((w.alloc O1).alloc O2).heap[w.heap.size+1]? = some O2:=by
 have s1:(w.alloc O1).heap.size=w.heap.size+1:=by simp
 refine⟨?_,?_⟩
 ·rw[Below.heap_alloc _ _ _ (by omega)];exact heap_alloc_new w O1
 ·rw[<-s1];exact heap_alloc_new _ O2
attribute [local go_sem] Oper.semAt_some
set_option maxRecDepth 100000 in
theorem sound_ok (d:DevL w b L A) (hd:A.dead=false) (hl:LogAt w lg b at_ ws) (n:Nat) (hn:at_+8+2 * n<=A.n * 8)
  (ho:∀k,k<n->outside A.n at_ (wrap64 (A.now (at_+8+2 * k))) ((at_:Int)+8+2 * n)) :
  Calls Tryz.prog 165 #[ptr lg,.int .i64 n] w fun e w'=>e = .returned (.int .i64 n)/\Fr (fun _=>False) w w':=by
 have hwd:Fence.wide.depth=none:=rfl
 have hwf:∀f,Fence.wide.fn f:=fun _=>trivial
 have n8:=d.n8
 have c0:=hl.c0
 have HD:=Hd d;have HDD:=Hd hd;have HL:=Hd hl;have HO:=Hd ho
 clear d hd hl ho
 refine calls_of_wpOf Tryz.func165 rfl ?_
 simp only[Tryz.ntmps165,List.size_toArray,List.length_cons,List.length_nil,Nat.reduceAdd,Nat.reduceSub,Array.replicate_succ,Array.replicate_zero,List.push_toArray,List.append_toArray,List.nil_append,List.cons_append]
 refine wpOf_seq (wpOf_of_wp ?_)
 go_wp2
 show wpOf _ _ _ _ _ _
 refine wpOf_seq (wpOf_of_wp ?_)
 obtain⟨W1,hW1⟩:∃W1,((w.alloc (.cells #[ptr lg] 70)).alloc (.cells #[.int .i64 n] 3)).alloc (.cells #[.int .i64 0] 3)=W1:=⟨_,rfl⟩
 have f1:Fr (fun _=>False) w W1:=hW1▸(((Fr.refl _ w).alloc _).alloc _).alloc _
 have z1:W1.heap.size=w.heap.size+3:=by rw[<-hW1];simp
 obtain⟨b1,b2,b3⟩:=three w (.cells #[ptr lg] 70) (.cells #[.int .i64 n] 3) (.cells #[.int .i64 0] 3)
 rw[hW1] at b1 b2 b3 ⊢
 have x1:W1.cell? ⟨w.heap.size,0,none⟩=some (ptr lg):=cell_of_row _ _ _ _ _ _ b1
 have x2:W1.cell? ⟨w.heap.size+1,0,none⟩=some (.int .i64 n):=cell_of_row _ _ _ _ _ _ b2
 have c0:W1.cell? ⟨lg,0,none⟩=some (ptr b):=f1.cell' c0 (fun h=>h)
 have d1:=(uh HD).keptF f1
 have l1:=(uh HL).kept f1 (fun h=>h)
 have d0:=d1.c0
 have HD1:=Hd d1;have HL1:=Hd l1;have HW1:=Hd hW1;have HF1:=Hd f1;have HB3:=Hd b3;have HZ1:=Hd z1
 clear b1 b2 b3 hW1 d1 l1 f1 z1 HD HL
 go_wp2_with fail
 go_quiet (first | (go_at_call 117;exact Calls.quiet_of_same (words_any b L.bn A.n _ (by omega) (by assumption))) | (go_at_call 167;exact Calls.quiet_of_same (place_ok ((uh HL1).drewN _) (by omega) 0 (by omega))))
 go_wp2_with fail
 refine wpOf_seq (wpOf_seq (wpOf_of_wp ?_))
 go_wp2_with (go_at_call 170;refine(fromEnd_ok lg n _).mono ?_;rintro e w' ⟨rfl,rfl⟩)
 show wpOf _ _ _ _ _ _
 obtain⟨W2,hh⟩:∃W2,((W1.drewN nq).alloc (.cells #[ptr lg] 70)).alloc (.cells #[.int .i64 n] 3)=W2:=⟨_,rfl⟩
 have f2:Fr (fun _=>False) W1 W2:=hh▸(((Fr.refl _ W1).drewN nq).alloc _).alloc _
 have z1:=uh HZ1
 have z2:W2.heap.size=w.heap.size+5:=by rw[<-hh];simp[z1]
 obtain⟨b4,b5⟩:=two (W1.drewN nq) (.cells #[ptr lg] 70) (.cells #[.int .i64 n] 3)
 rw[hh] at b4 b5 ⊢
 have x4:W2.cell? ⟨W1.heap.size,0,none⟩=some (ptr lg):=cell_of_row _ _ _ _ _ _ b4
 have x5:W2.cell? ⟨W1.heap.size+1,0,none⟩=some (.int .i64 n):=cell_of_row _ _ _ _ _ _ b5
 have y1:W2.cell? ⟨w.heap.size,0,none⟩=some (ptr lg):=f2.cell' x1 (fun h=>h)
 have y2:W2.cell? ⟨w.heap.size+1,0,none⟩=some (.int .i64 n):=f2.cell' x2 (fun h=>h)
 have y3:W2.heap[w.heap.size+2]? = some (.cells #[.int .i64 0] 3):=(f2.block _ (by omega) (fun h=>h)).trans (uh HB3)
 have l2:=(uh HL1).kept f2 (fun h=>h)
 have d2:=(uh HD1).keptF f2
 have f3:=(uh HF1).trans f2
 have HL2:=Hd l2;have HD2:=Hd d2;have HF3:=Hd f3;have HY3:=Hd y3;have HZ2:=Hd z2;have HX4:=Hd x4;have HX5:=Hd x5;have HY1:=Hd y1;have HY2:=Hd y2
 clear hh b4 b5 l2 d2 f2 z1 x1 x2 c0 d0 HD1 HL1 HW1 HF1 HB3 HZ1 z2 f3 y3 x4 x5 y1 y2
 rename_i c0'
 clear c0'
 refine wpOf_block (range_ok (gf:=197) (lb:=#[.pointer (some ⟨W1.heap.size+1,0,none⟩),.pointer (some ⟨W1.heap.size,0,none⟩)]) (N:=n) (enc:=come at_ n A.now) rfl (fun _ _=>by kernel_rfl) rfl ⟨_,Tryz.func165⟩
  (fun k W=>Fr (fun _=>False) W2 W/\W2.heap.size+2<=W.heap.size)
  (fun k a' W=>(Fr (fun _=>False) W2 W/\W2.heap.size+2<=W.heap.size)/\∃bx,W2.heap.size+2<=bx/\bx<W.heap.size/\W.cell? ⟨bx,0,none⟩=some (.int .i64 (wrap64 (A.now (at_+8+2 * (n - 1 - k)))))/\
   a' = { tmps:=#[ptr lg,.int .i64 n,.pointer (some ⟨w.heap.size,0,none⟩),.pointer (some ⟨w.heap.size+1,0,none⟩),.pointer (some ⟨w.heap.size+1+1,0,none⟩),.pointer (some ⟨bx,0,none⟩),.int .i64 n,ptr lg,.pointer (some ⟨lg,0,none⟩),.pointer (some ⟨lg,0,none⟩),ptr b,.int .i64 ((A.n:Int) * 8),ptr lg,.int .i64 ((at_:Int)+8),.int .i64 ((A.n:Int) * 8 - (at_+8)),.int .i64 (((A.n:Int) * 8 - (at_+8)) / 2),.bool (decide (((A.n:Int) * 8 - (at_+8)) / 2<n)),ptr lg,.int .i64 n,.func (.func 197) #[] #[.pointer (some ⟨W1.heap.size+1,0,none⟩),.pointer (some ⟨W1.heap.size,0,none⟩)],come at_ n A.now k,undef,undef,undef,undef,undef,undef,undef,undef,undef],defers:=[] })
  (fun _=>False) (fun _ _=>False) ?hJ ?hJA (fun _ _ h _=>h) ?hseq ?h0 ?hassign ?hbody ?hdone (fun _ h _=>h.elim) (fun _ _ h _=>h.elim))
 case hJ=>
  rintro k W W' ⟨h1,h2⟩ hf
  exact⟨h1.trans' hf (fun j hj=>.inr (by rcases hj with rfl | rfl <;> omega)),Nat.le_trans h2 hf.size⟩
 case hJA=>
  rintro k a W W' ⟨⟨h1,h2⟩,bx,g1,g2,g3,rfl⟩ hf
  exact⟨⟨h1.trans' hf (fun j hj=>.inr (by rcases hj with rfl | rfl <;> omega)),Nat.le_trans h2 hf.size⟩,bx,g1,Nat.lt_of_lt_of_le g2 hf.size,hf.cell' g3 (by rintro(e | e) <;> (simp at e;omega)),rfl⟩
 case hseq=>
  refine iter_ok (lg:=lg) (b:=b) (at_:=at_) (ws:=ws) W1.heap.size (W1.heap.size+1) n _ A.now _ (by omega) ?_
  rintro k W ⟨h1,h2⟩
  exact⟨h1.cell' (uh HX5) (fun h=>h),h1.cell' (uh HX4) (fun h=>h),(uh HL2).kept h1 (fun h=>h),L,A,(uh HD2).keptF h1,uh HDD,hn,n8,fun _ _ _=>rfl⟩
 case h0=>
  intro o1 o2
  exact⟨((Fr.refl _ W2).alloc _).alloc _,by simp⟩
 case hassign=>
  rintro l k W K ⟨h1,h2⟩ hk hK
  unfold come
  gi_wp2
  exact hK _ _ ⟨⟨h1.alloc _,by simp;omega⟩,W.heap.size,h2,by simp,cell_of_row _ _ _ _ _ _ (heap_alloc_new W _),rfl⟩ (Below.heap_alloc W _ _ (by omega)) (Below.heap_alloc W _ _ (by omega))
 case hbody=>
  rintro l k a' W ⟨⟨h1,h2⟩,bx,g1,g2,g3,rfl⟩ hk
  have y1:=h1.cell' (uh HY1) (fun h=>h)
  have y2:=h1.cell' (uh HY2) (fun h=>h)
  have l3:=(uh HL2).kept h1 (fun h=>h)
  have d3:=(uh HD2).keptF h1
  have d0:=d3.c0
  have hout:=uh HO (n - 1 - k) (by omega)
  have HL3:=Hd l3;have H1:=Hd h1;have HOUT:=Hd hout;have HD0:=Hd d0
  clear l3 d3 h1 HL2 HD2 HF3 HY3 HX4 HX5 HY1 HY2 HDD HO hout d0
  unfold come
  gi_wp2_with fail
  refine region_tail 7 (by kernel_rfl) (by kernel_rfl) (by kernel_rfl) ?_
  simp only[List.take_succ_cons,List.take_zero,List.drop_succ_cons,List.drop_zero]
  repeat (gi_big_quiet_step (first | (gi_at_call 167;exact CallsIn.quiet_of_same (CallsIn.inRound l (callsIn_wide.2 (place_ok ((uh HL3).drewN _) (by omega) n (by omega))))) | (gi_at_call 128;exact CallsIn.quiet_of_same (CallsIn.inRound l (callsIn_wide.2 (outside_yes ((uh HL3).drewN _) n8 (uh HD0) _ _ (uh HOUT)))))))
  refine wpQuietIn_nil ?_
  rintro _ ⟨nq2,rfl⟩
  gi_wp2_with fail
  exact⟨⟨rfl,rfl⟩,(uh H1).drewN _,h2⟩
 case hdone=>
  rintro W ⟨h1,h2⟩ hD
  have y2:=h1.cell' (uh HY2) (fun h=>h)
  have z2:=uh HZ2
  have y3:=(h1.block (w.heap.size+2) (by omega) (fun h=>h)).trans (uh HY3)
  have y4:=cell_of_row W _ 0 _ _ _ y3
  have y5:=frozen_of_row W _ 0 _ _ y3
  have f4:=(uh HF3).trans h1
  have HF4:=Hd f4;have HDEF:=Hd hD;have HH2:=Hd h2;have HZ:=Hd z2;have HY4:=Hd y4
  clear h1 hD h2 f4 y3 z2 HL2 HD2 HF3 HY3 HX4 HX5 HY1 HY2 HDD HO HZ2
  show wpOf _ _ _ _ _ _
  refine wpOf_of_wp ?_
  go_wp2
  have z2:=uh HZ
  have hK:(W.setCell ⟨w.heap.size+2,0,none⟩ (.int .i64 n)).heap[W2.heap.size]? = some (.deferred (some [])):=(Below.heap_setCell _ _ _ _ (by simp;omega)).trans (uh HDEF)
  refine⟨by simp,.inl ⟨_,_,rfl,run_takeDeferred hK,?_⟩⟩
  have hc2:((W.setCell ⟨w.heap.size+2,0,none⟩ (.int .i64 n)).putObj W2.heap.size (.deferred none)).cell? ⟨w.heap.size+2,0,none⟩=some (.int .i64 n):=
   (World.cell?_of_block (World.putObj_heap_other (by simp;omega))).trans (World.cell?_setCell_same _ _ _ (uh HY4))
  have hfr:Fr (fun _=>False) w ((W.setCell ⟨w.heap.size+2,0,none⟩ (.int .i64 n)).putObj W2.heap.size (.deferred none)):=((uh HF4).setCell (.inr (by simp)) _).putObj (.inr (by omega)) _
  generalize (W.setCell ⟨w.heap.size+2,0,none⟩ (.int .i64 n)).putObj W2.heap.size (.deferred none)=W5 at *
  refine⟨.int .i64 n,?_,rfl,hfr⟩
  simp[results,Tryz.results165,go_sem,hc2]
end
end
end Go.Proofs.YtbiopjmpdhcjgaaGreatDoor
