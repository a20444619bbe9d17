/- Joined: Yc Yd Rj. -/
import Derived.Lib.AppendZerosOnto
import Derived.Test.YtbiopjmpdhcjgaaGreatDoorZ13
import Derived.Test.YtbiopjmpdhcjgaaGreatDoorZ14
namespace Go.Proofs.YtbiopjmpdhcjgaaGreatDoor
open Go.RowKit
set_option maxHeartbeats 4000000
def ElT (et st:TypeId) (sz:Nat):Prop:=Tryz.prog.underlying st=some (.slice et)/\0<sz/\∃i z,Tryz.prog.info? et=some i/\i.zero=some z/\i.size=sz/\i.bytes<=32/\z.cells.size=sz
theorem elt_of {et st:TypeId} {sz bytes:Nat} {z:Value} (hinfo:(Tryz.prog.info? et).map (fun i=>(i.zero,i.size,i.bytes))=some (some z,sz,bytes)) (hb:bytes<=32) (hz:z.cells.size=sz) (h0:0<sz) (hu:Tryz.prog.underlying st=some (.slice et)):ElT et st sz:=by
 obtain⟨i,hi,hzz⟩:=Option.map_eq_some_iff.1 hinfo
 simp only[Prod.mk.injEq] at hzz
 exact⟨hu,h0,i,z,hi,hzz.1,hzz.2.1,by rw[hzz.2.2];exact hb,hz⟩
structure Sl (w:World) (sz:Nat) (a:Option Addr) (n c:Nat) (xs:List Value):Prop where
 len:xs.length=n * sz
 cap:n<=c
 nil:a=none->n=0/\c=0
 one:∀u∈xs,u.oneCell'=true
 cells:∀j u,xs[j]? = some u->∃b o,a=some ⟨b,o,none⟩/\w.cell? ⟨b,o+j,none⟩=some u
 flat:∀x,a=some x->x.spot=none
theorem Sl.kept {w w':World} {sz n c:Nat} {a:Option Addr} {xs:List Value} (h:Sl w sz a n c xs) {F:Nat->Prop} (f:Fr F w w') (hn:∀x,a=some x->¬F x.block):Sl w' sz a n c xs:=
 ⟨h.len,h.cap,h.nil,h.one,fun j u hu=>by
  obtain⟨b,o,e,c1⟩:=h.cells j u hu
  exact⟨b,o,e,f.cell' c1 (hn ⟨b,o,none⟩ e)⟩,h.flat⟩
theorem Sl.still {w w':World} {sz n c:Nat} {a:Option Addr} {xs:List Value} (h:Sl w sz a n c xs) (f:St w w'):Sl w' sz a n c xs:=h.kept f (fun _ _ x=>x)
theorem sl_of_row {w:World} {sz n c lo:Nat} {et:TypeId} {a:Option Addr} {xs:List Value} (h:w.ownsRow lo et sz (.slice a n c) n xs) (h1:∀u∈xs,u.oneCell'=true):Sl w sz a n c xs:=by
 rcases h.2 with ⟨hv,hn⟩ | ⟨g,cap,cur,hv,_,hg,hc,_,hs,hcur⟩
 ·cases hv
  have e:xs = []:=List.length_eq_zero_iff.1 (by rw[h.1];simp)
  subst e
  exact⟨by simp,Nat.le_refl _,fun _=>⟨rfl,rfl⟩,h1,fun j u hu=>by simp at hu,fun _ e=>by cases e⟩
 ·cases hv
  refine⟨h.1,hc,(fun e=>by cases e),h1,fun j u hu=>⟨g,0,rfl,?_⟩,(fun x e=>by cases e;rfl)⟩
  rw[Nat.zero_add,cOo hg j]
  have hj:j<n * sz:=by rw[<-h.1];exact(List.getElem?_eq_some_iff.1 hu).1
  rw[<-hcur,List.getElem?_take_of_lt hj,Array.getElem?_toList] at hu
  exact hu
theorem run_more {et st:TypeId} {sz:Nat} (E:ElT et st sz) {w:World} {lo:Nat} (ty:TypeId) {v:Value} {n:Nat} {xs:List Value} (hown:w.ownsRow lo et sz v n xs) {a:Option Addr} {m c:Nat} {ys:List Value} (S:Sl w sz a m c ys) (hl:n+m<=1000000) (hlo:lo<=w.heap.size) :
  ∃v' w',(Builtin.append_ #[st,st] ty #[v,.slice a m c]).run Tryz.prog w = .ok v' w'/\w'.ownsRow lo et sz v' (n+m) (xs ++ ys)/\w.grownBy w' v.ownBlock/\(v'.ownBlock=v.ownBlock\/v'.ownBlock=some w.heap.size):=by
 obtain⟨hu,h0,i,z,hi,hz,hsize,hby,hzs⟩:=E
 cases a with
 | none=>
  obtain⟨rfl,rfl⟩:=S.nil rfl
  have e:ys = []:=List.length_eq_zero_iff.1 (by rw[S.len];simp)
  subst e
  exact⟨v,w,run_append_owned_none (P:=Tryz.prog) (w:=w) lo st ty et i sz hu hi v _ _ hown,by simpa using hown,⟨rfl,rfl,rfl,Nat.le_refl _,fun _ _ _=>rfl⟩,.inl rfl⟩
 | some ad=>
  have hs:=S.flat ad rfl
  obtain⟨ab,ao,asp⟩:=ad
  cases hs
  obtain⟨v',w',hr,h2,h3,_,h5⟩:=run_append_own_at (P:=Tryz.prog) w lo st ty et i z sz i.bytes hu hi hz hsize rfl hzs h0 v n xs hown ⟨ab,ao,none⟩ m c ys S.len (fun j u hu=>by
   obtain⟨b,o,e,c1⟩:=S.cells j u hu
   cases e
   rw[show(⟨ab,ao,none⟩:Addr).add j=⟨ab,ao+j,none⟩ by simp[Addr.add]]
   exact c1) S.one (by unfold maxLen;omega) (by have:(n+m) * i.bytes<=1000000 * 32:=Nat.mul_le_mul hl hby;omega) hlo
  exact⟨v',w',hr,h2,h3,h5⟩
def offN (N:Nat->Nat):Nat->Nat
 | 0=>0
 | t+1=>offN N t+N t
def catX (X:Nat->List Value):Nat->List Value
 | 0=>[]
 | t+1=>catX X t ++ X t
theorem offN_le (N:Nat->Nat) {i j:Nat} (h:i<=j):offN N i<=offN N j:=by
 induction j with
 | zero=>rw[Nat.le_zero.1 h];exact Nat.le_refl _
 | succ j ih=>
  rcases Nat.lt_or_eq_of_le h with h | rfl
  ·exact Nat.le_trans (ih (by omega)) (by show offN N j<=offN N j+N j;omega)
  ·exact Nat.le_refl _
def RowsAt (w:World) (sz:Nat) (a:Option Addr) (k:Nat) (A:Nat->Option Addr) (N C:Nat->Nat) (X:Nat->List Value):Prop:=
 ∀i,i<k->(∃b o,a=some ⟨b,o,none⟩/\w.cell? ⟨b,o+i,none⟩=some (.slice (A i) (N i) (C i)))/\Sl w sz (A i) (N i) (C i) (X i)
theorem RowsAt.still {w w':World} {sz k:Nat} {a:Option Addr} {A:Nat->Option Addr} {N C:Nat->Nat} {X:Nat->List Value} (h:RowsAt w sz a k A N C X) (f:St w w'):RowsAt w' sz a k A N C X:=fun i hi=>by
 obtain⟨⟨b,o,e,c⟩,s⟩:=h i hi
 exact⟨⟨b,o,e,f.cell' c id⟩,s.still f⟩
theorem elt_W:ElT 27 141 1:=elt_of (z:=.int .u64 0) (bytes:=8) (by kernel_rfl) (by decide) (by decide) (by decide) Tryz.underlying141
set_option maxRecDepth 100000 in
theorem grow_W (n:Nat) (hn:n<=1000000) (w:World):Calls Tryz.prog 199 #[.slice none 0 0,.int .i64 n] w fun e w'=>∃v,e = .returned v/\w'.ownsRow w.heap.size 27 1 v 0 []/\St w w':=by
 by_cases h0:n=0
 ·subst h0
  go_enter Tryz.func199,Tryz.ntmps199
  go_wp2
  go_ret
  exact⟨_,rfl,World.ownsRow_nil _ _ _ _,Fr.refl _ _⟩
 ·obtain⟨hu,hs0,i,z,hi,hz,hsize,hby,hzs⟩:=elt_W
  have hold:(Builtin.firstCells i.size 0 (.slice none 0 0)).run Tryz.prog w.drew = .ok ([]:List Value).toArray w.drew:=run_firstCells_none (P:=Tryz.prog) (w:=w.drew) i.size 0 0 0
  have hr:=Lib.run_append_grow_zeros (P:=Tryz.prog) w 141 3 141 27 i z .i64 .i64 hu Tryz.underlying3 hi hz none 0 0 [] hold n (by omega) (by omega) (by omega) (by omega)
   (by have:n * i.bytes<=1000000 * 32:=Nat.mul_le_mul hn hby;omega) (growslice_fits (by omega) (by have:(0+n) * i.bytes<=1000000 * 32:=Nat.mul_le_mul (by omega) hby;omega))
  have hge:=grownCap_ge w (0+n) 0 27
  have hcm:grownCap w (0+n) 0 27<=maxLen:=grownCap_le_maxLen w (0+n) 0 27 (by unfold maxLen;omega)
  rw[Nat.zero_add] at hr hge hcm
  generalize grownCap w n 0 27=G at *
  have hG:G<=9223372036854775807:=by unfold maxLen at hcm;omega
  have hsz:(([]:List Value).toArray ++ Builtin.zeroCells z.cells n ++ Builtin.zeroCells z.cells (G - n)).size=G * 1:=by
   simp only[Array.size_append,List.size_toArray,size_zeroCells,hzs,List.length_nil,Nat.zero_add,<-Nat.add_mul]
   rw[show n+(G - n)=G by omega]
  generalize ([]:List Value).toArray ++ Builtin.zeroCells z.cells n ++ Builtin.zeroCells z.cells (G - n)=Z at *
  have h0':(0:Int)<n:=by omega
  have hn':¬(n:Int)<0:=by omega
  have w1:IntKind.i64.wrap ((n:Int) - 0)=n:=by rw[IntKind.wrap_i64];omega
  have HC:=Hd (ai hcm hsz)
  clear hold hcm hsz hu hs0 hi hz hsize hby hzs
  go_enter Tryz.func199,Tryz.ntmps199
  go_wp2_with (at_builtin;refine Lib.wpList_append_run _ rfl _ _ _ _ rfl _ _ rfl rfl _ _ hr ?_)
  go_ret
  obtain⟨hcm,hsz⟩:=uh HC
  exact⟨_,rfl,⟨rfl,.inr ⟨w.heap.size,G,Z,rfl,Nat.le_refl _,heap_alloc_new w.drew _,Nat.zero_le _,hcm,hsz,by simp⟩⟩,((Fr.refl (fun _=>False) w).drewN 1).alloc _⟩
set_option maxRecDepth 100000 in
theorem cat_W (a:Option Addr) (k cp:Nat) (A:Nat->Option Addr) (N C:Nat->Nat) (X:Nat->List Value) (w:World) (hR:RowsAt w 1 a k A N C X) (hk:k<=100) (hl:offN N k<=1000000) :
  Calls Tryz.prog 175 #[.slice a k cp] w fun e w'=>∃v,e = .returned v/\w'.ownsRow w.heap.size 27 1 v (offN N k) (catX X k)/\St w w':=by
 have GR:=grow_W (offN N k) hl w
 go_enter Tryz.func175,Tryz.ntmps175
 go_wp2_with fail
 go_loop [3,11] (fun s i=>∃t:Nat,t<=k/\i = .int .i64 t/\s = .int .i64 (offN N t)) (fun _ i=>k - (RowKit.intOf i).toNat)
 case atStart=>exact⟨0,by omega,rfl,rfl⟩
 case round=>
  obtain⟨t,htk,rfl,rfl⟩:=hrel
  by_cases hlt:t<k
  ·obtain⟨⟨b,o,rfl,c1⟩,s⟩:=hR t hlt
   have hlt':(t:Int)<k:=by omega
   have ho:=offN_le N (show t+1<=k by omega)
   have hs:offN N (t+1)=offN N t+N t:=rfl
   have w1:IntKind.i64.wrap ((offN N t:Int)+N t)=((offN N (t+1):Nat):Int):=by rw[IntKind.wrap_i64];omega
   have hp:¬((offN N (t+1):Nat):Int)<0:=by omega
   clear hR GR s
   go_wp2_with fail
   exact⟨⟨t+1,by omega,by simp,by first | rfl | simp⟩,by simp[RowKit.intOf];omega⟩
  ·have e:t=k:=by omega
   subst e
   have hlt':¬(t:Int)<t:=by omega
   go_wp2_with (first | (go_at_call 199;refine GR.mono ?_;rintro e w' ⟨v,rfl,hv,fv⟩) | fail)
   clear GR
   go_loopw [6,27] (fun v i wr=>∃r:Nat,r<=t/\i = .int .i64 r/\wr.ownsRow w.heap.size 27 1 v (offN N r) (catX X r)/\St w wr) (fun _ i _=>t - (RowKit.intOf i).toNat)
   case atStart=>exact⟨0,by omega,rfl,hv,fv⟩
   case round=>
    obtain⟨r,hrt,rfl,hrow,fr⟩:=hrel
    by_cases hlr:r<t
    ·obtain⟨⟨b,o,rfl,c1⟩,s⟩:=hR r hlr
     have hlr':(r:Int)<t:=by omega
     have ho:=offN_le N (show r+1<=t by omega)
     obtain⟨v',w2,hap,hw2,hgr,hloc⟩:=run_more elt_W 141 hrow (s.still fr) (by have:offN N (r+1)=offN N r+N r:=rfl;omega) fr.size
     replace c1:=fr.cell' c1 id
     have f2:St w w2:=fr.grown hgr (fun k hk=>.inr (hrow.lt k hk).1)
     have HX:=Hd (ai hw2 f2)
     have HAP:=Hd hap
     clear hR s ho hap hw2 hgr hloc f2 hrow hv fv
     go_wp2_with (first | (at_builtin;refine wpList_append_run rfl (.tmp 31) (.tmp 32) 141 rfl _ _ rfl rfl v' w2 (uh HAP) ?_) | fail)
     obtain⟨hw2,f2⟩:=uh HX
     exact⟨⟨r+1,by omega,by simp,hw2,f2⟩,by simp[RowKit.intOf];omega⟩
    ·have e:r=t:=by omega
     subst e
     clear hR
     have hlr':¬(r:Int)<r:=by omega
     go_wp2_with fail
     go_ret
     exact⟨_,rfl,hrow,fr⟩
theorem elt_S:ElT 9 93 1:=elt_of (z:=.string ⟨#[]⟩) (bytes:=16) (by kernel_rfl) (by decide) (by decide) (by decide) Tryz.underlying93
set_option maxRecDepth 100000 in
theorem grow_S (n:Nat) (hn:n<=1000000) (w:World):Calls Tryz.prog 203 #[.slice none 0 0,.int .i64 n] w fun e w'=>∃v,e = .returned v/\w'.ownsRow w.heap.size 9 1 v 0 []/\St w w':=by
 by_cases h0:n=0
 ·subst h0
  go_enter Tryz.func203,Tryz.ntmps203
  go_wp2
  go_ret
  exact⟨_,rfl,World.ownsRow_nil _ _ _ _,Fr.refl _ _⟩
 ·obtain⟨hu,hs0,i,z,hi,hz,hsize,hby,hzs⟩:=elt_S
  have hold:(Builtin.firstCells i.size 0 (.slice none 0 0)).run Tryz.prog w.drew = .ok ([]:List Value).toArray w.drew:=run_firstCells_none (P:=Tryz.prog) (w:=w.drew) i.size 0 0 0
  have hr:=Lib.run_append_grow_zeros (P:=Tryz.prog) w 93 3 93 9 i z .i64 .i64 hu Tryz.underlying3 hi hz none 0 0 [] hold n (by omega) (by omega) (by omega) (by omega)
   (by have:n * i.bytes<=1000000 * 32:=Nat.mul_le_mul hn hby;omega) (growslice_fits (by omega) (by have:(0+n) * i.bytes<=1000000 * 32:=Nat.mul_le_mul (by omega) hby;omega))
  have hge:=grownCap_ge w (0+n) 0 9
  have hcm:grownCap w (0+n) 0 9<=maxLen:=grownCap_le_maxLen w (0+n) 0 9 (by unfold maxLen;omega)
  rw[Nat.zero_add] at hr hge hcm
  generalize grownCap w n 0 9=G at *
  have hG:G<=9223372036854775807:=by unfold maxLen at hcm;omega
  have hsz:(([]:List Value).toArray ++ Builtin.zeroCells z.cells n ++ Builtin.zeroCells z.cells (G - n)).size=G * 1:=by
   simp only[Array.size_append,List.size_toArray,size_zeroCells,hzs,List.length_nil,Nat.zero_add,<-Nat.add_mul]
   rw[show n+(G - n)=G by omega]
  generalize ([]:List Value).toArray ++ Builtin.zeroCells z.cells n ++ Builtin.zeroCells z.cells (G - n)=Z at *
  have h0':(0:Int)<n:=by omega
  have hn':¬(n:Int)<0:=by omega
  have w1:IntKind.i64.wrap ((n:Int) - 0)=n:=by rw[IntKind.wrap_i64];omega
  have HC:=Hd (ai hcm hsz)
  clear hold hcm hsz hu hs0 hi hz hsize hby hzs
  go_enter Tryz.func203,Tryz.ntmps203
  go_wp2_with (at_builtin;refine Lib.wpList_append_run _ rfl _ _ _ _ rfl _ _ rfl rfl _ _ hr ?_)
  go_ret
  obtain⟨hcm,hsz⟩:=uh HC
  exact⟨_,rfl,⟨rfl,.inr ⟨w.heap.size,G,Z,rfl,Nat.le_refl _,heap_alloc_new w.drew _,Nat.zero_le _,hcm,hsz,by simp⟩⟩,((Fr.refl (fun _=>False) w).drewN 1).alloc _⟩
set_option maxRecDepth 100000 in
theorem cat_S (a:Option Addr) (k cp:Nat) (A:Nat->Option Addr) (N C:Nat->Nat) (X:Nat->List Value) (w:World) (hR:RowsAt w 1 a k A N C X) (hk:k<=100) (hl:offN N k<=1000000) :
  Calls Tryz.prog 180 #[.slice a k cp] w fun e w'=>∃v,e = .returned v/\w'.ownsRow w.heap.size 9 1 v (offN N k) (catX X k)/\St w w':=by
 have GR:=grow_S (offN N k) hl w
 go_enter Tryz.func180,Tryz.ntmps180
 go_wp2_with fail
 go_loop [3,11] (fun s i=>∃t:Nat,t<=k/\i = .int .i64 t/\s = .int .i64 (offN N t)) (fun _ i=>k - (RowKit.intOf i).toNat)
 case atStart=>exact⟨0,by omega,rfl,rfl⟩
 case round=>
  obtain⟨t,htk,rfl,rfl⟩:=hrel
  by_cases hlt:t<k
  ·obtain⟨⟨b,o,rfl,c1⟩,s⟩:=hR t hlt
   have hlt':(t:Int)<k:=by omega
   have ho:=offN_le N (show t+1<=k by omega)
   have hs:offN N (t+1)=offN N t+N t:=rfl
   have w1:IntKind.i64.wrap ((offN N t:Int)+N t)=((offN N (t+1):Nat):Int):=by rw[IntKind.wrap_i64];omega
   have hp:¬((offN N (t+1):Nat):Int)<0:=by omega
   clear hR GR s
   go_wp2_with fail
   exact⟨⟨t+1,by omega,by simp,by first | rfl | simp⟩,by simp[RowKit.intOf];omega⟩
  ·have e:t=k:=by omega
   subst e
   have hlt':¬(t:Int)<t:=by omega
   go_wp2_with (first | (go_at_call 203;refine GR.mono ?_;rintro e w' ⟨v,rfl,hv,fv⟩) | fail)
   clear GR
   go_loopw [6,27] (fun v i wr=>∃r:Nat,r<=t/\i = .int .i64 r/\wr.ownsRow w.heap.size 9 1 v (offN N r) (catX X r)/\St w wr) (fun _ i _=>t - (RowKit.intOf i).toNat)
   case atStart=>exact⟨0,by omega,rfl,hv,fv⟩
   case round=>
    obtain⟨r,hrt,rfl,hrow,fr⟩:=hrel
    by_cases hlr:r<t
    ·obtain⟨⟨b,o,rfl,c1⟩,s⟩:=hR r hlr
     have hlr':(r:Int)<t:=by omega
     have ho:=offN_le N (show r+1<=t by omega)
     obtain⟨v',w2,hap,hw2,hgr,hloc⟩:=run_more elt_S 93 hrow (s.still fr) (by have:offN N (r+1)=offN N r+N r:=rfl;omega) fr.size
     replace c1:=fr.cell' c1 id
     have f2:St w w2:=fr.grown hgr (fun k hk=>.inr (hrow.lt k hk).1)
     have HX:=Hd (ai hw2 f2)
     have HAP:=Hd hap
     clear hR s ho hap hw2 hgr hloc f2 hrow hv fv
     go_wp2_with (first | (at_builtin;refine wpList_append_run rfl (.tmp 31) (.tmp 32) 93 rfl _ _ rfl rfl v' w2 (uh HAP) ?_) | fail)
     obtain⟨hw2,f2⟩:=uh HX
     exact⟨⟨r+1,by omega,by simp,hw2,f2⟩,by simp[RowKit.intOf];omega⟩
    ·have e:r=t:=by omega
     subst e
     clear hR
     have hlr':¬(r:Int)<r:=by omega
     go_wp2_with fail
     go_ret
     exact⟨_,rfl,hrow,fr⟩
theorem elt_P:ElT 43 100 2:=elt_of (z:=.agg #[.string ⟨#[]⟩,.int .u64 0]) (bytes:=24) (by kernel_rfl) (by decide) (by decide) (by decide) Tryz.underlying100
set_option maxRecDepth 100000 in
theorem grow_P (n:Nat) (hn:n<=1000000) (w:World):Calls Tryz.prog 179 #[.slice none 0 0,.int .i64 n] w fun e w'=>∃v,e = .returned v/\w'.ownsRow w.heap.size 43 2 v 0 []/\St w w':=by
 by_cases h0:n=0
 ·subst h0
  go_enter Tryz.func179,Tryz.ntmps179
  go_wp2
  go_ret
  exact⟨_,rfl,World.ownsRow_nil _ _ _ _,Fr.refl _ _⟩
 ·obtain⟨hu,hs0,i,z,hi,hz,hsize,hby,hzs⟩:=elt_P
  have hold:(Builtin.firstCells i.size 0 (.slice none 0 0)).run Tryz.prog w.drew = .ok ([]:List Value).toArray w.drew:=run_firstCells_none (P:=Tryz.prog) (w:=w.drew) i.size 0 0 0
  have hr:=Lib.run_append_grow_zeros (P:=Tryz.prog) w 100 3 100 43 i z .i64 .i64 hu Tryz.underlying3 hi hz none 0 0 [] hold n (by omega) (by omega) (by omega) (by omega)
   (by have:n * i.bytes<=1000000 * 32:=Nat.mul_le_mul hn hby;omega) (growslice_fits (by omega) (by have:(0+n) * i.bytes<=1000000 * 32:=Nat.mul_le_mul (by omega) hby;omega))
  have hge:=grownCap_ge w (0+n) 0 43
  have hcm:grownCap w (0+n) 0 43<=maxLen:=grownCap_le_maxLen w (0+n) 0 43 (by unfold maxLen;omega)
  rw[Nat.zero_add] at hr hge hcm
  generalize grownCap w n 0 43=G at *
  have hG:G<=9223372036854775807:=by unfold maxLen at hcm;omega
  have hsz:(([]:List Value).toArray ++ Builtin.zeroCells z.cells n ++ Builtin.zeroCells z.cells (G - n)).size=G * 2:=by
   simp only[Array.size_append,List.size_toArray,size_zeroCells,hzs,List.length_nil,Nat.zero_add,<-Nat.add_mul]
   rw[show n+(G - n)=G by omega]
  generalize ([]:List Value).toArray ++ Builtin.zeroCells z.cells n ++ Builtin.zeroCells z.cells (G - n)=Z at *
  have h0':(0:Int)<n:=by omega
  have hn':¬(n:Int)<0:=by omega
  have w1:IntKind.i64.wrap ((n:Int) - 0)=n:=by rw[IntKind.wrap_i64];omega
  have HC:=Hd (ai hcm hsz)
  clear hold hcm hsz hu hs0 hi hz hsize hby hzs
  go_enter Tryz.func179,Tryz.ntmps179
  go_wp2_with (at_builtin;refine Lib.wpList_append_run _ rfl _ _ _ _ rfl _ _ rfl rfl _ _ hr ?_)
  go_ret
  obtain⟨hcm,hsz⟩:=uh HC
  exact⟨_,rfl,⟨rfl,.inr ⟨w.heap.size,G,Z,rfl,Nat.le_refl _,heap_alloc_new w.drew _,Nat.zero_le _,hcm,hsz,by simp⟩⟩,((Fr.refl (fun _=>False) w).drewN 1).alloc _⟩
set_option maxRecDepth 100000 in
theorem cat_P (a:Option Addr) (k cp:Nat) (A:Nat->Option Addr) (N C:Nat->Nat) (X:Nat->List Value) (w:World) (hR:RowsAt w 2 a k A N C X) (hk:k<=100) (hl:offN N k<=1000000) :
  Calls Tryz.prog 141 #[.slice a k cp] w fun e w'=>∃v,e = .returned v/\w'.ownsRow w.heap.size 43 2 v (offN N k) (catX X k)/\St w w':=by
 have GR:=grow_P (offN N k) hl w
 go_enter Tryz.func141,Tryz.ntmps141
 go_wp2_with fail
 go_loop [3,11] (fun s i=>∃t:Nat,t<=k/\i = .int .i64 t/\s = .int .i64 (offN N t)) (fun _ i=>k - (RowKit.intOf i).toNat)
 case atStart=>exact⟨0,by omega,rfl,rfl⟩
 case round=>
  obtain⟨t,htk,rfl,rfl⟩:=hrel
  by_cases hlt:t<k
  ·obtain⟨⟨b,o,rfl,c1⟩,s⟩:=hR t hlt
   have hlt':(t:Int)<k:=by omega
   have ho:=offN_le N (show t+1<=k by omega)
   have hs:offN N (t+1)=offN N t+N t:=rfl
   have w1:IntKind.i64.wrap ((offN N t:Int)+N t)=((offN N (t+1):Nat):Int):=by rw[IntKind.wrap_i64];omega
   have hp:¬((offN N (t+1):Nat):Int)<0:=by omega
   clear hR GR s
   go_wp2_with fail
   exact⟨⟨t+1,by omega,by simp,by first | rfl | simp⟩,by simp[RowKit.intOf];omega⟩
  ·have e:t=k:=by omega
   subst e
   have hlt':¬(t:Int)<t:=by omega
   go_wp2_with (first | (go_at_call 179;refine GR.mono ?_;rintro e w' ⟨v,rfl,hv,fv⟩) | fail)
   clear GR
   go_loopw [6,27] (fun v i wr=>∃r:Nat,r<=t/\i = .int .i64 r/\wr.ownsRow w.heap.size 43 2 v (offN N r) (catX X r)/\St w wr) (fun _ i _=>t - (RowKit.intOf i).toNat)
   case atStart=>exact⟨0,by omega,rfl,hv,fv⟩
   case round=>
    obtain⟨r,hrt,rfl,hrow,fr⟩:=hrel
    by_cases hlr:r<t
    ·obtain⟨⟨b,o,rfl,c1⟩,s⟩:=hR r hlr
     have hlr':(r:Int)<t:=by omega
     have ho:=offN_le N (show r+1<=t by omega)
     obtain⟨v',w2,hap,hw2,hgr,hloc⟩:=run_more elt_P 100 hrow (s.still fr) (by have:offN N (r+1)=offN N r+N r:=rfl;omega) fr.size
     replace c1:=fr.cell' c1 id
     have f2:St w w2:=fr.grown hgr (fun k hk=>.inr (hrow.lt k hk).1)
     have HX:=Hd (ai hw2 f2)
     have HAP:=Hd hap
     clear hR s ho hap hw2 hgr hloc f2 hrow hv fv
     go_wp2_with (first | (at_builtin;refine wpList_append_run rfl (.tmp 31) (.tmp 32) 100 rfl _ _ rfl rfl v' w2 (uh HAP) ?_) | fail)
     obtain⟨hw2,f2⟩:=uh HX
     exact⟨⟨r+1,by omega,by simp,hw2,f2⟩,by simp[RowKit.intOf];omega⟩
    ·have e:r=t:=by omega
     subst e
     clear hR
     have hlr':¬(r:Int)<r:=by omega
     go_wp2_with fail
     go_ret
     exact⟨_,rfl,hrow,fr⟩
theorem elt_K:ElT 123 94 2:=elt_of (z:=.agg #[.int .u64 0,.int .i64 0]) (bytes:=16) (by kernel_rfl) (by decide) (by decide) (by decide) Tryz.underlying94
set_option maxRecDepth 100000 in
theorem grow_K (n:Nat) (hn:n<=1000000) (w:World):Calls Tryz.prog 204 #[.slice none 0 0,.int .i64 n] w fun e w'=>∃v,e = .returned v/\w'.ownsRow w.heap.size 123 2 v 0 []/\St w w':=by
 by_cases h0:n=0
 ·subst h0
  go_enter Tryz.func204,Tryz.ntmps204
  go_wp2
  go_ret
  exact⟨_,rfl,World.ownsRow_nil _ _ _ _,Fr.refl _ _⟩
 ·obtain⟨hu,hs0,i,z,hi,hz,hsize,hby,hzs⟩:=elt_K
  have hold:(Builtin.firstCells i.size 0 (.slice none 0 0)).run Tryz.prog w.drew = .ok ([]:List Value).toArray w.drew:=run_firstCells_none (P:=Tryz.prog) (w:=w.drew) i.size 0 0 0
  have hr:=Lib.run_append_grow_zeros (P:=Tryz.prog) w 94 3 94 123 i z .i64 .i64 hu Tryz.underlying3 hi hz none 0 0 [] hold n (by omega) (by omega) (by omega) (by omega)
   (by have:n * i.bytes<=1000000 * 32:=Nat.mul_le_mul hn hby;omega) (growslice_fits (by omega) (by have:(0+n) * i.bytes<=1000000 * 32:=Nat.mul_le_mul (by omega) hby;omega))
  have hge:=grownCap_ge w (0+n) 0 123
  have hcm:grownCap w (0+n) 0 123<=maxLen:=grownCap_le_maxLen w (0+n) 0 123 (by unfold maxLen;omega)
  rw[Nat.zero_add] at hr hge hcm
  generalize grownCap w n 0 123=G at *
  have hG:G<=9223372036854775807:=by unfold maxLen at hcm;omega
  have hsz:(([]:List Value).toArray ++ Builtin.zeroCells z.cells n ++ Builtin.zeroCells z.cells (G - n)).size=G * 2:=by
   simp only[Array.size_append,List.size_toArray,size_zeroCells,hzs,List.length_nil,Nat.zero_add,<-Nat.add_mul]
   rw[show n+(G - n)=G by omega]
  generalize ([]:List Value).toArray ++ Builtin.zeroCells z.cells n ++ Builtin.zeroCells z.cells (G - n)=Z at *
  have h0':(0:Int)<n:=by omega
  have hn':¬(n:Int)<0:=by omega
  have w1:IntKind.i64.wrap ((n:Int) - 0)=n:=by rw[IntKind.wrap_i64];omega
  have HC:=Hd (ai hcm hsz)
  clear hold hcm hsz hu hs0 hi hz hsize hby hzs
  go_enter Tryz.func204,Tryz.ntmps204
  go_wp2_with (at_builtin;refine Lib.wpList_append_run _ rfl _ _ _ _ rfl _ _ rfl rfl _ _ hr ?_)
  go_ret
  obtain⟨hcm,hsz⟩:=uh HC
  exact⟨_,rfl,⟨rfl,.inr ⟨w.heap.size,G,Z,rfl,Nat.le_refl _,heap_alloc_new w.drew _,Nat.zero_le _,hcm,hsz,by simp⟩⟩,((Fr.refl (fun _=>False) w).drewN 1).alloc _⟩
set_option maxRecDepth 100000 in
theorem cat_K (a:Option Addr) (k cp:Nat) (A:Nat->Option Addr) (N C:Nat->Nat) (X:Nat->List Value) (w:World) (hR:RowsAt w 2 a k A N C X) (hk:k<=100) (hl:offN N k<=1000000) :
  Calls Tryz.prog 181 #[.slice a k cp] w fun e w'=>∃v,e = .returned v/\w'.ownsRow w.heap.size 123 2 v (offN N k) (catX X k)/\St w w':=by
 have GR:=grow_K (offN N k) hl w
 go_enter Tryz.func181,Tryz.ntmps181
 go_wp2_with fail
 go_loop [3,11] (fun s i=>∃t:Nat,t<=k/\i = .int .i64 t/\s = .int .i64 (offN N t)) (fun _ i=>k - (RowKit.intOf i).toNat)
 case atStart=>exact⟨0,by omega,rfl,rfl⟩
 case round=>
  obtain⟨t,htk,rfl,rfl⟩:=hrel
  by_cases hlt:t<k
  ·obtain⟨⟨b,o,rfl,c1⟩,s⟩:=hR t hlt
   have hlt':(t:Int)<k:=by omega
   have ho:=offN_le N (show t+1<=k by omega)
   have hs:offN N (t+1)=offN N t+N t:=rfl
   have w1:IntKind.i64.wrap ((offN N t:Int)+N t)=((offN N (t+1):Nat):Int):=by rw[IntKind.wrap_i64];omega
   have hp:¬((offN N (t+1):Nat):Int)<0:=by omega
   clear hR GR s
   go_wp2_with fail
   exact⟨⟨t+1,by omega,by simp,by first | rfl | simp⟩,by simp[RowKit.intOf];omega⟩
  ·have e:t=k:=by omega
   subst e
   have hlt':¬(t:Int)<t:=by omega
   go_wp2_with (first | (go_at_call 204;refine GR.mono ?_;rintro e w' ⟨v,rfl,hv,fv⟩) | fail)
   clear GR
   go_loopw [6,27] (fun v i wr=>∃r:Nat,r<=t/\i = .int .i64 r/\wr.ownsRow w.heap.size 123 2 v (offN N r) (catX X r)/\St w wr) (fun _ i _=>t - (RowKit.intOf i).toNat)
   case atStart=>exact⟨0,by omega,rfl,hv,fv⟩
   case round=>
    obtain⟨r,hrt,rfl,hrow,fr⟩:=hrel
    by_cases hlr:r<t
    ·obtain⟨⟨b,o,rfl,c1⟩,s⟩:=hR r hlr
     have hlr':(r:Int)<t:=by omega
     have ho:=offN_le N (show r+1<=t by omega)
     obtain⟨v',w2,hap,hw2,hgr,hloc⟩:=run_more elt_K 94 hrow (s.still fr) (by have:offN N (r+1)=offN N r+N r:=rfl;omega) fr.size
     replace c1:=fr.cell' c1 id
     have f2:St w w2:=fr.grown hgr (fun k hk=>.inr (hrow.lt k hk).1)
     have HX:=Hd (ai hw2 f2)
     have HAP:=Hd hap
     clear hR s ho hap hw2 hgr hloc f2 hrow hv fv
     go_wp2_with (first | (at_builtin;refine wpList_append_run rfl (.tmp 31) (.tmp 32) 94 rfl _ _ rfl rfl v' w2 (uh HAP) ?_) | fail)
     obtain⟨hw2,f2⟩:=uh HX
     exact⟨⟨r+1,by omega,by simp,hw2,f2⟩,by simp[RowKit.intOf];omega⟩
    ·have e:r=t:=by omega
     subst e
     clear hR
     have hlr':¬(r:Int)<r:=by omega
     go_wp2_with fail
     go_ret
     exact⟨_,rfl,hrow,fr⟩
abbrev Pr:=ByteArray×Nat
def pcl:List Pr->List Value
 | []=>[]
 | p :: l=>.string p.1 :: .int .u64 (p.2:Nat) :: pcl l
theorem pcl_app:∀(l m:List Pr),pcl (l ++ m)=pcl l ++ pcl m
 | [],_=>rfl
 | p :: l,m=>by simp[pcl,pcl_app l m]
theorem pcl_one:∀{l:List Pr},∀u∈pcl l,u.oneCell'=true
 | [],u,h=>by cases h
 | p :: l,u,h=>by
  rcases List.mem_cons.1 h with rfl | h
  ·rfl
  ·rcases List.mem_cons.1 h with rfl | h
   ·rfl
   ·exact pcl_one u h
theorem pcl_at:∀{l:List Pr} {k:Nat} {p:Pr},l[k]? = some p->(pcl l)[k * 2]? = some (.string p.1)/\(pcl l)[k * 2+1]? = some (.int .u64 (p.2:Nat))
 | [],_,_,h=>by simp at h
 | q :: l,0,p,h=>by
  cases (Option.some.inj h:q=p)
  exact⟨rfl,rfl⟩
 | q :: l,k+1,p,h=>by
  have:=pcl_at (l:=l) (k:=k) (p:=p) (by simpa using h)
  rw[show(k+1) * 2=k * 2+1+1 by omega]
  exact this
theorem pcl_take:∀(l:List Pr) (k:Nat),(pcl l).take (k * 2)=pcl (l.take k)
 | [],k=>by simp[pcl]
 | p :: l,0=>by simp[pcl]
 | p :: l,k+1=>by
  rw[show(k+1) * 2=k * 2+1+1 by omega]
  simp[pcl,pcl_take l k]
theorem pcl_drop:∀(l:List Pr) (k:Nat),(pcl l).drop (k * 2)=pcl (l.drop k)
 | [],k=>by simp[pcl]
 | p :: l,0=>by simp
 | p :: l,k+1=>by
  rw[show(k+1) * 2=k * 2+1+1 by omega]
  simp[pcl,pcl_drop l k]
theorem own_still {w w':World} {lo sz n:Nat} {t:TypeId} {v:Value} {xs:List Value} (h:w.ownsRow lo t sz v n xs) (f:St w w'):w'.ownsRow lo t sz v n xs:=owns_same h fun k hk=>f.block k (h.lt k hk).2 id
theorem own_lo {w:World} {lo lo' sz n:Nat} {t:TypeId} {v:Value} {xs:List Value} (h:w.ownsRow lo t sz v n xs) (hl:lo'<=lo):w.ownsRow lo' t sz v n xs:=by
 refine⟨h.1,?_⟩
 rcases h.2 with hn | ⟨g,cap,cur,hv,hb,r⟩
 ·exact .inl hn
 ·exact .inr ⟨g,cap,cur,hv,Nat.le_trans hl hb,r⟩
abbrev Lf (w:World) (a:Option Addr) (c:Nat) (l:List Pr):Prop:=Sl w 2 a l.length c (pcl l)
theorem Sl.pair {w:World} {a:Option Addr} {c k:Nat} {l:List Pr} {p:Pr} (h:Lf w a c l) (hp:l[k]? = some p):∃b o,a=some ⟨b,o,none⟩/\w.cell? ⟨b,o+k * 2,none⟩=some (.string p.1)/\w.cell? ⟨b,o+k * 2+1,none⟩=some (.int .u64 (p.2:Nat)):=by
 obtain⟨h1,h2⟩:=pcl_at hp
 obtain⟨b,o,e,c1⟩:=h.cells _ _ h1
 obtain⟨b',o',e',c2⟩:=h.cells _ _ h2
 rw[e] at e'
 cases e'
 exact⟨b,o,e,c1,by rw[<-Nat.add_assoc] at c2;exact c2⟩
set_option maxRecDepth 100000 in
theorem l_keys (a:Option Addr) (c:Nat) (l:List Pr) (w:World) (h:Lf w a c l) (hl:l.length<=500) :
  Calls Tryz.prog 234 #[.slice a l.length c] w fun e w'=>∃v,e = .returned v/\w'.ownsRow w.heap.size 9 1 v l.length (l.map fun p=>.string p.1)/\St w w':=by
 go_enter Tryz.func234,Tryz.ntmps234
 go_wp2_with fail
 go_loopw [3,8] (fun v i wr=>∃r:Nat,r<=l.length/\i = .int .i64 r/\wr.ownsRow w.heap.size 9 1 v r ((l.take r).map fun p=>.string p.1)/\St w wr) (fun _ i _=>l.length - (RowKit.intOf i).toNat)
 case atStart=>exact⟨0,by omega,rfl,World.ownsRow_nil _ _ _ _,Fr.refl _ _⟩
 case round=>
  obtain⟨r,hrn,rfl,hrow,fr⟩:=hrel
  by_cases hlt:r<l.length
  ·obtain⟨p,hp⟩:∃p,l[r]? = some p:=⟨_,List.getElem?_eq_getElem hlt⟩
   obtain⟨b,o,rfl,c1,c2⟩:=h.pair hp
   replace c1:=fr.cell' c1 id
   replace c2:=fr.cell' c2 id
   have hlt':(r:Int)<l.length:=by omega
   obtain⟨W1,hW1⟩:∃W1,wr.alloc (.cells #[.string p.1,.int .u64 p.2] 43)=W1:=⟨_,rfl⟩
   have f1:St wr W1:=hW1▸(Fr.refl _ wr).alloc _
   obtain⟨v',w2,hap,hw2,f2,hloc⟩:=run_val infoT rfl (by decide) Tryz.underlying93 W1 w.heap.size _ r _ (own_still hrow f1) (.string p.1) rfl (by omega) (Nat.le_trans fr.size f1.size)
   have ht:(l.take (r+1)).map (fun p=>Value.string p.1)=(l.take r).map (fun p=>Value.string p.1) ++ [.string p.1]:=by
    rw[List.take_add_one,hp];simp
   have HX:=Hd (show w2.ownsRow w.heap.size 9 1 v' (r+1) ((l.take (r+1)).map fun p=>.string p.1)/\St w w2 from⟨by rw[ht];exact hw2,(fr.trans' f1 nE).trans' f2 (fun k hk=>.inr (hrow.lt k hk).1)⟩)
   rw[show W1.heap.size=wr.heap.size+1 by rw[<-hW1];simp] at hap
   have HAP:=Hd hap
   have HW1:=Hd hW1
   clear h hap hw2 hloc f2 hrow ht f1 hW1
   go_wp2_with (first | (at_builtin;rw[uh HW1];refine wpList_append_run rfl (.tmp 12) (.tmp 15) 93 rfl _ _ rfl rfl v' w2 (uh HAP) ?_) | fail)
   obtain⟨hw2,f2⟩:=uh HX
   exact⟨⟨r+1,by omega,by simp,hw2,f2⟩,by simp[RowKit.intOf];omega⟩
  ·have e:r=l.length:=by omega
   subst e
   clear h
   have hlt':¬(l.length:Int)<l.length:=by omega
   go_wp2_with fail
   go_ret
   exact⟨_,rfl,by simpa using hrow,fr⟩
set_option maxRecDepth 100000 in
theorem l_items (a:Option Addr) (c:Nat) (l:List Pr) (w:World) (h:Lf w a c l) (hl:l.length<=500) :
  Calls Tryz.prog 233 #[.slice a l.length c] w fun e w'=>∃v,e = .returned v/\w'.ownsRow w.heap.size 27 1 v l.length (l.map fun p=>.int .u64 (p.2:Nat))/\St w w':=by
 go_enter Tryz.func233,Tryz.ntmps233
 go_wp2_with fail
 go_loopw [3,8] (fun v i wr=>∃r:Nat,r<=l.length/\i = .int .i64 r/\wr.ownsRow w.heap.size 27 1 v r ((l.take r).map fun p=>.int .u64 (p.2:Nat))/\St w wr) (fun _ i _=>l.length - (RowKit.intOf i).toNat)
 case atStart=>exact⟨0,by omega,rfl,World.ownsRow_nil _ _ _ _,Fr.refl _ _⟩
 case round=>
  obtain⟨r,hrn,rfl,hrow,fr⟩:=hrel
  by_cases hlt:r<l.length
  ·obtain⟨p,hp⟩:∃p,l[r]? = some p:=⟨_,List.getElem?_eq_getElem hlt⟩
   obtain⟨b,o,rfl,c1,c2⟩:=h.pair hp
   replace c1:=fr.cell' c1 id
   replace c2:=fr.cell' c2 id
   have hlt':(r:Int)<l.length:=by omega
   obtain⟨W1,hW1⟩:∃W1,wr.alloc (.cells #[.string p.1,.int .u64 p.2] 43)=W1:=⟨_,rfl⟩
   have f1:St wr W1:=hW1▸(Fr.refl _ wr).alloc _
   obtain⟨v',w2,hap,hw2,f2,hloc⟩:=run_val infoU rfl (by decide) Tryz.underlying141 W1 w.heap.size _ r _ (own_still hrow f1) (.int .u64 (p.2:Nat)) rfl (by omega) (Nat.le_trans fr.size f1.size)
   have ht:(l.take (r+1)).map (fun p=>Value.int .u64 (p.2:Nat))=(l.take r).map (fun p=>Value.int .u64 (p.2:Nat)) ++ [.int .u64 (p.2:Nat)]:=by
    rw[List.take_add_one,hp];simp
   have HX:=Hd (show w2.ownsRow w.heap.size 27 1 v' (r+1) ((l.take (r+1)).map fun p=>.int .u64 (p.2:Nat))/\St w w2 from⟨by rw[ht];exact hw2,(fr.trans' f1 nE).trans' f2 (fun k hk=>.inr (hrow.lt k hk).1)⟩)
   rw[show W1.heap.size=wr.heap.size+1 by rw[<-hW1];simp] at hap
   have HAP:=Hd hap
   have HW1:=Hd hW1
   clear h hap hw2 hloc f2 hrow ht f1 hW1
   go_wp2_with (first | (at_builtin;rw[uh HW1];refine wpList_append_run rfl (.tmp 12) (.tmp 15) 141 rfl _ _ rfl rfl v' w2 (uh HAP) ?_) | fail)
   obtain⟨hw2,f2⟩:=uh HX
   exact⟨⟨r+1,by omega,by simp,hw2,f2⟩,by simp[RowKit.intOf];omega⟩
  ·have e:r=l.length:=by omega
   subst e
   clear h
   have hlt':¬(l.length:Int)<l.length:=by omega
   go_wp2_with fail
   go_ret
   exact⟨_,rfl,by simpa using hrow,fr⟩

section
def plc (nu:Nat) (l:List Prt) (us:List Nat):List Prt:=l.mapIdx fun k p=>match us[k]? with
 | some u=>{ p with at_:=fi nu+u * 8 }
 | none=>p
theorem take_l {P:Program} {Q:Exit->Act->World->Prop} {md:Region.Mode} {S:World->Prop} {os:List Oper} (i:Nat) {oi:Oper} {v:Value} {fuel:Nat} {listed:Array Bool} {a:Act} {w:World} (hi:os[i]? = some oi)
  (hs:Region.noSelect os.toArray=true) (hf:Region.free md os.toArray listed i=true) (hr:(Region.ready md os.toArray listed).contains i=true)
  (hQ:∀c a w,Q (.panic c) (a.put oi.dst v) w->Q (.panic c) a w) (hy:YieldsIf P os.toArray S oi v a) (hS:S w)
  (h:wpAnyH P md os.toArray Q S fuel (listed.setIfInBounds i true) (a.put oi.dst v) w):wpAnyH P md os.toArray Q S (fuel+1) listed a w:=
 wpAnyH_take (i:=i) (oi:=oi) (by simpa using hi) hs hf hr hQ hy hS h
theorem tkO {P:Program} {Q:Exit->Act->World->Prop} {md:Region.Mode} {S:World->Prop} {os:List Oper} (i:Nat) (v:Value) {oi:Oper} {fuel:Nat} {listed:Array Bool} {a:Act} {w:World} (hS:S w) (hi:os[i]? = some oi)
 (hy:∀w,S w->(execOp a.eval oi).run P w = .ok (.value v) w)
 (h:wpAnyH P md os.toArray Q S fuel (listed.setIfInBounds i true) (a.put oi.dst v) w)
 (hg:Region.wanted oi (yielded os.toArray a.tmps)=true:=by rfl)
 (hs:Region.noSelect os.toArray=true:=by kernel_rfl) (hf:Region.free md os.toArray listed i=true:=by kernel_rfl) (hr:(Region.ready md os.toArray listed).contains i=true:=by kernel_rfl)
 (hQ:∀c a w,Q (.panic c) (a.put oi.dst v) w->Q (.panic c) a w:=by exact fun _ _ _ h=>h):wpAnyH P md os.toArray Q S (fuel+1) listed a w:=
 take_l i hi hs hf hr hQ (.inl ⟨hg,hy⟩) hS h
theorem apt (l:List Value) (d) (k:Nat) (v:Value):Act.put ⟨l.toArray,d⟩ (some k) v=⟨(l.set k v).toArray,d⟩:=by
 simp[Act.put]
theorem rdO {P:Program} {Q:Exit->Act->World->Prop} {md:Region.Mode} {S:World->Prop} {ops:Array Oper} (i:Nat) {o:Oper} {fuel:Nat} {listed:Array Bool} {a:Act} {w:World} (ho:ops[i]? = some o)
 (h:∀K':Act->World->Prop,Shut (∀a w,S w->(S w->wpAnyH P md ops Q S fuel (listed.setIfInBounds i true) a w)->K' a w)->if Region.wanted o (yielded ops a.tmps)=true then Oper.wp P o a w K' Q else K' (a.put o.dst undef) w)
 (hr:Region.ready md ops listed = [i]:=by kernel_rfl):wpAnyH P md ops Q S (fuel+1) listed a w:=
 wpAnyH_ready hr (by simp) (AllReadyH.cons ho h AllReadyH.nil)
def bxN (w:World) (r:Nat):Nat:=match w.cell? ⟨r,0,none⟩ with
 | some v=>(intOf v).toNat
 | none=>0
theorem Box.bxN {w:World} {r k:Nat} (h:Box w r (.int .i64 k)):bxN w r=k:=by simp[Go.Proofs.YtbiopjmpdhcjgaaGreatDoor.bxN,h.c,intOf]
section
variable {nu sz:Nat} {w w' w0:World} {hb sb b:Nat} {T:Tay} {A:Ab} {P:List (Int×Int)}
end
end
end Go.Proofs.YtbiopjmpdhcjgaaGreatDoor
