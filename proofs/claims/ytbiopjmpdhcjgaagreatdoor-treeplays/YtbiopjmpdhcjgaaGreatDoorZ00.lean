/- Joined: Base NvA. -/
import Derived.WalkKit
import Derived.WalkSpells
import Derived.WalkLawsBesides
import Derived.Handy
import Derived.Test.YtbiopjmpdhcjgaaGreatDoorRows
import Derived.Deep.QuietTactic
import Derived.BigQuiet
namespace Go.Proofs.YtbiopjmpdhcjgaaGreatDoor
open Go.RowKit
set_option maxHeartbeats 4000000

section
abbrev ptr (b:Nat):Value:=.pointer (some ⟨b,0,none⟩)
abbrev row (b n:Nat):Value:=.slice (some ⟨b,0,none⟩) n n
abbrev rowc (b n k:Nat):Value:=.slice (some ⟨b,0,none⟩) n k
abbrev lost:List PanicEntry:=[{ v:=.iface 133 (.agg #[]),recovered:=false }]
abbrev wrong (i:Int):List PanicEntry:=[{ v:=.iface 229 (.agg #[.int .i64 i]),recovered:=false }]
theorem Hd {p:Prop} (h:p):Hid p:=h
theorem uh {p:Prop} (h:Hid p):p:=h
theorem nE {p:Nat->Prop}:∀k:Nat,False->p k:=fun _ x=>x.elim
theorem ai {a b:Prop} (x:a) (y:b):a/\b:=⟨x,y⟩
structure Fr (F:Nat->Prop) (w w':World):Prop where
 os:w'.os=w.os
 tape:w'.tape=w.tape
 output:w'.output=w.output
 size:w.heap.size<=w'.heap.size
 block:∀k,k<w.heap.size->¬F k->w'.heap[k]? = w.heap[k]?
theorem Fr.refl (F:Nat->Prop) (w:World):Fr F w w:=⟨rfl,rfl,rfl,Nat.le_refl _,fun _ _ _=>rfl⟩
theorem Fr.trans' {F G:Nat->Prop} {a b c:World} (h:Fr F a b) (k:Fr G b c) (hG:∀k,G k->F k\/a.heap.size<=k):Fr F a c:=
 ⟨k.os.trans h.os,k.tape.trans h.tape,k.output.trans h.output,Nat.le_trans h.size k.size,fun i hi hF=>
  (k.block i (Nat.lt_of_lt_of_le hi h.size) (fun g=>by rcases hG i g with h1 | h1;exact hF h1;omega)).trans (h.block i hi hF)⟩
theorem Fr.trans {F:Nat->Prop} {a b c:World} (h:Fr F a b) (k:Fr F b c):Fr F a c:=h.trans' k fun _=>.inl
theorem Fr.mono {F G:Nat->Prop} {a b:World} (h:Fr F a b) (hG:∀k,F k->G k\/a.heap.size<=k):Fr G a b:=(Fr.refl G a).trans' h hG
theorem Fr.alloc {F:Nat->Prop} {a w:World} (h:Fr F a w) (o:Obj):Fr F a (w.alloc o):=
 h.trans ⟨rfl,rfl,rfl,by simp,fun k hk _=>Below.heap_alloc _ _ _ (by omega)⟩
theorem Fr.setCell {F:Nat->Prop} {a w:World} (h:Fr F a w) {p:Addr} (hp:F p.block\/a.heap.size<=p.block) (u:Value):Fr F a (w.setCell p u):=
 h.trans' (G:=fun k=>k=p.block) ⟨rfl,rfl,rfl,by simp[World.setCell],fun k _ hk=>Below.heap_setCell _ _ _ _ hk⟩ (fun k e=>by subst e;exact hp)
theorem Fr.drew {F:Nat->Prop} {a w:World} (h:Fr F a w):Fr F a w.drew:=⟨h.os,h.tape,h.output,h.size,h.block⟩
theorem Fr.drewN {F:Nat->Prop} {a w:World} (h:Fr F a w) (n:Nat):Fr F a (w.drewN n):=⟨h.os,h.tape,h.output,h.size,h.block⟩
theorem Fr.grown {F:Nat->Prop} {a w w':World} {r:Option Nat} (h:Fr F a w) (hg:w.grownBy w' r) (hr:∀k,r=some k->F k\/a.heap.size<=k):Fr F a w':=
 h.trans' (G:=fun k=>some k=r) ⟨hg.os,hg.tape,hg.output,hg.size,fun k hk hn=>hg.block k hk hn⟩ (fun k e=>hr k e.symm)
theorem Fr.cell {F:Nat->Prop} {w w':World} (h:Fr F w w') {p:Addr} (hp:p.block<w.heap.size) (hF:¬F p.block):w'.cell? p=w.cell? p:=World.cell?_of_block (h.block _ hp hF)
theorem Fr.cell' {F:Nat->Prop} {w w':World} (h:Fr F w w') {p:Addr} {v:Value} (hv:w.cell? p=some v) (hF:¬F p.block):w'.cell? p=some v:=
 (h.cell (World.block_lt_of_cell? w p hv) hF).trans hv
theorem Fr.frozen {F:Nat->Prop} {w w':World} (h:Fr F w w') {p:Addr} (hp:p.block<w.heap.size) (hF:¬F p.block):w'.frozen? p=w.frozen? p:=World.frozen?_of_block (h.block _ hp hF)
theorem Fr.ofBelow {w w':World} (h:Below w.heap.size w w'):Fr (fun _=>False) w w':=⟨h.os,h.tape,h.output,h.size,fun k hk _=>h.block k hk⟩
def upd {α : Type} (f:Nat->α) (i:Nat) (v : α):Nat->α:=fun j=>if j=i then v else f j
theorem upd_same {α : Type} (f:Nat->α) (i:Nat) (v : α):upd f i v i=v:=by simp[upd]
theorem upd_other {α : Type} (f:Nat->α) {i j:Nat} (v : α) (h:j≠i):upd f i v j=f j:=by simp[upd,h]
structure Ab where
 n:Nat
 now:Nat->Int
 lasts:Nat->Int
 way:Nat->Option (Nat->Int)
 steps:Int
 fuse:Int
 dead:Bool
structure Lay where
 bn:Nat
 bl:Nat
 bp:Nat
 kn:Nat
 kl:Nat
 kp:Nat
 sv:Value
 place:Nat->Nat
 sent:List (Nat×(Nat->Int))
abbrev u64 (x:Int):Value:=.int .u64 x
def lineCells (l:Nat->Int):List Value:=[u64 (l 0),u64 (l 1),u64 (l 2),u64 (l 3),u64 (l 4),u64 (l 5),u64 (l 6),u64 (l 7)]
def sentCells (s:List (Nat×(Nat->Int))):List Value:=s.flatMap fun x=>.int .i64 x.1 :: lineCells x.2
def foot (b:Nat) (L:Lay):Nat->Prop:=fun k=>k=b\/k=L.bn\/k=L.bl\/k=L.bp\/L.sv.ownBlock=some k
structure DevL (w:World) (b:Nat) (L:Lay) (A:Ab):Prop where
 n8:A.n<=8192
 c0:w.cell? ⟨b,0,none⟩=some (rowc L.bn A.n L.kn)
 c1:w.cell? ⟨b,1,none⟩=some (rowc L.bl A.n L.kl)
 c2:w.cell? ⟨b,2,none⟩=some L.sv
 c3:w.cell? ⟨b,3,none⟩=some (rowc L.bp A.n L.kp)
 c4:w.cell? ⟨b,4,none⟩=some (.int .i64 A.steps)
 c5:w.cell? ⟨b,5,none⟩=some (.int .i64 A.fuse)
 c6:w.cell? ⟨b,6,none⟩=some (.bool A.dead)
 zb:∀o,w.frozen? ⟨b,o,none⟩=false
 zn:∀o,w.frozen? ⟨L.bn,o,none⟩=false
 zl:∀o,w.frozen? ⟨L.bl,o,none⟩=false
 zp:∀o,w.frozen? ⟨L.bp,o,none⟩=false
 now:∀j,j<A.n * 8->w.cell? ⟨L.bn,j,none⟩=some (u64 (A.now j))
 lasts:∀j,j<A.n * 8->w.cell? ⟨L.bl,j,none⟩=some (u64 (A.lasts j))
 plc:∀a,a<A.n->w.cell? ⟨L.bp,a,none⟩=some (.int .i64 (L.place a))
 own:w.ownsRow 0 236 9 L.sv L.sent.length (sentCells L.sent)
 bbn:b≠L.bn
 bbl:b≠L.bl
 bbp:b≠L.bp
 bnl:L.bn≠L.bl
 bnp:L.bn≠L.bp
 blp:L.bl≠L.bp
 sb:L.sv.ownBlock≠some b
 sn:L.sv.ownBlock≠some L.bn
 sl:L.sv.ownBlock≠some L.bl
 sp:L.sv.ownBlock≠some L.bp
 ltb:b<w.heap.size
 ltn:L.bn<w.heap.size
 ltl:L.bl<w.heap.size
 ltp:L.bp<w.heap.size
 sentOk:∀p a l,L.sent[p]? = some (a,l)->a<A.n/\L.place a=p+1/\A.way a=some l
 wayOk:∀a,a<A.n->(L.place a=0/\A.way a=none)\/∃p l,L.place a=p+1/\L.sent[p]? = some (a,l)
 few:(L.sent.length:Int)<=A.steps
theorem DevL.lts {w:World} {b:Nat} {L:Lay} {A:Ab} (h:DevL w b L A):∀k,L.sv.ownBlock=some k->k<w.heap.size:=fun k hk=>(h.own.lt k hk).2
theorem DevL.lt {w:World} {b:Nat} {L:Lay} {A:Ab} (h:DevL w b L A):∀k,foot b L k->k<w.heap.size:=by
 rintro k (rfl | rfl | rfl | rfl | h5)
 ·exact h.ltb
 ·exact h.ltn
 ·exact h.ltl
 ·exact h.ltp
 ·exact h.lts k h5
theorem owns_same {w w':World} {base:Nat} {e:TypeId} {size:Nat} {v:Value} {n:Nat} {xs:List Value} (h:w.ownsRow base e size v n xs) (hb:∀k,v.ownBlock=some k->w'.heap[k]? = w.heap[k]?):w'.ownsRow base e size v n xs:=by
 refine⟨h.1,?_⟩
 rcases h.2 with hn | ⟨g,cap,cur,rfl,hg,hgg,rest⟩
 ·exact .inl hn
 ·exact .inr ⟨g,cap,cur,rfl,hg,by rw[hb g rfl];exact hgg,rest⟩
theorem DevL.kept {w w':World} {b:Nat} {L:Lay} {A:Ab} (h:DevL w b L A) {F:Nat->Prop} (hf:Fr F w w') (hF:∀k,foot b L k->¬F k):DevL w' b L A:=by
 have eb:w'.heap[b]? = w.heap[b]?:=hf.block _ h.ltb (hF _ (.inl rfl))
 have en:w'.heap[L.bn]? = w.heap[L.bn]?:=hf.block _ h.ltn (hF _ (.inr (.inl rfl)))
 have el:w'.heap[L.bl]? = w.heap[L.bl]?:=hf.block _ h.ltl (hF _ (.inr (.inr (.inl rfl))))
 have ep:w'.heap[L.bp]? = w.heap[L.bp]?:=hf.block _ h.ltp (hF _ (.inr (.inr (.inr (.inl rfl)))))
 have cb:∀o,w'.cell? ⟨b,o,none⟩=w.cell? ⟨b,o,none⟩:=fun o=>World.cell?_of_block eb
 have cn:∀o,w'.cell? ⟨L.bn,o,none⟩=w.cell? ⟨L.bn,o,none⟩:=fun o=>World.cell?_of_block en
 have cl:∀o,w'.cell? ⟨L.bl,o,none⟩=w.cell? ⟨L.bl,o,none⟩:=fun o=>World.cell?_of_block el
 have cp:∀o,w'.cell? ⟨L.bp,o,none⟩=w.cell? ⟨L.bp,o,none⟩:=fun o=>World.cell?_of_block ep
 refine { h with c0:=?_,c1:=?_,c2:=?_,c3:=?_,c4:=?_,c5:=?_,c6:=?_,zb:=?_,zn:=?_,zl:=?_,zp:=?_,now:=?_,lasts:=?_,plc:=?_,own:=?_,ltb:=?_,ltn:=?_,ltl:=?_,ltp:=?_ }
 ·rw[cb];exact h.c0
 ·rw[cb];exact h.c1
 ·rw[cb];exact h.c2
 ·rw[cb];exact h.c3
 ·rw[cb];exact h.c4
 ·rw[cb];exact h.c5
 ·rw[cb];exact h.c6
 ·intro o;rw[World.frozen?_of_block (a:=⟨b,o,none⟩) eb];exact h.zb o
 ·intro o;rw[World.frozen?_of_block (a:=⟨L.bn,o,none⟩) en];exact h.zn o
 ·intro o;rw[World.frozen?_of_block (a:=⟨L.bl,o,none⟩) el];exact h.zl o
 ·intro o;rw[World.frozen?_of_block (a:=⟨L.bp,o,none⟩) ep];exact h.zp o
 ·intro j hj;rw[cn];exact h.now j hj
 ·intro j hj;rw[cl];exact h.lasts j hj
 ·intro j hj;rw[cp];exact h.plc j hj
 ·exact owns_same h.own fun k hk=>hf.block k (h.lts k hk) (hF k (.inr (.inr (.inr (.inr hk)))))
 ·exact Nat.lt_of_lt_of_le h.ltb hf.size
 ·exact Nat.lt_of_lt_of_le h.ltn hf.size
 ·exact Nat.lt_of_lt_of_le h.ltl hf.size
 ·exact Nat.lt_of_lt_of_le h.ltp hf.size
section
variable {w:World} {b:Nat} {L:Lay} {A:Ab}
theorem DevL.setSteps (h:DevL w b L A) (s:Int) (hs:A.steps<=s):DevL (w.setCell ⟨b,4,none⟩ (.int .i64 s)) b L { A with steps:=s }:=by
 have ce:∀a:Addr,a≠⟨b,4,none⟩->(w.setCell ⟨b,4,none⟩ (.int .i64 s)).cell? a=w.cell? a:=fun a ha=>World.cell?_setCell_other _ _ _ _ (Ne.symm ha)
 have hbn:=h.bbn;have hbl:=h.bbl;have hbp:=h.bbp
 refine { h with c0:=?_,c1:=?_,c2:=?_,c3:=?_,c4:=World.cell?_setCell_same _ _ _ h.c4,c5:=?_,c6:=?_,zb:=?_,zn:=?_,zl:=?_,zp:=?_,now:=?_,lasts:=?_,plc:=?_,own:=?_,ltb:=by simpa using h.ltb,ltn:=by simpa using h.ltn,ltl:=by simpa using h.ltl,ltp:=by simpa using h.ltp,few:=Int.le_trans h.few hs }
 ·rw[ce _ (by simp)];exact h.c0
 ·rw[ce _ (by simp)];exact h.c1
 ·rw[ce _ (by simp)];exact h.c2
 ·rw[ce _ (by simp)];exact h.c3
 ·rw[ce _ (by simp)];exact h.c5
 ·rw[ce _ (by simp)];exact h.c6
 ·intro o;rw[World.frozen?_setCell];exact h.zb o
 ·intro o;rw[World.frozen?_setCell];exact h.zn o
 ·intro o;rw[World.frozen?_setCell];exact h.zl o
 ·intro o;rw[World.frozen?_setCell];exact h.zp o
 ·intro j hj;rw[ce _ (by simp <;> omega)];exact h.now j hj
 ·intro j hj;rw[ce _ (by simp <;> omega)];exact h.lasts j hj
 ·intro j hj;rw[ce _ (by simp <;> omega)];exact h.plc j hj
 ·exact owns_same h.own fun k hk=>Below.heap_setCell _ _ _ _ (fun e=>h.sb (by rw[hk,e]))
theorem DevL.setFuse (h:DevL w b L A) (s:Int):DevL (w.setCell ⟨b,5,none⟩ (.int .i64 s)) b L { A with fuse:=s }:=by
 have ce:∀a:Addr,a≠⟨b,5,none⟩->(w.setCell ⟨b,5,none⟩ (.int .i64 s)).cell? a=w.cell? a:=fun a ha=>World.cell?_setCell_other _ _ _ _ (Ne.symm ha)
 have hbn:=h.bbn;have hbl:=h.bbl;have hbp:=h.bbp
 refine { h with c0:=?_,c1:=?_,c2:=?_,c3:=?_,c4:=?_,c5:=World.cell?_setCell_same _ _ _ h.c5,c6:=?_,zb:=?_,zn:=?_,zl:=?_,zp:=?_,now:=?_,lasts:=?_,plc:=?_,own:=?_,ltb:=by simpa using h.ltb,ltn:=by simpa using h.ltn,ltl:=by simpa using h.ltl,ltp:=by simpa using h.ltp }
 ·rw[ce _ (by simp)];exact h.c0
 ·rw[ce _ (by simp)];exact h.c1
 ·rw[ce _ (by simp)];exact h.c2
 ·rw[ce _ (by simp)];exact h.c3
 ·rw[ce _ (by simp)];exact h.c4
 ·rw[ce _ (by simp)];exact h.c6
 ·intro o;rw[World.frozen?_setCell];exact h.zb o
 ·intro o;rw[World.frozen?_setCell];exact h.zn o
 ·intro o;rw[World.frozen?_setCell];exact h.zl o
 ·intro o;rw[World.frozen?_setCell];exact h.zp o
 ·intro j hj;rw[ce _ (by simp <;> omega)];exact h.now j hj
 ·intro j hj;rw[ce _ (by simp <;> omega)];exact h.lasts j hj
 ·intro j hj;rw[ce _ (by simp <;> omega)];exact h.plc j hj
 ·exact owns_same h.own fun k hk=>Below.heap_setCell _ _ _ _ (fun e=>h.sb (by rw[hk,e]))
theorem DevL.setDead (h:DevL w b L A) (s:Bool):DevL (w.setCell ⟨b,6,none⟩ (.bool s)) b L { A with dead:=s }:=by
 have ce:∀a:Addr,a≠⟨b,6,none⟩->(w.setCell ⟨b,6,none⟩ (.bool s)).cell? a=w.cell? a:=fun a ha=>World.cell?_setCell_other _ _ _ _ (Ne.symm ha)
 have hbn:=h.bbn;have hbl:=h.bbl;have hbp:=h.bbp
 refine { h with c0:=?_,c1:=?_,c2:=?_,c3:=?_,c4:=?_,c5:=?_,c6:=World.cell?_setCell_same _ _ _ h.c6,zb:=?_,zn:=?_,zl:=?_,zp:=?_,now:=?_,lasts:=?_,plc:=?_,own:=?_,ltb:=by simpa using h.ltb,ltn:=by simpa using h.ltn,ltl:=by simpa using h.ltl,ltp:=by simpa using h.ltp }
 ·rw[ce _ (by simp)];exact h.c0
 ·rw[ce _ (by simp)];exact h.c1
 ·rw[ce _ (by simp)];exact h.c2
 ·rw[ce _ (by simp)];exact h.c3
 ·rw[ce _ (by simp)];exact h.c4
 ·rw[ce _ (by simp)];exact h.c5
 ·intro o;rw[World.frozen?_setCell];exact h.zb o
 ·intro o;rw[World.frozen?_setCell];exact h.zn o
 ·intro o;rw[World.frozen?_setCell];exact h.zl o
 ·intro o;rw[World.frozen?_setCell];exact h.zp o
 ·intro j hj;rw[ce _ (by simp <;> omega)];exact h.now j hj
 ·intro j hj;rw[ce _ (by simp <;> omega)];exact h.lasts j hj
 ·intro j hj;rw[ce _ (by simp <;> omega)];exact h.plc j hj
 ·exact owns_same h.own fun k hk=>Below.heap_setCell _ _ _ _ (fun e=>h.sb (by rw[hk,e]))
theorem DevL.setNow (h:DevL w b L A) (i:Nat) (hi:i<A.n * 8) (v:Int):DevL (w.setCell ⟨L.bn,i,none⟩ (u64 v)) b L { A with now:=upd A.now i v }:=by
 have ce:∀a:Addr,a≠⟨L.bn,i,none⟩->(w.setCell ⟨L.bn,i,none⟩ (u64 v)).cell? a=w.cell? a:=fun a ha=>World.cell?_setCell_other _ _ _ _ (Ne.symm ha)
 have hbn:=h.bbn;have hnl:=h.bnl;have hnp:=h.bnp
 refine { h with c0:=?_,c1:=?_,c2:=?_,c3:=?_,c4:=?_,c5:=?_,c6:=?_,zb:=?_,zn:=?_,zl:=?_,zp:=?_,now:=?_,lasts:=?_,plc:=?_,own:=?_,ltb:=by simpa using h.ltb,ltn:=by simpa using h.ltn,ltl:=by simpa using h.ltl,ltp:=by simpa using h.ltp }
 ·rw[ce _ (by simp <;> omega)];exact h.c0
 ·rw[ce _ (by simp <;> omega)];exact h.c1
 ·rw[ce _ (by simp <;> omega)];exact h.c2
 ·rw[ce _ (by simp <;> omega)];exact h.c3
 ·rw[ce _ (by simp <;> omega)];exact h.c4
 ·rw[ce _ (by simp <;> omega)];exact h.c5
 ·rw[ce _ (by simp <;> omega)];exact h.c6
 ·intro o;rw[World.frozen?_setCell];exact h.zb o
 ·intro o;rw[World.frozen?_setCell];exact h.zn o
 ·intro o;rw[World.frozen?_setCell];exact h.zl o
 ·intro o;rw[World.frozen?_setCell];exact h.zp o
 ·intro j hj
  by_cases e:j=i
  ·subst e;rw[World.cell?_setCell_same _ _ _ (h.now j hj)];simp[upd]
  ·rw[ce _ (by simp <;> omega)];simp only[upd,if_neg e];exact h.now j hj
 ·intro j hj;rw[ce _ (by simp <;> omega)];exact h.lasts j hj
 ·intro j hj;rw[ce _ (by simp <;> omega)];exact h.plc j hj
 ·exact owns_same h.own fun k hk=>Below.heap_setCell _ _ _ _ (fun e=>h.sn (by rw[hk,e]))
end
abbrev set8 (w:World) (c o:Nat) (l:Nat->Int):World:=
 (((((((w.setCell ⟨c,o,none⟩ (u64 (l 0))).setCell ⟨c,o+1,none⟩ (u64 (l 1))).setCell ⟨c,o+2,none⟩ (u64 (l 2))).setCell ⟨c,o+3,none⟩ (u64 (l 3))).setCell ⟨c,o+4,none⟩ (u64 (l 4))).setCell ⟨c,o+5,none⟩ (u64 (l 5))).setCell ⟨c,o+6,none⟩ (u64 (l 6))).setCell ⟨c,o+7,none⟩ (u64 (l 7))
theorem set8_fr (w:World) (c o:Nat) (l:Nat->Int) {F:Nat->Prop} {a:World} (h:Fr F a w) (hc:F c\/a.heap.size<=c):Fr F a (set8 w c o l):=
 (((((((h.setCell hc _).setCell hc _).setCell hc _).setCell hc _).setCell hc _).setCell hc _).setCell hc _).setCell hc _
theorem set8_size (w:World) (c o:Nat) (l:Nat->Int):(set8 w c o l).heap.size=w.heap.size:=by simp[set8]
theorem set8_frozen (w:World) (c o:Nat) (l:Nat->Int) (a:Addr):(set8 w c o l).frozen? a=w.frozen? a:=by simp[set8]
theorem set8_heap (w:World) (c o k:Nat) (l:Nat->Int) (h:k≠c):(set8 w c o l).heap[k]? = w.heap[k]?:=by
 have st:∀(x:World) (q:Nat) (v:Value),(x.setCell ⟨c,q,none⟩ v).heap[k]? = x.heap[k]?:=fun x q v=>Below.heap_setCell _ _ _ _ h
 simp only[set8,st]
theorem set8_other (w:World) (c o:Nat) (l:Nat->Int) (a:Addr) (h:a.block≠c\/a.off<o\/o+8<=a.off):(set8 w c o l).cell? a=w.cell? a:=by
 have ne:∀k,k<8->(⟨c,o+k,none⟩:Addr)≠a:=fun k hk e=>by subst e;simp at h;omega
 have n0:=ne 0 (by omega);have n1:=ne 1 (by omega);have n2:=ne 2 (by omega);have n3:=ne 3 (by omega)
 have n4:=ne 4 (by omega);have n5:=ne 5 (by omega);have n6:=ne 6 (by omega);have n7:=ne 7 (by omega)
 simp only[Nat.add_zero] at n0
 simp only[set8]
 rw[World.cell?_setCell_other _ _ _ _ n7,World.cell?_setCell_other _ _ _ _ n6,World.cell?_setCell_other _ _ _ _ n5,World.cell?_setCell_other _ _ _ _ n4,World.cell?_setCell_other _ _ _ _ n3,World.cell?_setCell_other _ _ _ _ n2,World.cell?_setCell_other _ _ _ _ n1,World.cell?_setCell_other _ _ _ _ n0]
theorem cell?_setCell_is {w:World} {c o i:Nat} {v:Value} (h:(w.cell? ⟨c,i,none⟩).isSome=true):(w.setCell ⟨c,o,none⟩ v).cell? ⟨c,i,none⟩=if i=o then some v else w.cell? ⟨c,i,none⟩:=by
 by_cases e:i=o
 ·subst e
  obtain⟨u,hu⟩:=Option.isSome_iff_exists.1 h
  rw[World.cell?_setCell_same _ _ _ hu,if_pos rfl]
 ·rw[World.cell?_setCell_other _ _ _ _ (by simp <;> omega),if_neg e]
theorem set8_in (w:World) (c o:Nat) (l:Nat->Int) (k:Nat) (hk:k<8) (h:(w.cell? ⟨c,o+k,none⟩).isSome=true):(set8 w c o l).cell? ⟨c,o+k,none⟩=some (u64 (l k)):=by
 have st:∀(x:World) (q:Nat) (v:Value),(x.cell? ⟨c,o+k,none⟩).isSome=true->((x.setCell ⟨c,q,none⟩ v).cell? ⟨c,o+k,none⟩).isSome=true:=fun x q v hx=>by
  rw[cell?_setCell_is hx];split
  ·rfl
  ·exact hx
 have h1:=st w o (u64 (l 0)) h
 have h2:=st _ (o+1) (u64 (l 1)) h1
 have h3:=st _ (o+2) (u64 (l 2)) h2
 have h4:=st _ (o+3) (u64 (l 3)) h3
 have h5:=st _ (o+4) (u64 (l 4)) h4
 have h6:=st _ (o+5) (u64 (l 5)) h5
 have h7:=st _ (o+6) (u64 (l 6)) h6
 simp only[set8]
 rw[cell?_setCell_is h7,cell?_setCell_is h6,cell?_setCell_is h5,cell?_setCell_is h4,cell?_setCell_is h3,cell?_setCell_is h2,cell?_setCell_is h1,cell?_setCell_is h]
 have:k=0\/k=1\/k=2\/k=3\/k=4\/k=5\/k=6\/k=7:=by omega
 rcases this with rfl | rfl | rfl | rfl | rfl | rfl | rfl | rfl <;> simp
theorem DevL.resend {w w':World} {b:Nat} {L:Lay} {A:Ab} (h:DevL w b L A) (sv:Value) (place:Nat->Nat) (sent:List (Nat×(Nat->Int))) (way:Nat->Option (Nat->Int))
  (hsize:w.heap.size<=w'.heap.size) (cb:∀o,o≠2->w'.cell? ⟨b,o,none⟩=w.cell? ⟨b,o,none⟩) (c2:w'.cell? ⟨b,2,none⟩=some sv) (zb:∀o,w'.frozen? ⟨b,o,none⟩=false)
  (en:w'.heap[L.bn]? = w.heap[L.bn]?) (el:w'.heap[L.bl]? = w.heap[L.bl]?)
  (plc:∀a,a<A.n->w'.cell? ⟨L.bp,a,none⟩=some (.int .i64 (place a))) (zp:∀o,w'.frozen? ⟨L.bp,o,none⟩=false)
  (own:w'.ownsRow 0 236 9 sv sent.length (sentCells sent)) (hs:∀k,sv.ownBlock=some k->k≠b/\k≠L.bn/\k≠L.bl/\k≠L.bp)
  (sentOk:∀p a l,sent[p]? = some (a,l)->a<A.n/\place a=p+1/\way a=some l)
  (wayOk:∀a,a<A.n->(place a=0/\way a=none)\/∃p l,place a=p+1/\sent[p]? = some (a,l)) (few:(sent.length:Int)<=A.steps) :
  DevL w' b { L with sv:=sv,place:=place,sent:=sent } { A with way:=way }:=by
 have cn:∀o,w'.cell? ⟨L.bn,o,none⟩=w.cell? ⟨L.bn,o,none⟩:=fun o=>World.cell?_of_block en
 have cl:∀o,w'.cell? ⟨L.bl,o,none⟩=w.cell? ⟨L.bl,o,none⟩:=fun o=>World.cell?_of_block el
 refine { n8:=h.n8,c0:=?_,c1:=?_,c2:=c2,c3:=?_,c4:=?_,c5:=?_,c6:=?_,zb:=zb,zn:=?_,zl:=?_,zp:=zp,now:=?_,lasts:=?_,plc:=plc,own:=own,bbn:=h.bbn,bbl:=h.bbl,bbp:=h.bbp,bnl:=h.bnl,bnp:=h.bnp,blp:=h.blp,sb:=?_,sn:=?_,sl:=?_,sp:=?_,ltb:=Nat.lt_of_lt_of_le h.ltb hsize,ltn:=Nat.lt_of_lt_of_le h.ltn hsize,ltl:=Nat.lt_of_lt_of_le h.ltl hsize,ltp:=Nat.lt_of_lt_of_le h.ltp hsize,sentOk:=sentOk,wayOk:=wayOk,few:=few }
 ·rw[cb _ (by omega)];exact h.c0
 ·rw[cb _ (by omega)];exact h.c1
 ·rw[cb _ (by omega)];exact h.c3
 ·rw[cb _ (by omega)];exact h.c4
 ·rw[cb _ (by omega)];exact h.c5
 ·rw[cb _ (by omega)];exact h.c6
 ·intro o;rw[World.frozen?_of_block (a:=⟨L.bn,o,none⟩) en];exact h.zn o
 ·intro o;rw[World.frozen?_of_block (a:=⟨L.bl,o,none⟩) el];exact h.zl o
 ·intro j hj;rw[cn];exact h.now j hj
 ·intro j hj;rw[cl];exact h.lasts j hj
 ·intro e;exact(hs _ e).1 rfl
 ·intro e;exact(hs _ e).2.1 rfl
 ·intro e;exact(hs _ e).2.2.1 rfl
 ·intro e;exact(hs _ e).2.2.2 rfl
end
theorem words_any {kn:Nat} (b bn n:Nat) (w:World) (hn:n<=8192) (h0:w.cell? ⟨b,0,none⟩=some (rowc bn n kn)) :
  Calls Tryz.prog 117 #[ptr b] w fun e w'=>e = .returned (.int .i64 (n * 8))/\w'=w:=by
 go_enter Tryz.func117,Tryz.ntmps117
 go_wp2
 go_ret
 exact⟨rfl,rfl⟩
theorem has_yes {kn:Nat} (b bn n:Nat) (i:Int) (w:World) (hn:n<=8192) (h0:w.cell? ⟨b,0,none⟩=some (rowc bn n kn)) (hi0:0<=i) (hi:i<n * 8) :
  Calls Tryz.prog 187 #[ptr b,.int .i64 i] w fun e w'=>e = .returned (.bool true)/\w'=w:=by
 go_enter Tryz.func187,Tryz.ntmps187
 go_wp2
 go_ret
 exact⟨rfl,rfl⟩
theorem mustHave_yes {kn:Nat} (b bn n:Nat) (i:Int) (w:World) (hn:n<=8192) (h0:w.cell? ⟨b,0,none⟩=some (rowc bn n kn)) (hi0:0<=i) (hi:i<n * 8) :
  Calls Tryz.prog 152 #[ptr b,.int .i64 i] w fun e w'=>e = .returned (.tuple #[])/\w'=w:=by
 go_enter Tryz.func152,Tryz.ntmps152
 go_wp2_with (go_at_call 187;refine(has_yes b bn n i _ hn h0 hi0 hi).mono ?_;rintro e w' ⟨rfl,rfl⟩)
 go_end0
 exact⟨rfl,rfl⟩
theorem mustLive_yes (b:Nat) (w:World) (h6:w.cell? ⟨b,6,none⟩=some (.bool false)) :
  Calls Tryz.prog 153 #[ptr b] w fun e w'=>e = .returned (.tuple #[])/\w'=w:=by
 go_enter Tryz.func153,Tryz.ntmps153
 go_wp2
 go_end0
 exact⟨rfl,rfl⟩
theorem mustLive_no (b:Nat) (w:World) (h6:w.cell? ⟨b,6,none⟩=some (.bool true)) :
  Calls Tryz.prog 153 #[ptr b] w fun e w'=>e = .panicked lost/\w'=w:=by
 go_enter Tryz.func153,Tryz.ntmps153
 go_wp2
 exact⟨rfl,rfl,rfl⟩
theorem dead_any (b:Nat) (s:Bool) (w:World) (h4:w.cell? ⟨b,6,none⟩=some (.bool s)) :
  Calls Tryz.prog 127 #[ptr b] w fun e w'=>e = .returned (.bool s)/\w'=w:=by
 go_enter Tryz.func127,Tryz.ntmps127
 go_wp2
 go_ret
 exact⟨rfl,rfl⟩
theorem step_dead (b:Nat) (f:Int) (w:World) (h5:w.cell? ⟨b,5,none⟩=some (.int .i64 f)) (hf:(f == 0)=false) (h6:w.cell? ⟨b,6,none⟩=some (.bool true)) :
  Calls Tryz.prog 194 #[ptr b] w fun e w'=>e = .panicked lost/\w'=w:=by
 go_enter Tryz.func194,Tryz.ntmps194
 go_wp2_with (go_at_call 153;refine(mustLive_no b _ h6).mono ?_;rintro e w' ⟨rfl,rfl⟩)
 exact⟨rfl,rfl,rfl⟩
theorem step_burnt (b:Nat) (d:Bool) (w:World) (h5:w.cell? ⟨b,5,none⟩=some (.int .i64 0)) (h6:w.cell? ⟨b,6,none⟩=some (.bool d)) (hz:w.frozen? ⟨b,6,none⟩=false) :
  Calls Tryz.prog 194 #[ptr b] w fun e w'=>e = .panicked lost/\w'=w.setCell ⟨b,6,none⟩ (.bool true):=by
 go_enter Tryz.func194,Tryz.ntmps194
 go_wp2_with (go_at_call 153;refine(mustLive_no b _ (World.cell?_setCell_same _ _ _ h6)).mono ?_;rintro e w' ⟨rfl,rfl⟩)
 exact⟨rfl,rfl,rfl⟩
theorem step_fuse (b:Nat) (f s:Int) (w:World) (h4:w.cell? ⟨b,4,none⟩=some (.int .i64 s)) (h5:w.cell? ⟨b,5,none⟩=some (.int .i64 f)) (h6:w.cell? ⟨b,6,none⟩=some (.bool false))
  (hz4:w.frozen? ⟨b,4,none⟩=false) (hz5:w.frozen? ⟨b,5,none⟩=false) (hf:0<f) (hf2:f<9223372036854775808) (hs0:0<=s) (hs:s<4294967296) :
  Calls Tryz.prog 194 #[ptr b] w fun e w'=>e = .returned (.tuple #[])/\w'=(w.setCell ⟨b,5,none⟩ (.int .i64 (f - 1))).setCell ⟨b,4,none⟩ (.int .i64 (s+1)):=by
 have hf0:(f == 0)=false:=by simp;omega
 go_enter Tryz.func194,Tryz.ntmps194
 go_wp2_with (go_at_call 153;refine(mustLive_yes b _ h6).mono ?_;rintro e w' ⟨rfl,rfl⟩)
 go_end0
 exact⟨rfl,rfl⟩
theorem step_free (b:Nat) (f s:Int) (w:World) (h4:w.cell? ⟨b,4,none⟩=some (.int .i64 s)) (h5:w.cell? ⟨b,5,none⟩=some (.int .i64 f)) (h6:w.cell? ⟨b,6,none⟩=some (.bool false))
  (hz4:w.frozen? ⟨b,4,none⟩=false) (hf:f<0) (hs0:0<=s) (hs:s<4294967296) :
  Calls Tryz.prog 194 #[ptr b] w fun e w'=>e = .returned (.tuple #[])/\w'=w.setCell ⟨b,4,none⟩ (.int .i64 (s+1)):=by
 have hf0:(f == 0)=false:=by simp;omega
 go_enter Tryz.func194,Tryz.ntmps194
 go_wp2_with (go_at_call 153;refine(mustLive_yes b _ h6).mono ?_;rintro e w' ⟨rfl,rfl⟩)
 go_end0
 exact⟨rfl,rfl⟩
def Ab.tick (A:Ab):Ab:={ A with steps:=A.steps+1,fuse:=if 0<A.fuse then A.fuse - 1 else A.fuse }
structure Live (A:Ab):Prop where
 dead:A.dead=false
 fuse:A.fuse≠0
 big:A.fuse<9223372036854775808
 few:A.steps<4294967296
theorem DevL.steps0 {w:World} {b:Nat} {L:Lay} {A:Ab} (h:DevL w b L A):0<=A.steps:=by have:=h.few;omega
theorem step_ok {w:World} {b:Nat} {L:Lay} {A:Ab} (h:DevL w b L A) (lv:Live A) :
  Calls Tryz.prog 194 #[ptr b] w fun e w'=>e = .returned (.tuple #[])/\DevL w' b L A.tick/\Fr (foot b L) w w':=by
 have h6:=h.c6;rw[lv.dead] at h6
 by_cases hf:0<A.fuse
 ·refine(step_fuse b A.fuse A.steps w h.c4 h.c5 h6 (h.zb 4) (h.zb 5) hf lv.big h.steps0 lv.few).mono ?_
  rintro e w' ⟨rfl,rfl⟩
  refine⟨rfl,?_,?_⟩
  ·have d:=(h.setFuse (A.fuse - 1)).setSteps (A.steps+1) (by show A.steps<=_;omega)
   simp only[Ab.tick,if_pos hf]
   exact d
  ·exact((Fr.refl _ w).setCell (.inl (.inl rfl)) _).setCell (.inl (.inl rfl)) _
 ·have hn:A.fuse<0:=by have:=lv.fuse;omega
  refine(step_free b A.fuse A.steps w h.c4 h.c5 h6 (h.zb 4) hn h.steps0 lv.few).mono ?_
  rintro e w' ⟨rfl,rfl⟩
  refine⟨rfl,?_,?_⟩
  ·have d:=h.setSteps (A.steps+1) (by omega)
   simp only[Ab.tick,if_neg hf]
   exact d
  ·exact(Fr.refl _ w).setCell (.inl (.inl rfl)) _
theorem step_lost {w:World} {b:Nat} {L:Lay} {A:Ab} (h:DevL w b L A) (hd:A.dead=true\/A.fuse=0) :
  Calls Tryz.prog 194 #[ptr b] w fun e w'=>e = .panicked lost/\DevL w' b L { A with dead:=true }/\Fr (foot b L) w w':=by
 by_cases hf:A.fuse=0
 ·have h5:=h.c5;rw[hf] at h5
  refine(step_burnt b A.dead w h5 h.c6 (h.zb 6)).mono ?_
  rintro e w' ⟨rfl,rfl⟩
  exact⟨rfl,h.setDead true,(Fr.refl _ w).setCell (.inl (.inl rfl)) _⟩
 ·have hdd:A.dead=true:=by rcases hd with h | h;exact h;exact absurd h hf
  have h6:=h.c6;rw[hdd] at h6
  refine(step_dead b A.fuse w h.c5 (by simpa using hf) h6).mono ?_
  rintro e w' ⟨rfl,rfl⟩
  refine⟨rfl,?_,Fr.refl _ _⟩
  have e:({ A with dead:=true }:Ab)=A:=by rw[<-hdd]
  rw[e];exact h
theorem load_cells {kn:Nat} (b bn n j:Nat) (v:Int) (w:World) (hn:n<=8192) (h0:w.cell? ⟨b,0,none⟩=some (rowc bn n kn)) (h6:w.cell? ⟨b,6,none⟩=some (.bool false)) (hj:j<n * 8)
  (hc:w.cell? ⟨bn,j / 8 * 8+j % 8,none⟩=some (u64 v)) :
  Calls Tryz.prog 105 #[ptr b,.int .i64 j] w fun e w'=>e = .returned (u64 v)/\w'=w:=by
 go_enter Tryz.func105,Tryz.ntmps105
 go_wp2_with (first | (go_at_call 152;refine(mustHave_yes b bn n j _ hn h0 (by omega) (by omega)).mono ?_;rintro e w' ⟨rfl,rfl⟩) | (go_at_call 153;refine(mustLive_yes b _ h6).mono ?_;rintro e w' ⟨rfl,rfl⟩))
 go_ret
 exact⟨rfl,rfl⟩
theorem load_ok {w:World} {b:Nat} {L:Lay} {A:Ab} (h:DevL w b L A) (hd:A.dead=false) (j:Nat) (hj:j<A.n * 8) :
  Calls Tryz.prog 105 #[ptr b,.int .i64 j] w fun e w'=>e = .returned (u64 (A.now j))/\w'=w:=by
 have h6:=h.c6;rw[hd] at h6
 exact load_cells b L.bn A.n j (A.now j) w h.n8 h.c0 h6 hj (by rw[show j / 8 * 8+j % 8=j from by omega];exact h.now j hj)
def Ab.store (A:Ab) (i:Nat) (v:Int):Ab:={ A with now:=upd A.now i v }
theorem store_ok {w:World} {b:Nat} {L:Lay} {A:Ab} (h:DevL w b L A) (lv:Live A) (j:Nat) (hj:j<A.n * 8) (v:Int) :
  Calls Tryz.prog 166 #[ptr b,.int .i64 j,u64 v] w fun e w'=>e = .returned (.tuple #[])/\DevL w' b L (A.tick.store j v)/\Fr (foot b L) w w':=by
 have H:=mustHave_yes b L.bn A.n j w h.n8 h.c0 (by omega) (by omega)
 have K:=step_ok h lv
 have e8:j / 8 * 8+j % 8=j:=by omega
 have hn:=h.n8
 go_enter Tryz.func166,Tryz.ntmps166
 go_wp2_with (go_at_call 152;refine H.mono ?_;rintro e w' ⟨rfl,rfl⟩)
 refine K.mono ?_
 rintro e w1 ⟨rfl,h1,f1⟩
 have h0:w1.cell? ⟨b,0,none⟩=some (rowc L.bn A.n L.kn):=h1.c0
 have hc:w1.cell? ⟨L.bn,j / 8 * 8+j % 8,none⟩=some (u64 (A.now j)):=by rw[e8];exact h1.now j hj
 have hz:w1.frozen? ⟨L.bn,j / 8 * 8+j % 8,none⟩=false:=h1.zn _
 have HH:=Hd h1;have FF:=Hd f1;have EE:=Hd e8
 clear h1 f1 e8 H K h
 go_wp2
 go_end0
 rw[uh EE]
 exact⟨rfl,(uh HH).setNow j hj v,(uh FF).setCell (.inl (.inr (.inl rfl))) _⟩
theorem store_lost {w:World} {b:Nat} {L:Lay} {A:Ab} (h:DevL w b L A) (hd:A.dead=true\/A.fuse=0) (i v:Int) (hi0:0<=i) (hi:i<A.n * 8) :
  Calls Tryz.prog 166 #[ptr b,.int .i64 i,u64 v] w fun e w'=>e = .panicked lost/\DevL w' b L { A with dead:=true }/\Fr (foot b L) w w':=by
 have H:=mustHave_yes b L.bn A.n i w h.n8 h.c0 hi0 hi
 have K:=step_lost h hd
 clear hi hi0 h hd
 go_enter Tryz.func166,Tryz.ntmps166
 go_wp2_with (go_at_call 152;refine H.mono ?_;rintro e w' ⟨rfl,rfl⟩)
 refine K.mono ?_
 rintro e w1 ⟨rfl,h1,f1⟩
 exact⟨rfl,rfl,h1,f1⟩
def natVals (l:List Nat):List Value:=l.map fun(j:Nat)=>.int .i64 j
theorem info3:(Tryz.prog.info? 3).map (fun i=>(i.zero,i.size,i.bytes))=some (some (.int .i64 0),1,8):=by kernel_rfl
end Go.Proofs.YtbiopjmpdhcjgaaGreatDoor
