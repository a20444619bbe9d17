/- Joined: TxA B9 Pk Ow. -/
import Derived.LoopTactic
import Derived.Laws.EntriesVeiled
import Derived.WalkKit
import Derived.WalkSpells
import Derived.WalkLawsBesides
import Derived.Handy
import Derived.Laws.BitsAllLaws
import Derived.Laws.Bits64
import Derived.Laws.MakeOwn
import Derived.BigQuiet
import Derived.BigRegion
import Derived.StillTail
import Derived.Below
import Derived.OwnWalk
import Derived.Deep.OwnRows
import Derived.Maps.AppendAt
import Derived.Laws.AppendOwnNone
import Derived.Test.YtbiopjmpdhcjgaaGreatDoorZ02
import Derived.Test.YtbiopjmpdhcjgaaGreatDoorZ03
namespace Go.Proofs.YtbiopjmpdhcjgaaGreatDoor
open Go.RowKit
set_option maxHeartbeats 4000000
def wcells (xs:List (Int×Int)):List Value:=xs.flatMap fun x=>[.int .i64 x.1,u64 x.2]
theorem wcells_app (xs ys:List (Int×Int)):wcells (xs ++ ys)=wcells xs ++ wcells ys:=by simp[wcells]
theorem wcells_at (xs:List (Int×Int)):∀k x,xs[k]? = some x->(wcells xs)[k * 2]? = some (.int .i64 x.1)/\(wcells xs)[k * 2+1]? = some (u64 x.2):=by
 induction xs with
 | nil=>intro k x h;simp at h
 | cons y xs ih=>
  intro k x h
  have e:wcells (y :: xs) = .int .i64 y.1 :: u64 y.2 :: wcells xs:=by simp[wcells]
  cases k with
  | zero=>
   obtain rfl:y=x:=by simpa using h
   rw[e];exact⟨rfl,rfl⟩
  | succ k=>
   have:=ih k x (by simpa using h)
   rw[e,show(k+1) * 2=k * 2+1+1 by omega,show k * 2+1+1+1=(k * 2+1)+1+1 by omega]
   simpa using this
theorem owns_wr {w:World} {base g n cap:Nat} {xs:List (Int×Int)} (h:w.ownsRow base 161 2 (.slice (some ⟨g,0,none⟩) n cap) xs.length (wcells xs)):WrAt w g 0 xs:=by
 rcases h.2 with ⟨hn,_⟩ | ⟨g',cap',cur,hv,_,hb,_,_,_,h4⟩
 ·cases hn
 cases hv
 intro k x hx
 obtain⟨c1,c2⟩:=wcells_at xs k x hx
 have hk:k<xs.length:=(List.getElem?_eq_some_iff.1 hx).1
 have get:∀j v,j<xs.length * 2->(wcells xs)[j]? = some v->cur[j]? = some v:=fun j v hj hv=>by
  rw[<-h4,List.getElem?_take_of_lt hj] at hv
  rwa [Array.getElem?_toList] at hv
 rw[Nat.zero_add]
 exact⟨(cell_of_row _ _ _ _ _ _ hb).trans (get _ _ (by omega) c1),(cell_of_row _ _ _ _ _ _ hb).trans (get _ _ (by omega) c2)⟩
theorem pair_news (w:World) (x y:Int) (t:TypeId) (j:Nat) (u:Value) (h:([.int .i64 x,u64 y]:List Value)[j]? = some u):(w.alloc (.cells #[.int .i64 x,u64 y] t)).cell? ((⟨w.heap.size,0,none⟩:Addr).add j)=some u:=by
 have hadd:(⟨w.heap.size,0,none⟩:Addr).add j=⟨w.heap.size,j,none⟩:=by unfold Addr.add;split <;> simp_all
 rw[hadd,cell_of_row _ _ _ _ _ _ (heap_alloc_new w _)]
 simpa using h
theorem On.turn {w0 w w':World} {b:Nat} {L0 L:Lay} {A:Ab} (h:On w0 b L0 w L A) {F:Nat->Prop} (hf:Fr F w w') (h1:∀k,F k->¬foot b L k) (h2:∀k,F k->w0.heap.size<=k):On w0 b L0 w' L A:=
 ⟨h.d.kept hf (fun k hk e=>h1 k e hk),h.fr.trans' hf (fun k e=>.inr (h2 k e)),h.sub⟩
theorem info_wr:(Tryz.prog.info? 161).map (fun i=>(i.zero,i.size,i.bytes))=some (some (.agg #[.int .i64 0,.int .u64 0]),2,16):=by kernel_rfl
structure Box (w:World) (r:Nat) (v:Value):Prop where
 c:w.cell? ⟨r,0,none⟩=some v
 z:w.frozen? ⟨r,0,none⟩=false
 lt:r<w.heap.size
theorem Box.new (w:World) (v:Value) (t:TypeId):Box (w.alloc (.cells #[v] t)) w.heap.size v:=by
 have h:=heap_alloc_new w (.cells #[v] t)
 exact⟨by unfold World.cell?;rw[h];rfl,by unfold World.frozen?;rw[h];rfl,by simp⟩
theorem Box.kept {w w':World} {F:Nat->Prop} {r:Nat} {v:Value} (h:Box w r v) (f:Fr F w w') (n:¬F r):Box w' r v:=
 ⟨f.cell' h.c n,(f.frozen h.lt n).trans h.z,Nat.lt_of_lt_of_le h.lt f.size⟩
theorem Box.alloc {w:World} {r:Nat} {v:Value} (h:Box w r v) (o:Obj):Box (w.alloc o) r v:=h.kept ((Fr.refl (fun _=>False) w).alloc o) id
theorem Box.other {w:World} {r:Nat} {v:Value} (h:Box w r v) {a:Addr} (ha:r≠a.block) (u:Value):Box (w.setCell a u) r v:=
 h.kept ((Fr.refl (fun k=>k=a.block) w).setCell (.inl rfl) u) ha
theorem Box.set {w:World} {r:Nat} {v:Value} (h:Box w r v) (u:Value):Box (w.setCell ⟨r,0,none⟩ u) r u:=
 ⟨World.cell?_setCell_same _ _ _ h.c,by rw[World.frozen?_setCell];exact h.z,by simpa using h.lt⟩
abbrev St (w w':World):Prop:=Fr (fun _=>False) w w'
theorem Fr.obj {F:Nat->Prop} {w w':World} (h:Fr F w w') {k:Nat} {o:Obj} (hv:w.heap[k]? = some o) (hF:¬F k):w'.heap[k]? = some o:=
 (h.block k (by rcases Nat.lt_or_ge k w.heap.size with hk | hk;exact hk;rw[Array.getElem?_eq_none hk] at hv;cases hv) hF).trans hv
theorem cOo {w:World} {k:Nat} {cs:Array Value} {t:Nat} {z:Nat×Nat} (h:w.heap[k]? = some (.cells cs t z)) (i:Nat):w.cell? ⟨k,i,none⟩=cs[i]?:=by
 simp[World.cell?,h]
theorem frozen_of_obj {w:World} {k:Nat} {cs:Array Value} {t:Nat} (h:w.heap[k]? = some (.cells cs t)) (i:Nat):w.frozen? ⟨k,i,none⟩=false:=by
 simp[World.frozen?,h]
structure How where
 o:Option (Nat×Value)
abbrev How.well:How:=⟨none⟩
abbrev How.bad (t:Nat) (x:Value):How:=⟨some (t,x)⟩
abbrev How.errno (i:Int):How:=.bad 28 (.int .i64 i)
abbrev How.lost:How:=.bad 133 (.agg #[])
theorem How.byCases {motive:How->Prop} (h:How) (well:motive .well) (bad:∀t x,motive (.bad t x)):motive h:=by
 obtain⟨o⟩:=h
 rcases o with _ | ⟨t,x⟩
 ·exact well
 ·exact bad t x
def How.v (h:How):Value:=
 match h.o with
 | none=>.nilIface
 | some (t,x)=>.iface t x
def How.is (h:How):Bool:=
 match h.o with
 | none=>false
 | some _=>true
def How.ended (h:How) (e:Ending):Prop:=
 match h.o with
 | none=>e = .returned (.tuple #[])
 | some (t,x)=>∃older,(∀y∈older,y.goexit=false)/\e = .panicked ({ v:=.iface t x,recovered:=false } :: older)
theorem How.ended_one (t:Nat) (x:Value):(How.bad t x).ended (.panicked [{ v:=.iface t x,recovered:=false }]):=⟨[],by simp,rfl⟩
def Acts (f:Value) (w:World) (R:How->World->Prop):Prop:=
 (f = .nilFunc/\R .well w)\/∃g first cap,f = .func (.func g) first cap/\Enters g/\Calls Tryz.prog g (first ++ cap) w fun e w'=>∃h,h.ended e/\R h w'
theorem Acts.mono {f:Value} {w:World} {R R':How->World->Prop} (h:Acts f w R) (hr:∀h w',R h w'->R' h w'):Acts f w R':=by
 rcases h with ⟨rfl,h⟩ | ⟨g,first,cap,rfl,he,h⟩
 ·exact .inl ⟨rfl,hr _ _ h⟩
 ·exact .inr ⟨g,first,cap,rfl,he,h.mono fun e w' ⟨x,h1,h2⟩=>⟨x,h1,hr _ _ h2⟩⟩
theorem acts_of {g:Nat} {first cap:Array Value} {w:World} {R:How->World->Prop} (he:Enters g) (h:Calls Tryz.prog g (first ++ cap) w fun e w'=>∃h,h.ended e/\R h w'):Acts (.func (.func g) first cap) w R:=
 .inr ⟨g,first,cap,rfl,he,h⟩
theorem settle_bad {t:Nat} {x:Value} {older:List PanicEntry} (h:∀y∈older,y.goexit=false):settle (.panicking ({ v:=.iface t x,recovered:=true } :: older)) = .returning:=by
 have e:older.dropWhile (fun y=>!y.goexit) = []:=by
  induction older with
  | nil=>rfl
  | cons a l ih=>rw[List.dropWhile_cons_of_pos (by simp[h a (by simp)])];exact ih fun y hy=>h y (by simp[hy])
 simp[settle,e]
theorem mf (fn:Fn) (first cap:Array Value) (w:World):(Instr.makeFunc fn first cap).run Tryz.prog w = .ok (.func fn first cap) w:=rfl
theorem nn_some (fn:Fn) (first cap:Array Value) (w:World):(binOp .neq 1 (.func fn first cap) .nilFunc).run Tryz.prog w = .ok (.bool true) w:=by kernel_rfl
theorem nn_nil (w:World):(binOp .neq 1 .nilFunc .nilFunc).run Tryz.prog w = .ok (.bool false) w:=by kernel_rfl
theorem call_nil (w:World):Calls Tryz.prog 126 #[.nilFunc] w fun e w'=>e = .returned (.tuple #[])/\w'=w:=by
 have h1:=nn_nil
 go_enter Tryz.func126,Tryz.ntmps126
 go_wp2
 go_end0
 exact⟨rfl,rfl⟩
theorem call_some {g:Nat} (hg:Enters g) {first cap:Array Value} {w:World} {R:How->World->Prop} (hf:Calls Tryz.prog g (first ++ cap) w fun e w'=>∃h,h.ended e/\R h w') :
  Calls Tryz.prog 126 #[.func (.func g) first cap] w fun e w'=>∃h,h.ended e/\R h w':=by
 have HF:=Hd hf;clear hf
 have h1:=nn_some
 unfold Enters at hg
 go_enter Tryz.func126,Tryz.ntmps126
 go_wp2_with fail
 refine(uh HF).mono ?_
 rintro e w1 ⟨h,he,hR⟩
 have HR:=Hd hR;clear hR HF
 cases h using How.byCases with
 | well=>
  cases he
  go_wp2
  go_end0
  exact⟨.well,rfl,uh HR⟩
 | bad t x=>
  obtain⟨older,ho,rfl⟩:=he
  exact⟨rfl,.bad t x,⟨older,ho,rfl⟩,uh HR⟩
theorem call_acts {f:Value} {w:World} {R:How->World->Prop} (h:Acts f w R):Calls Tryz.prog 126 #[f] w fun e w'=>∃h,h.ended e/\R h w':=by
 rcases h with ⟨rfl,h⟩ | ⟨g,first,cap,rfl,he,h⟩
 ·exact(call_nil w).mono fun e w' ⟨h1,h2⟩=>⟨.well,h1,h2▸h⟩
 ·exact call_some he h
theorem try1_idle (p:Addr) (v:Value) (w:World) (hc:w.cell? p=some v) (hz:w.frozen? p=false) :
  CallsD Tryz.prog 125 #[.pointer (some p)] .returning w fun e u' w'=>e = .returned (.tuple #[])/\u' = .returning/\w'=w.setCell p .nilIface:=by
 refine callsD_of_wpS Tryz.func125 rfl fun c₀ cs hu=>?_
 apply wpS_region
 simp[wpOpsS,go_sem,recoverD,hu,Tryz.ntmps125,hc,hz,Oper.upon]
 cases c₀
 simp_all [bodyPostS,results,Tryz.results125]
theorem try1_bad (p:Addr) (v:Value) (t:Nat) (x:Value) (older:List PanicEntry) (w:World) (hc:w.cell? p=some v) (hz:w.frozen? p=false) :
  CallsD Tryz.prog 125 #[.pointer (some p)] (.panicking ({ v:=.iface t x,recovered:=false } :: older)) w fun e u' w'=>
   e = .returned (.tuple #[])/\u' = .panicking ({ v:=.iface t x,recovered:=true } :: older)/\w'=w.setCell p (.iface t x):=by
 refine callsD_of_wpS Tryz.func125 rfl fun c₀ cs hu=>?_
 apply wpS_region
 simp[wpOpsS,go_sem,recoverD,hu,Tryz.ntmps125,hc,hz,Oper.upon]
 cases c₀
 simp_all [bodyPostS,results,Tryz.results125]
abbrev box:Obj:=.cells #[.nilIface] 20
theorem try_raw {f:Value} {w:World} {R:How->World->Prop}
  (hf:Acts f (w.alloc box) fun h w1=>w1.heap[w.heap.size]? = some box/\∀w2,Fr (fun k=>k=w.heap.size) w1 w2->R h w2) :
  Calls Tryz.prog 80 #[f] w fun e w'=>∃h,e = .returned (.tuple #[h.v,.bool h.is])/\R h w':=by
 have K:=call_acts hf
 clear hf
 have h1:=mf
 have HK:=Hd K;clear K
 go_enter_defers Tryz.func80,Tryz.ntmps80
 go_wp2_with fail
 refine(uh HK).mono ?_
 rintro e w1 ⟨h,he,hb,hR⟩
 have HR:=Hd hR;clear hR HK
 have hc:=cOo hb 0
 have hz:=frozen_of_obj hb 0
 cases h using How.byCases with
 | well=>
  cases he
  go_wp2
  have hc1:=World.cell?_setCell_same w1 ⟨w.heap.size,0,none⟩ .nilIface hc
  refine leaves_cons (f:=125) (args:=#[ptr w.heap.size]) (by simp) (by simp[go_sem]) ?_
  refine(try1_idle ⟨w.heap.size,0,none⟩ _ _ hc1 (by simpa using hz)).mono ?_
  rintro e u' w' ⟨rfl,rfl,rfl⟩
  have hc2:=World.cell?_setCell_same _ ⟨w.heap.size,0,none⟩ .nilIface hc1
  refine⟨.tuple #[.nilIface,.bool false],?_,.well,rfl,?_⟩
  ·simp[results,Tryz.results80,go_sem,hc2]
  ·exact uh HR _ (((Fr.refl (fun k=>k=w.heap.size) w1).setCell (.inl rfl) _).setCell (.inl rfl) _)
 | bad t x=>
  obtain⟨older,ho,rfl⟩:=he
  go_wp2
  refine leaves_cons (f:=125) (args:=#[ptr w.heap.size]) (by simp) (by simp[go_sem]) ?_
  refine(try1_bad ⟨w.heap.size,0,none⟩ _ t x older _ hc hz).mono ?_
  rintro e u' w' ⟨rfl,rfl,rfl⟩
  have hc2:=World.cell?_setCell_same _ ⟨w.heap.size,0,none⟩ (.iface t x) hc
  simp only[settle_bad ho]
  refine⟨.tuple #[.iface t x,.bool true],?_,.bad t x,rfl,?_⟩
  ·simp[results,Tryz.results80,go_sem,hc2]
  ·exact uh HR _ ((Fr.refl (fun k=>k=w.heap.size) w1).setCell (.inl rfl) _)
theorem try_fr {f:Value} {w:World} {F:Nat->Prop} {S:How->World->Prop} (hF:∀k,F k->k<w.heap.size)
  (hf:Acts f (w.alloc box) fun h w1=>Fr F (w.alloc box) w1/\∀w2,Fr (fun k=>k=w.heap.size) w1 w2->S h w2) :
  Calls Tryz.prog 80 #[f] w fun e w'=>∃h,e = .returned (.tuple #[h.v,.bool h.is])/\S h w':=by
 refine try_raw (hf.mono fun h w1 ⟨fr,hS⟩=>⟨?_,fun w2 f2=>hS w2 f2⟩)
 exact fr.obj (heap_alloc_new w box) fun h=>Nat.lt_irrefl _ (hF _ h)
theorem taL_lost (w:World):(Instr.typeAssert (.iface 133 (.agg #[])) 20 133 true).run Tryz.prog w = .ok (.tuple #[.agg #[],.bool true]) w:=by kernel_rfl
theorem onlyL_raw {f:Value} {w:World} {R:How->World->Prop} (K:∀w0,St w w0->Calls Tryz.prog 80 #[f] w0 fun e w'=>∃h,e = .returned (.tuple #[h.v,.bool h.is])/\R h w') (hk:∀h w',R h w'->h = .well\/h = .lost) :
  Calls Tryz.prog 82 #[f] w fun e w'=>∃w1,St w1 w'/\((e = .returned (.tuple #[.agg #[],.bool false])/\R .well w1)\/(e = .returned (.tuple #[.agg #[],.bool true])/\R .lost w1)):=by
 have HK:=Hd (K _ ((Fr.refl _ w).alloc (.cells #[] 133)));clear K
 have a1:=taL_lost
 go_enter Tryz.func82,Tryz.ntmps82
 go_wp2_with fail
 refine(uh HK).mono ?_
 rintro e w1 ⟨h,rfl,hR⟩
 have hK:=hk _ _ hR
 have HR:=Hd hR;clear hR HK hk
 rcases hK with rfl | rfl
 ·simp only[How.v,How.is]
  go_wp2
  refine bodyPost_ret (v:=.tuple #[.agg #[],.bool false]) (by simp[results,Tryz.results82,go_sem,loadVar]) rfl ?_
  exact⟨w1,Fr.refl _ _,.inl ⟨rfl,uh HR⟩⟩
 ·simp only[How.v,How.is]
  go_wp2
  refine bodyPost_ret (v:=.tuple #[.agg #[],.bool true]) (by simp[results,Tryz.results82,go_sem,loadVar]) rfl ?_
  exact⟨w1,(Fr.refl _ w1).alloc _,.inr ⟨rfl,uh HR⟩⟩
theorem onlyL_two {f:Value} {w:World} {R0 R1:World->Prop} (K:∀w0,St w w0->Calls Tryz.prog 80 #[f] w0 fun e w'=>∃h:How,e = .returned (.tuple #[h.v,.bool h.is])/\((h = .well/\R0 w')\/(h = .lost/\R1 w'))) :
  Calls Tryz.prog 82 #[f] w fun e w'=>∃w1,St w1 w'/\((e = .returned (.tuple #[.agg #[],.bool false])/\R0 w1)\/(e = .returned (.tuple #[.agg #[],.bool true])/\R1 w1)):=by
 refine(onlyL_raw K (fun h w' x=>x.imp (fun y=>y.1) (fun y=>y.1))).mono ?_
 rintro e w' ⟨w1,f1,⟨rfl,x⟩ | ⟨rfl,x⟩⟩
 ·refine⟨w1,f1,.inl ⟨rfl,?_⟩⟩
  rcases x with ⟨_,x⟩ | ⟨e,_⟩
  ·exact x
  ·injection e with e;cases e
 ·refine⟨w1,f1,.inr ⟨rfl,?_⟩⟩
  rcases x with ⟨e,_⟩ | ⟨_,x⟩
  ·injection e with e;cases e
  ·exact x
theorem each_two {lb:Nat} {f g:Value} {w:World} {I1 I2:World->Prop} {S:How->World->Prop}
  (c0:w.cell? ⟨lb,0,none⟩=some f) (hf:Calls Tryz.prog 80 #[f] w fun e w'=>∃h:How,e = .returned (.tuple #[h.v,.bool h.is])/\((h = .well/\w'.cell? ⟨lb,1,none⟩=some g/\I1 w')\/(h.is=true/\S h w')))
  (hg:∀w1,I1 w1->Calls Tryz.prog 80 #[g] w1 fun e w'=>∃h:How,e = .returned (.tuple #[h.v,.bool h.is])/\((h = .well/\I2 w')\/(h.is=true/\S h w'))) :
  Calls Tryz.prog 40 #[.slice (some ⟨lb,0,none⟩) 2 2] w fun e w'=>∃k:Int,(e = .returned (.tuple #[.int .i64 k,.nilIface])/\I2 w')\/∃h:How,e = .returned (.tuple #[.int .i64 k,h.v])/\S h w':=by
 have HF:=Hd hf;have HG:=@Hd _ hg;have HC:=Hd c0
 clear hf hg c0
 go_enter Tryz.func40,Tryz.ntmps40
 go_wp2
 go_loopw [2,10] (fun d i wr=>(d = .int .i64 0/\i = .int .i64 0/\wr=w)\/(d = .int .i64 1/\i = .int .i64 1/\wr.cell? ⟨lb,1,none⟩=some g/\I1 wr)\/(d = .int .i64 2/\i = .int .i64 2/\I2 wr)) (fun d i wr=>2 - (intOf i).toNat)
 case atStart=>exact .inl ⟨rfl,rfl,rfl⟩
 case round=>
  rcases hrel with ⟨rfl,rfl,hw⟩ | ⟨rfl,rfl,c,hI⟩ | ⟨rfl,rfl,hI⟩
  ·subst hw
   have c:=uh HC
   clear HC
   go_wp2_with fail
   refine(uh HF).mono ?_
   clear HF
   rintro e w1 ⟨h,rfl,hh | hh⟩
   ·obtain⟨rfl,c1,hI⟩:=hh
    simp only[How.v,How.is]
    have HI:=Hd (ai c1 hI)
    clear hI c c1
    go_wp2
    go_roundw
    case rel=>exact .inr (.inl ⟨rfl,rfl,uh HI⟩)
    case measure=>simp[intOf]
   ·obtain⟨hi,hs⟩:=hh
    rw[hi]
    generalize hv:h.v=v
    have HV:=Hd hv;have HS:=Hd hs
    clear hs hv c hi
    go_wp2
    go_ret2
    exact⟨_,.inr ⟨h,by rw[uh HV];rfl,uh HS⟩⟩
  ·have K:=Hd (uh HG wr hI)
   clear hI HF HG HC
   go_wp2_with fail
   refine(uh K).mono ?_
   clear K
   rintro e w1 ⟨h,rfl,hh | hh⟩
   ·obtain⟨rfl,hI⟩:=hh
    simp only[How.v,How.is]
    have HI:=Hd hI
    clear hI c
    go_wp2
    go_roundw
    case rel=>exact .inr (.inr ⟨rfl,rfl,uh HI⟩)
    case measure=>simp[intOf]
   ·obtain⟨hi,hs⟩:=hh
    rw[hi]
    generalize hv:h.v=v
    have HV:=Hd hv;have HS:=Hd hs
    clear hs hv c hi
    go_wp2
    go_ret2
    exact⟨_,.inr ⟨h,by rw[uh HV];rfl,uh HS⟩⟩
  ·have HI:=Hd hI
   clear hI HF HG HC
   go_wp2
   go_ret2
   exact⟨_,.inl ⟨rfl,uh HI⟩⟩
def Nats (k:IntKind) (w:World) (a:Option Addr) (len:Nat) (b:Nat->Nat):Prop:=∀i,i<len->∃xb xo,a=some ⟨xb,xo,none⟩/\w.cell? ⟨xb,xo+i,none⟩=some (.int k (b i:Nat))
theorem Nats.on {k:IntKind} {w w':World} {a:Option Addr} {len:Nat} {b:Nat->Nat} (h:Nats k w a len b) (bl:Below w.heap.size w w'):Nats k w' a len b:=by
 intro i hi
 obtain⟨xb,xo,e,c⟩:=h i hi
 exact⟨xb,xo,e,(bl.cell (World.block_lt_of_cell? w _ c)).trans c⟩
theorem Nats.to {k:IntKind} {w:World} {a:Option Addr} {len n:Nat} {b:Nat->Nat} (h:Nats k w a len b) (hn:n<=len):Nats k w a n b:=fun i hi=>h i (by omega)
theorem Below.drewN' {B:Nat} {a w:World} (h:Below B a w) (n:Nat):Below B a (w.drewN n):=⟨h.os,h.tape,h.output,h.size,h.block⟩
theorem Below.up {B:Nat} {a b c:World} (h:Below a.heap.size a b) (k:Below B b c) (hB:a.heap.size<=B):Below a.heap.size a c:=h.trans (k.mono hB)
structure Mem (k:IntKind) (w:World) (g n:Nat) (f:Nat->Nat) (wr:World):Prop where
 cell:∀i,i<n->wr.cell? ⟨g,i,none⟩=some (.int k (f i:Nat))
 fz:∀i,wr.frozen? ⟨g,i,none⟩=false
 bel:Below w.heap.size w wr
 ge:w.heap.size<=g
theorem Mem.nats {k:IntKind} {w wr:World} {g n:Nat} {f:Nat->Nat} (h:Mem k w g n f wr):Nats k wr (some ⟨g,0,none⟩) n f:=fun i hi=>⟨g,0,rfl,by rw[Nat.zero_add];exact h.cell i hi⟩
theorem Mem.drewN {k:IntKind} {w wr:World} {g n:Nat} {f:Nat->Nat} (h:Mem k w g n f wr) (q:Nat):Mem k w g n f (wr.drewN q):=⟨h.cell,h.fz,⟨h.bel.os,h.bel.tape,h.bel.output,h.bel.size,h.bel.block⟩,h.ge⟩
theorem Mem.set {k:IntKind} {w wr:World} {g n:Nat} {f:Nat->Nat} (h:Mem k w g n f wr) (i v:Nat) (hi:i<n):Mem k w g n (fun j=>if j=i then v else f j) (wr.setCell ⟨g,i,none⟩ (.int k (v:Nat))):=by
 refine⟨fun j hj=>?_,fun j=>by rw[World.frozen?_setCell];exact h.fz j,h.bel.setCell h.ge _,h.ge⟩
 by_cases e:j=i
 ·subst e;rw[World.cell?_setCell_same _ _ _ (h.cell j hj)];simp
 ·rw[World.cell?_setCell_other _ _ _ _ (fun x=>e (by injection x with _ x;exact x.symm)),h.cell j hj];simp[e]
theorem Mem.ext {k:IntKind} {w wr:World} {g n:Nat} {f f':Nat->Nat} (h:Mem k w g n f wr) (e:∀i,i<n->f i=f' i):Mem k w g n f' wr:=⟨fun i hi=>by rw[h.cell i hi,e i hi],h.fz,h.bel,h.ge⟩
theorem Mem.since {k:IntKind} {w0 w wr:World} {g n:Nat} {f:Nat->Nat} (h:Mem k w g n f wr) (b:Below w0.heap.size w0 w):Mem k w0 g n f wr:=⟨h.cell,h.fz,b.trans (h.bel.mono b.size),Nat.le_trans b.size h.ge⟩
def wordN (b:Nat->Nat):Nat->Nat->Nat
 | 0,_=>0
 | i+1,j=>if i / 8=j then wordN b i j ||| b i * 2 ^ (8 * (i % 8)) else wordN b i j
theorem word_succ (b:Nat->Nat) (i j:Nat):wordN b (i+1) j=if i / 8=j then wordN b i j ||| b i * 2 ^ (8 * (i % 8)) else wordN b i j:=rfl
theorem word_bit (b:Nat->Nat) (n j m:Nat) (hb:∀i,i<n->b i<256):(wordN b n j).testBit m=(decide (m<64/\8 * j+m / 8<n) && (b (8 * j+m / 8)).testBit (m % 8)):=by
 induction n with
 | zero=>simp[wordN]
 | succ i ih=>
  have ih:=ih fun k hk=>hb k (by omega)
  unfold wordN
  by_cases hj:i / 8=j
  ·rw[if_pos hj,Nat.testBit_or,ih,Nat.testBit_mul_two_pow]
   by_cases hm:m<64/\8 * j+m / 8=i
   ·have e1:m - 8 * (i % 8)=m % 8:=by omega
    have e2:8 * (i % 8)<=m:=by omega
    have e3:¬(m<64/\8 * j+m / 8<i):=by omega
    have e4:m<64/\8 * j+m / 8<i+1:=by omega
    rw[decide_eq_false e3,decide_eq_true e4,decide_eq_true e2,e1,hm.2];simp
   ·have h0:(decide (8 * (i % 8)<=m) && (b i).testBit (m - 8 * (i % 8)))=false:=by
     by_cases e2:8 * (i % 8)<=m
     ·have:8<=m - 8 * (i % 8):=by omega
      rw[Nat.testBit_lt_two_pow (Nat.lt_of_lt_of_le (hb i (by omega)) (Nat.pow_le_pow_right (n:=2) (by decide) this))];simp
     ·simp[e2]
    rw[h0,Bool.or_false]
    have e3:(m<64/\8 * j+m / 8<i) ↔ (m<64/\8 * j+m / 8<i+1):=by omega
    rw[decide_eq_decide.2 e3]
  ·rw[if_neg hj,ih]
   have e3:(m<64/\8 * j+m / 8<i) ↔ (m<64/\8 * j+m / 8<i+1):=by omega
   rw[decide_eq_decide.2 e3]
theorem word_lt (b:Nat->Nat) (n j:Nat) (hb:∀i,i<n->b i<256):wordN b n j<18446744073709551616:=
 Nat.lt_pow_two_of_testBit (n:=64) _ fun i hi=>by rw[word_bit b n j i hb,decide_eq_false (by omega)];rfl
def need (n:Nat):Nat:=1+(n+7) / 8
def packF (b:Nat->Nat) (n j:Nat):Nat:=if j=0 then n else wordN b n (j - 1)
def packI (b:Nat->Nat) (n i j:Nat):Nat:=if j=0 then n else wordN b i (j - 1)
theorem shift_ok (i:Nat) (hi:i<1000000) (w:World):Calls Tryz.prog 200 #[.int .i64 i] w fun e w'=>e = .returned (.int .i64 ((8 * (i % 8):Nat):Int))/\w'=w:=by
 go_enter Tryz.func200,Tryz.ntmps200
 go_wp2
 go_ret
 refine⟨?_,rfl⟩
 show Ending.returned (.int .i64 (8 * ((i:Int) % 8)))=_
 rw[show(8 * ((i:Int) % 8))=((8 * (i % 8):Nat):Int) by omega]
theorem wneed_ok (n:Nat) (hn:n<1000000) (w:World):Calls Tryz.prog 151 #[.int .i64 n] w fun e w'=>e = .returned (.int .i64 (need n:Nat))/\w'=w:=by
 by_cases h:n=0
 ·subst h
  go_enter Tryz.func151,Tryz.ntmps151
  go_wp2
  go_ret
  exact⟨rfl,rfl⟩
 ·have h':¬(n:Int)<1:=by omega
  go_enter Tryz.func151,Tryz.ntmps151
  go_wp2
  go_ret
  refine⟨?_,rfl⟩
  show Ending.returned (.int .i64 (2+((n:Int) - 1) / 8))=_
  rw[show(2+((n:Int) - 1) / 8)=(need n:Nat) by unfold need;omega]
theorem infoU:(Tryz.prog.info? 27).map (fun i=>(i.zero,i.size,i.bytes))=some (some (.int .u64 0),1,8):=by kernel_rfl
theorem infoB:(Tryz.prog.info? 5).map (fun i=>(i.zero,i.size,i.bytes))=some (some (.int .u8 0),1,1):=by kernel_rfl
theorem make_mem (k:IntKind) (w:World) (n:Nat) (t:TypeId):Mem k w w.heap.size n (fun _=>0) (w.alloc (.cells (madeCells #[.int k 0] n) t)):=by
 have h:=World.rowIs_made w (.int k 0) n t
 exact⟨fun i hi=>h.cell hi,h.frozen,(Below.refl _ w).alloc (Nat.le_refl _) _,Nat.le_refl _⟩
theorem make_u64s (n:Nat) (hn:n<=1000000) (w:World):∃w',(Instr.makeSlice 141 (.int .i64 (n:Int)) (.int .i64 (n:Int))).run Tryz.prog w = .ok (.slice (some ⟨w.heap.size,0,none⟩) n n) w'/\Mem .u64 w w.heap.size n (fun _=>0) w':=
 ⟨_,run_make_row' 141 27 (.int .u64 0) 8 Tryz.underlying141 infoU rfl .i64 .i64 n (by omega) (by omega) w,make_mem _ _ _ _⟩
theorem make_bytes (n:Nat) (hn:n<=1000000) (w:World):∃w',(Instr.makeSlice 89 (.int .i64 (n:Int)) (.int .i64 (n:Int))).run Tryz.prog w = .ok (.slice (some ⟨w.heap.size,0,none⟩) n n) w'/\Mem .u8 w w.heap.size n (fun _=>0) w':=
 ⟨_,run_make_row' 89 5 (.int .u8 0) 1 Tryz.underlying89 infoB rfl .i64 .i64 n (by omega) (by omega) w,make_mem _ _ _ _⟩
theorem shl_nat (y s:Nat) (hy:y<256) (hs:s<=56):y * 2 ^ s<18446744073709551616:=by
 have h:2 ^ s<=2 ^ 56:=Nat.pow_le_pow_right (by decide) hs
 have:=Nat.mul_le_mul (show y<=255 by omega) h
 omega
theorem shl_wrap (y s:Nat) (hy:y<256) (hs:s<=56):IntKind.u64.wrap ((y:Int) * 2 ^ s)=((y * 2 ^ s:Nat):Int):=by
 have h:=shl_nat y s hy hs
 have e:(y:Int) * 2 ^ s=((y * 2 ^ s:Nat):Int):=by rw[Int.natCast_mul,Int.natCast_pow];rfl
 rw[e,IntKind.wrap_u64]
 omega
theorem or_shl (q y s:Nat) (hq:q<18446744073709551616) (hy:y<256) (hs:s<=56):bits .or .u64 (q:Int) (IntKind.u64.wrap ((y:Int) * 2 ^ s))=((q ||| y * 2 ^ s:Nat):Int):=by
 rw[shl_wrap y s hy hs,u64_or_nat _ _ hq (shl_nat y s hy hs)]
set_option maxRecDepth 100000 in
theorem pack_ok (a:Option Addr) (len cap:Nat) (b:Nat->Nat) (w:World) (hN:Nats .u8 w a len b) (hb:∀i,i<len->b i<256) (hl:len<=100000) :
  Calls Tryz.prog 177 #[.slice a len cap] w fun e w'=>e = .returned (.slice (some ⟨w.heap.size,0,none⟩) (need len) (need len))/\Mem .u64 w w.heap.size (need len) (packF b len) w':=by
 have HN:=Hd hN
 have HB:=Hd hb
 have KS:=Hd shift_ok
 have KN:=Hd (wneed_ok len (by omega) w)
 obtain⟨w1,hm,hM⟩:=make_u64s (need len) (by unfold need;omega) w
 have HM:=Hd hM
 have c0:=hM.cell 0 (by unfold need;omega)
 have z0:=hM.fz 0
 have h0:0<need len:=by unfold need;omega
 have HNE:=Hd (show need len=1+(len+7) / 8 from rfl)
 have HF:=Hd (show ∀j,packI b len 0 j=if j=0 then len else 0 from fun j=>rfl)
 clear hN hb hM
 generalize need len=m at *
 go_enter Tryz.func177,Tryz.ntmps177
 go_wp2_with fail
 refine(uh KN).mono ?_
 rintro e w' ⟨rfl,h⟩;rw[h];clear h w'
 go_wp2_with fail
 go_loopw [17] (fun vi wr=>∃k:Nat,vi = .int .i64 k/\Hid (k<=len/\Mem .u64 w w.heap.size m (packI b len k) wr)) (fun vi wr=>len - (RowKit.intOf vi).toNat)
 case atStart=>exact⟨0,rfl,Hd ⟨Nat.zero_le _,((uh HM).set 0 len h0).ext fun i _=>(uh HF i).symm⟩⟩
 case round=>
  obtain⟨k,rfl,HI⟩:=hrel
  obtain⟨hk,hM⟩:=uh HI
  by_cases hlt:k<len
  ·have hlt':(k:Int)<len:=by omega
   obtain⟨xb,xo,rfl,c⟩:=(uh HN).on hM.bel k hlt
   have hby:=uh HB k hlt
   have hp:1+k / 8<m:=by have:=uh HNE;omega
   have c1:=hM.cell (1+k / 8) hp
   have z1:=hM.fz (1+k / 8)
   have KS1:=Hd (uh KS k (by omega))
   clear HI
   have HM1:=Hd hM
   clear hM
   have hq:packI b len k (1+k / 8)<18446744073709551616:=by
    unfold packI
    rw[if_neg (by omega)]
    exact word_lt _ _ _ fun i hi=>uh HB i (by omega)
   have HV:=Hd (show packI b len k (1+k / 8)=wordN b k (k / 8) by unfold packI;rw[if_neg (by omega)];simp)
   generalize hpq:packI b len k (1+k / 8)=q at *
   clear hpq
   generalize hbk:b k=y at *
   have HBK:=Hd hbk
   clear hbk
   go_wp2_with fail
   refine region_tailP 13 (by kernel_rfl) (by kernel_rfl) ?_
   simp only[List.take,List.drop]
   repeat (go_big_quiet_step (first | (go_at_call 200;exact Calls.quiet_of_same (uh KS1 _))))
   refine wpQuiet_nil ?_
   rintro _ ⟨nq,rfl⟩
   rw[or_shl q y (8 * (k % 8)) hq hby (by omega)]
   have HNX:=Hd (show ∀i,(if i=1+k / 8 then (q ||| y * 2 ^ (8 * (k % 8))) else packI b len k i)=packI b len (k+1) i by
    intro i
    have e1:=uh HV;have e2:=uh HBK
    unfold packI
    by_cases hi:i=0
    ·subst hi;rw[if_neg (by omega)];simp
    ·rw[if_neg hi,if_neg hi,word_succ]
     by_cases h2:i=1+k / 8
     ·rw[if_pos h2,if_pos (by omega),h2,e1,e2];simp
     ·rw[if_neg h2,if_neg (by omega)])
   have HM2:=Hd (((uh HM1).drewN nq).set (1+k / 8) (q ||| y * 2 ^ (8 * (k % 8))) hp)
   generalize (q ||| y * 2 ^ (8 * (k % 8)))=v at *
   generalize hwd:wr.drewN nq=wd at *
   have c2:wd.cell? ⟨w.heap.size,1+k / 8,none⟩=some (.int .u64 q):=by rw[<-hwd];exact c1
   have z2:wd.frozen? ⟨w.heap.size,1+k / 8,none⟩=false:=by rw[<-hwd];exact z1
   clear c1 z1 c hwd hm
   go_wp2
   go_roundw
   case rel=>exact⟨k+1,by go_num,Hd ⟨by omega,(uh HM2).ext fun i _=>uh HNX i⟩⟩
   case measure=>simp[RowKit.intOf];omega
  ·have hlt':¬(k:Int)<len:=by omega
   obtain rfl:k=len:=by omega
   clear HI
   have HM1:=Hd hM
   clear hM
   go_wp2
   go_ret
   exact⟨rfl,uh HM1⟩
abbrev vals (k:IntKind) (l:List Nat):List Value:=l.map fun n=>Value.int k (n:Nat)
def OwnL (k:IntKind) (t:TypeId) (w:World) (base:Nat) (v:Value) (l:List Nat):Prop:=w.ownsRow base t 1 v l.length (vals k l)
def rowL (f:Nat->Nat) (n:Nat):List Nat:=(List.range n).map f
theorem rowL_len (f:Nat->Nat) (n:Nat):(rowL f n).length=n:=by simp[rowL]
theorem rowL_get (f:Nat->Nat) (n i:Nat) (h:i<n):(rowL f n).getD i 0=f i:=by simp[rowL,h]
theorem OwnL.nil (k:IntKind) (t:TypeId) (w:World) (base:Nat):OwnL k t w base (.slice none 0 0) []:=World.ownsRow_nil _ _ _ _
theorem OwnL.empty (k:IntKind) (t:TypeId) (w:World):OwnL k t (w.alloc (.cells #[] t)) w.heap.size (.slice (some ⟨w.heap.size,0,none⟩) 0 0) []:=
 ⟨rfl,.inr ⟨w.heap.size,0,#[],rfl,Nat.le_refl _,heap_alloc_new w _,Nat.le_refl _,by unfold maxLen;omega,rfl,rfl⟩⟩
theorem OwnL.one (k:IntKind) (t:TypeId) (w:World) (x:Nat):OwnL k t (w.alloc (.cells #[.int k (x:Nat)] t)) w.heap.size (.slice (some ⟨w.heap.size,0,none⟩) 1 1) [x]:=
 ⟨rfl,.inr ⟨w.heap.size,1,#[.int k (x:Nat)],rfl,Nat.le_refl _,heap_alloc_new w _,Nat.le_refl _,by unfold maxLen;omega,rfl,rfl⟩⟩
theorem OwnL.below {k:IntKind} {t:TypeId} {w w':World} {base base':Nat} {v:Value} {l:List Nat} (h:OwnL k t w base v l) (b:Below base' w w') (hb:w.heap.size<=base'):OwnL k t w' base v l:=by
 refine⟨h.1,?_⟩
 rcases h.2 with hn | ⟨g,cap,cur,hv,hg,hgg,rest⟩
 ·exact .inl hn
 ·exact .inr ⟨g,cap,cur,hv,hg,(b.block g (Nat.lt_of_lt_of_le (Array.getElem?_eq_some_iff.1 hgg).1 hb)).trans hgg,rest⟩
theorem OwnL.form {k:IntKind} {t:TypeId} {w:World} {base:Nat} {v:Value} {l:List Nat} (h:OwnL k t w base v l):(v = .slice none 0 0/\l = [])\/
  ∃g cap,v = .slice (some ⟨g,0,none⟩) l.length cap/\l.length<=cap/\base<=g/\g<w.heap.size/\(∀i,i<l.length->w.cell? ⟨g,i,none⟩=some (.int k (l.getD i 0:Nat)))/\∀i,w.frozen? ⟨g,i,none⟩=false:=by
 rcases h.2 with ⟨hv,hn⟩ | ⟨g,cap,cur,hv,hb,hg,hc,_,hs,hcur⟩
 ·exact .inl ⟨hv,List.length_eq_zero_iff.1 hn⟩
 ·refine .inr ⟨g,cap,hv,hc,hb,(Array.getElem?_eq_some_iff.1 hg).1,fun i hi=>?_,fun i=>?_⟩
  ·have h1:w.ownsRow base t 1 (.slice (some ⟨g,0,none⟩) l.length cap) l.length (vals k l):=hv▸h
   rw[h1.cellAt i (by omega)]
   simp[vals,hi]
  ·simp[World.frozen?,hg]
theorem OwnL.nats {k:IntKind} {t:TypeId} {w:World} {base:Nat} {v:Value} {l:List Nat} (h:OwnL k t w base v l):∃va cap,v = .slice va l.length cap/\l.length<=cap/\Nats k w va l.length (fun i=>l.getD i 0):=by
 rcases h.form with ⟨hv,hn⟩ | ⟨g,cap,hv,hc,_,_,hcell,_⟩
 ·subst hn;exact⟨none,0,hv,Nat.le_refl _,fun i hi=>by simp at hi⟩
 ·exact⟨some ⟨g,0,none⟩,cap,hv,hc,fun i hi=>⟨g,0,rfl,by rw[Nat.zero_add];exact hcell i hi⟩⟩
theorem OwnL.set {k:IntKind} {t:TypeId} {w:World} {base g n cap:Nat} {l:List Nat} (h:OwnL k t w base (.slice (some ⟨g,0,none⟩) n cap) l) (i x:Nat) :
  OwnL k t (w.setCell ⟨g,i,none⟩ (.int k (x:Nat))) base (.slice (some ⟨g,0,none⟩) n cap) (l.set i x):=by
 refine⟨by simp[vals],?_⟩
 rcases h.2 with ⟨hv,hn⟩ | ⟨g',cap',cur,hv,hb,hg,hc,hm,hs,hcur⟩
 ·cases hv
 ·injection hv with hv1 hv2 hv3
  injection hv1 with hv1
  injection hv1 with hv1
  subst hv1;subst hv2;subst hv3
  refine .inr ⟨g,cap,cur.setIfInBounds i (.int k (x:Nat)),by simp,hb,?_,by simpa using hc,hm,by simpa using hs,?_⟩
  ·simp[World.setCell,Array.getElem?_modify,hg]
  ·simp only[Nat.mul_one,List.length_set] at *
   rw[Array.toList_setIfInBounds,List.take_set,hcur]
   simp[vals,List.map_set]
structure More (k:IntKind) (t:TypeId) (w:World) (base:Nat) (v':Value) (l:List Nat) (w':World):Prop where
 own:OwnL k t w' base v' l
 bel:Below base w w'
theorem append_row {k:IntKind} {et st:TypeId} {bytes:Nat} (hinfo:(Tryz.prog.info? et).map (fun i=>(i.zero,i.size,i.bytes))=some (some (.int k 0),1,bytes)) (hbb:bytes<=8) (hun:Tryz.prog.underlying st=some (.slice et))
  {ops:Array Oper} {rest:List Oper} {o:Oper} {a:Act} {Q:Exit->Act->World->Prop} (w:World) (hgd:o.guard=none) (s x:Operand)
  (ho:o.op = .call { callee:=.builtin .append,args:=#[s,x],argTypes:=#[st,st] }) (base:Nat) (v:Value) (l:List Nat)
  (hs:a.eval s=v) (hown:OwnL k et w base v l) (xa:Option Addr) (xl xc:Nat) (f:Nat->Nat) (hx:a.eval x = .slice xa xl xc) (hxc:xa=none->xl=0/\xc=0) (hN:Nats k w xa xl f) (hl:l.length+xl<=1000000) (hbase:base<=w.heap.size)
  (h:∀v' w',More k et w base v' (l ++ rowL f xl) w'->wpList Tryz.prog ops Q rest (a.put o.dst v') w') :
  wpList Tryz.prog ops Q (o :: rest) a w:=by
 obtain⟨i,hi,hzz⟩:=Option.map_eq_some_iff.1 hinfo
 simp only[Prod.mk.injEq] at hzz
 obtain⟨hz,hsize,hby⟩:=hzz
 have own_lt:∀g,v.ownBlock=some g->base<=g:=fun g hg=>(hown.lt g hg).1
 cases xa with
 | none=>
  obtain⟨e1,e2⟩:=hxc rfl
  subst e1;subst e2
  refine wpList_append_own_none hgd s x st ho base et i 1 hun hi v _ _ hs hown hx ?_
  exact h _ _ ⟨by simpa [rowL] using hown,Below.refl _ _⟩
 | some ad=>
  refine wpList_append_own_at _ hgd s x st ho base et i (.int k 0) 1 bytes hun hi hz hsize hby rfl (by decide) v l.length _ hs hown ad xl xc (vals k (rowL f xl)) hx (by simp[rowL]) ?_ ?_ ?_ ?_ hbase ?_
  ·intro j u hu
   have hj:j<xl:=by have:=(List.getElem?_eq_some_iff.1 hu).1;simpa [rowL] using this
   obtain⟨xb,xo,e,c⟩:=hN j hj
   cases e
   have hadd:(⟨xb,xo,none⟩:Addr).add j=⟨xb,xo+j,none⟩:=by unfold Addr.add;split <;> simp_all
   rw[hadd,c,<-hu]
   simp[rowL,hj]
  ·intro u hu;simp at hu;obtain⟨_,_,rfl⟩:=hu;rfl
  ·unfold maxLen;omega
  ·have:(l.length+xl) * bytes<=1000000 * 8:=Nat.mul_le_mul hl hbb
   omega
  ·intro v' w' h1 h2 _ _
   refine h v' w' ⟨?_,(Below.refl base w).grown h2 hbase own_lt⟩
   have:OwnL k et w' base v' (l ++ rowL f xl):=by
    unfold OwnL
    rw[List.length_append,rowL_len,vals,List.map_append]
    exact h1
   exact this
theorem append_u8 {ops:Array Oper} {rest:List Oper} {o:Oper} {a:Act} {Q:Exit->Act->World->Prop} (w:World) (hgd:o.guard=none) (s x:Operand)
  (ho:o.op = .call { callee:=.builtin .append,args:=#[s,x],argTypes:=#[89,89] }) (base:Nat) (v:Value) (l:List Nat) (y:Nat)
  (hs:a.eval s=v) (hown:OwnL .u8 5 w base v l) (hx:a.eval x = .slice (some ⟨w.heap.size,0,none⟩) 1 1) (hl:l.length+1<=1000000) (hbase:base<=w.heap.size)
  (h:∀v' w',More .u8 5 w base v' (l ++ [y]) w'->wpList Tryz.prog ops Q rest (a.put o.dst v') w') :
  wpList Tryz.prog ops Q (o :: rest) a (w.alloc (.cells #[.int .u8 (y:Nat)] 5)):=by
 have b0:Below w.heap.size w (w.alloc (.cells #[.int .u8 (y:Nat)] 5)):=(Below.refl _ w).alloc (Nat.le_refl _) _
 refine append_row infoB (by decide) Tryz.underlying89 _ hgd s x ho base v l hs (hown.below b0 (Nat.le_refl _)) _ 1 1 (fun _=>y) hx (fun e=>by cases e) ?_ hl (by simp;omega) ?_
 ·intro i hi
  obtain rfl:i=0:=by omega
  refine⟨_,_,rfl,?_⟩
  simp
 ·intro v' w' hm
  exact h v' w' ⟨by simpa [rowL] using hm.own,(b0.mono hbase).trans hm.bel⟩
end Go.Proofs.YtbiopjmpdhcjgaaGreatDoor
