/- Joined: Uk Ul Um Va Vb Zi Vc. -/
import Derived.Test.YtbiopjmpdhcjgaaGreatDoorZ02
import Derived.Test.YtbiopjmpdhcjgaaGreatDoorZ13
import Derived.Test.YtbiopjmpdhcjgaaGreatDoorZ19
import Derived.Test.YtbiopjmpdhcjgaaGreatDoorZ24
import Derived.Test.YtbiopjmpdhcjgaaGreatDoorZ25
namespace Go.Proofs.YtbiopjmpdhcjgaaGreatDoor
open Go.RowKit
set_option maxHeartbeats 4000000

section
theorem eq_nil_keep (g:Nat) (ca:Array Value) (w:World):(binOp .eql 91 (.func (.func g) #[] ca) .nilFunc).run Tryz.prog w = .ok (.bool false) w:=by kernel_rfl
theorem ex_at {U:List Nat} {q m:Nat} (h:U.length=m) (hq:q<m):∃x,U[q]? = some x:=⟨U[q]'(by omega),List.getElem?_eq_getElem _⟩
def goneU (kp:Nat->Bool) (U:List Nat):List Nat:=U.filter fun u=>!kp u
def placesU (nu:Nat) (U:List Nat):List Nat:=U.map fun u=>fi nu+u * 8
theorem gone_take {kp:Nat->Bool} {U:List Nat} {q x:Nat} (h:U[q]? = some x):goneU kp (U.take (q+1))=goneU kp (U.take q) ++ (if kp x then [] else [x]):=by
 unfold goneU
 rw[List.take_add_one,h,List.filter_append]
 cases e:kp x <;> simp[e]
theorem gone_len (kp:Nat->Bool) (U:List Nat):(goneU kp U).length<=U.length:=List.length_filter_le _ _
theorem take_no {G:List Nat} (h:G.Pairwise (· < ·)) {q x:Nat} (hx:G[q]? = some x):x ∉ G.take q:=fun hm=>by
 obtain⟨a,e⟩:=List.getElem?_eq_some_iff.1 hx
 obtain⟨k,hk,ek⟩:=List.mem_iff_getElem.1 hm
 have hk':k<q:=by rw[List.length_take] at hk;omega
 rw[List.getElem_take] at ek
 have:=List.pairwise_iff_getElem.1 h k q (by omega) a hk'
 omega
section
variable {nu sz:Nat} {w w0:World} {hb sb b bl:Nat} {T:Tay} {A:Ab} {P:List (Int×Int)}
set_option maxRecDepth 20000 in
theorem h_sweep (h:Hp nu sz w hb sb b T A P) (s:HpS nu (says P A)) (kp:Nat->Bool) (hm:P.length+10 * cnt nu (ask nu (says P A))+10<=6144)
  (KP:∀w',St w w'->∀u:Nat,u<nu->Calls Tryz.prog 49 #[.int .i64 ((fi nu:Int)+(u:Int) * 8),ptr bl] w' fun e w''=>e = .returned (.bool (kp u))/\Dr w' w'') :
  Calls Tryz.prog 48 #[ptr hb,.func (.func 49) #[] #[ptr bl]] w fun e w'=>∃n:Nat,e = .returned (.int .i64 n)/\n=(goneU kp (plU (ask nu (says P A)) nu)).length/\∃f,To sz w sb b T A w' f (P.length+10 * n)/\HpS nu f/\(∀u,ask nu f u=if u∈goneU kp (plU (ask nu (says P A)) nu) then 0 else ask nu (says P A) u)/\(∀i,fi nu<=i->f i=says P A i)/\∀i,2<=i->i<18->f i=says P A i:=by
 have hi:=info3
 obtain⟨i0,hi0⟩:∃i,Tryz.prog.info? 3=some i:=by
  cases h:Tryz.prog.info? 3 with
  | none=>rw[h] at hi;simp at hi
  | some i=>exact⟨i,rfl⟩
 rw[hi0] at hi
 simp only[Option.map_some,Option.some.injEq,Prod.mk.injEq] at hi
 have HI:=Hd (ai hi0 hi)
 clear hi hi0
 have PS:=h_pieces h s
 have hlu:(plU (ask nu (says P A)) nu).length=cnt nu (ask nu (says P A)):=by rw[plU_len];rfl
 have hm478:=cnt_le nu (ask nu (says P A))
 have hU:∀(u:Nat),u∈plU (ask nu (says P A)) nu->u<nu/\ask nu (says P A) u≠0:=fun u hu=>plU_mem.1 hu
 have hnd:=plU_rise (K:=ask nu (says P A)) nu
 have hpl:natVals (plP nu (ask nu (says P A)) nu)=natVals (placesU nu (plU (ask nu (says P A)) nu)):=rfl
 rw[hpl] at PS
 generalize plU (ask nu (says P A)) nu=U at *
 generalize cnt nu (ask nu (says P A))=m at *
 have geo:=h.hp.geo.b;have HH:=Hd h;have HS:=Hd s;have HPS:=Hd PS;have HKP:=@Hd _ KP;have HU:=@Hd _ hU;have HLU:=Hd hlu;have HND:=Hd hnd
 clear h s PS KP hU hlu hnd hpl
 have hnil:=eq_nil_keep
 go_enter Tryz.func48,Tryz.ntmps48
 go_wp2_with fail
 refine(uh HPS).mono ?_
 clear HPS
 rintro e w1 ⟨v,rfl,own,f1⟩
 obtain⟨ad,cp,ev⟩:∃ad cp,v = .slice ad m cp:=by
  rcases row_form own with ⟨ev,e0⟩ | ⟨gg,cp,ev⟩
  ·exact⟨none,0,by rw[ev,e0]⟩
  ·exact⟨_,cp,ev⟩
 subst ev
 have HOWN:=Hd own;have HF1:=Hd f1
 clear own f1
 go_wp2_with fail
 go_loopw [5,15] (fun v i wr=>∃q:Nat,q<=m/\i = .int .i64 q/\wr.ownsRow w1.heap.size 3 1 v (goneU kp (U.take q)).length (natVals (placesU nu (goneU kp (U.take q))))/\St w1 wr) (fun v i wr=>5000 - (intOf i).toNat)
 case atStart=>exact⟨0,by omega,rfl,World.ownsRow_nil _ _ _ _,Fr.refl _ _⟩
 case round=>
  obtain⟨q,hq,rfl,own5,hf⟩:=hrel
  by_cases hlt:q<m
  ·have own:=uh HOWN
   obtain⟨gg,ead⟩:∃gg,ad=some ⟨gg,0,none⟩:=by
    rcases row_form own with ⟨_,e0⟩ | ⟨gg,cp',ev⟩
    ·omega
    ·injection ev with ev1 ev2 ev3
     exact⟨gg,ev1⟩
   subst ead
   obtain⟨x,hx⟩:=ex_at (uh HLU) hlt
   have hxu:=uh HU x (List.mem_of_getElem? hx)
   have gt:=gone_take (kp:=kp) hx
   have cq:wr.cell? ⟨gg,q,none⟩=some (.int .i64 ((fi nu:Int)+(x:Int) * 8)):=by
    refine hf.cell' ?_ id
    rw[own.cellAt q (by omega)]
    simp[natVals,placesU,hx]
   have KC:=uh HKP wr ((uh HF1).trans' hf nE) x hxu.1
   have gl:(goneU kp (U.take q)).length<=nu:=by have:=gone_len kp (U.take q);have h2:=List.length_take_le q U;omega
   have HKC:=Hd KC;have HX:=Hd (ai own5 (ai hf (ai gt hxu)))
   have x4:=hxu.1
   clear own own5 hf gt hxu KC hx
   go_wp2_with fail
   refine(uh HKC).mono ?_
   clear HKC
   rintro e w2 ⟨rfl,D⟩
   have D:Dr _ w2:=D
   obtain⟨own5,hf,gt,hxu⟩:=uh HX
   have hfd:=D.still
   have own6:w2.ownsRow w1.heap.size 3 1 u5 _ _:=row_still own5 hfd
   have HF2:=Hd (hf.trans' hfd nE)
   have lw:=hf.size;have lw2:=hfd.size
   cases hk:kp x
   ·rw[hk,if_neg (by simp)] at gt
    have HOW:=Hd own6;have HGT:=Hd gt
    generalize hgl:(goneU kp (U.take q)).length=len at HOW gl
    generalize hgv:natVals (placesU nu (goneU kp (U.take q)))=vals at HOW
    have HGL:=Hd hgl;have HGV:=Hd hgv;have HK:=Hd hk
    clear hgl hgv own6 own5 hf hfd D gt hxu hk HX
    go_wp2_with (first | (at_builtin;refine wpList_append_own_at _ rfl _ _ 45 rfl w1.heap.size 3 i0 (.int .i64 0) 1 8 Tryz.underlying45 (uh HI).1 (uh HI).2.1 (uh HI).2.2.1 (uh HI).2.2.2 rfl (by decide) _ len vals rfl ((uh HOW).alloc _) _ 1 1 [.int .i64 ((fi nu:Int)+(x:Int) * 8)] rfl rfl ?c1 ?c2 ?c3 ?c4 ?c5 ?_) | fail)
    case c1=>exact cell_one_new _ _ _
    case c2=>intro q hq;simp at hq;subst hq;rfl
    case c3=>unfold maxLen;omega
    case c4=>omega
    case c5=>simp <;> omega
    intro v' w6 hown hgrow hnil hloc
    have HG:=Hd (ai hown hgrow)
    clear hown hgrow hnil hloc
    go_wp2
    obtain⟨hown,hgrow⟩:=uh HG
    refine⟨⟨q+1,by omega,by go_num,?_,?_⟩,by simp[intOf];omega⟩
    ·have:=hown
     rw[uh HGT]
     rw[<-uh HGL,<-uh HGV] at this
     simpa [natVals,placesU] using this
    ·exact((uh HF2).alloc _).grown hgrow (fun k hk=>.inr ((uh HOW).lt k hk).1)
   ·rw[hk,if_pos rfl,List.append_nil] at gt
    have HOW:=Hd own6;have HGT:=Hd gt
    clear own6 own5 hf hfd D gt hxu hk HX
    go_wp2
    exact⟨⟨q+1,by omega,by go_num,by rw[uh HGT];exact uh HOW,uh HF2⟩,by simp[intOf];omega⟩
  ·have:m=q:=by omega
   subst this
   have htk:U.take m=U:=by rw[<-uh HLU];exact List.take_length
   rw[htk] at own5
   have gin:∀x∈goneU kp U,x<nu/\ask nu (says P A) x≠0:=fun x hx=>uh HU x ((List.mem_filter.1 hx).1)
   have gnd:(goneU kp U).Pairwise (· < ·):=(uh HND).filter _
   have gl:(goneU kp U).length<=nu:=by have:=gone_len kp U;have h2:=uh HLU;omega
   obtain⟨G,hG⟩:∃G,goneU kp U=G:=⟨_,rfl⟩
   rw[hG] at gin gnd gl own5
   have HGG:=Hd hG
   clear hG
   obtain⟨n,hn⟩:∃n,G.length=n:=⟨_,rfl⟩
   rw[hn] at own5 gl
   obtain⟨ad5,cp5,ev⟩:∃ad cp,u5 = .slice ad n cp:=by
    rcases row_form own5 with ⟨ev,e0⟩ | ⟨gg,cp,ev⟩
    ·exact⟨none,0,by rw[ev,e0]⟩
    ·exact⟨_,cp,ev⟩
   subst ev
   have ltf:∀k,(Value.slice ad5 n cp5).ownBlock=some k->¬tfoot sb b T k:=fun k hk ht=>by
    have h1:=(own5.lt k hk).1
    have h2:=(uh HF1).size
    have h3:=(uh HH).st.lt k ht
    omega
   have HO5:=Hd own5;have HFS:=Hd ((uh HF1).trans' hf nE);have HG:=@Hd _ gin;have HGN:=Hd gnd;have HN:=Hd hn;have HLT:=@Hd _ ltf
   clear own5 hf gin gnd hn ltf
   go_wp2_with fail
   go_loopw [30] (fun i wx=>∃q:Nat,q<=n/\i = .int .i64 q/\∃T' P',Onx wr sb b T wx T' sz A P' false/\HpS nu (says P' A)/\(∀u,ask nu (says P' A) u=if u∈G.take q then 0 else ask nu (says P A) u)/\P'.length<=P.length+10 * q/\(∀i,fi nu<=i->says P' A i=says P A i)/\∀i,2<=i->i<18->says P' A i=says P A i) (fun i wx=>5000 - (intOf i).toNat)
   case atStart=>exact⟨0,by omega,rfl,T,P,Onx.start ((uh HH).still (uh HFS)).st,uh HS,fun u=>by simp,by omega,fun _ _=>rfl,fun _ _ _=>rfl⟩
   case round=>
    obtain⟨q,hq,rfl,T',P',o,s,ak,hpl',hke,hro⟩:=hrel
    by_cases hlt2:q<n
    ·have own:=row_kept (uh HO5) o.fr (uh HLT)
     obtain⟨gg,ead⟩:∃gg,ad5=some ⟨gg,0,none⟩:=by
      rcases row_form own with ⟨_,e0⟩ | ⟨gg,cp',ev⟩
      ·omega
      ·injection ev with ev1 ev2 ev3
       exact⟨gg,ev1⟩
     subst ead
     obtain⟨x,hx⟩:=ex_at (uh HN) hlt2
     have hxg:=uh HG x (List.mem_of_getElem? hx)
     have hnt:x ∉ G.take q:=take_no (uh HGN) hx
     have cq:=own.cellAt q (by omega)
     rw[show(natVals (placesU nu G))[q]? = some (.int .i64 ((fi nu:Int)+(x:Int) * 8)) by simp[natVals,placesU,hx]] at cq
     have hp:=((uh HH).still (uh HFS)).call o
     have hxn:ask nu (says P' A) x≠0:=by rw[ak,if_neg hnt];exact hxg.2
     have GV:=h_give hp s (by have:=uh HLU;have:=uh HN;have hgl:=gone_len kp U;rw[uh HGG] at hgl;omega) x hxn
     have HGV:=Hd GV;have HX:=Hd (ai o (ai ak (ai hx (ai hpl' (ai hke hro)))))
     clear GV hp hxn own hxg hnt hx o s ak hpl' hke hro
     go_wp2_with fail
     refine(uh HGV).mono ?_
     clear HGV
     rintro e w5 ⟨rfl,f,⟨T5,P5,o5,ef,l5⟩,gv⟩
     subst ef
     have HY:=Hd (ai o5 (ai gv l5))
     clear o5 gv cq l5
     go_wp2
     obtain⟨o5,gv,l5⟩:=uh HY
     obtain⟨o,ak,hx,hpl',hke,hro⟩:=uh HX
     refine⟨⟨q+1,by omega,by go_num,T5,P5,o.trans o5,gv.st,fun u=>?_,by omega,fun i hi=>(gv.keep i hi).trans (hke i hi),fun i h1 h2=>(gv.root i h1 h2).trans (hro i h1 h2)⟩,by simp[intOf];omega⟩
     rw[gv.ak,List.take_add_one,hx]
     unfold setK
     by_cases e:u=x
     ·subst e
      simp
     ·rw[if_neg e,ak]
      simp[e]
    ·have:n=q:=by omega
     subst this
     have htk:G.take n=G:=by rw[<-uh HN];exact List.take_length
     rw[htk] at ak
     have HX:=Hd (ai o (ai s (ai ak (ai hpl' (ai hke hro)))))
     clear o s ak hpl' hke hro
     go_wp2
     go_ret
     obtain⟨o,s,ak,hpl',hke,hro⟩:=uh HX
     exact⟨n,rfl,by rw[uh HGG];exact(uh HN).symm,_,To.after ⟨T',P',o,rfl,hpl'⟩ (uh HFS),s,fun u=>by rw[uh HGG];exact ak u,hke,hro⟩
end
end
set_option maxRecDepth 100000 in
theorem t_keep (bl:Nat) (a:Option Addr) (c:Nat) (ts:List Int) (w:World) (hc:w.cell? ⟨bl,0,none⟩=some (.slice a ts.length c)) (hS:Sl w 1 a ts.length c (ts.map (Value.int .i64))) (hl:ts.length<=4000) (at_:Int) :
  Calls Tryz.prog 49 #[.int .i64 at_,ptr bl] w fun e w'=>e = .returned (.bool (decide (at_∈ts)))/\w'=w:=by
 go_enter Tryz.func49,Tryz.ntmps49
 go_wp2_with fail
 go_loopw [4] (fun iv wr=>∃j:Nat,j<=ts.length/\iv = .int .i64 j/\(∀x∈ts.take j,x≠at_)/\wr=w) (fun iv _=>ts.length - (intOf iv).toNat)
 case atStart=>exact⟨0,by omega,rfl,fun x hx=>by simp at hx,rfl⟩
 case round=>
  obtain⟨j,hj,rfl,hno,rfl⟩:=hrel
  by_cases hlt:j<ts.length
  ·obtain⟨x,hx⟩:∃x,ts[j]? = some x:=⟨_,List.getElem?_eq_getElem hlt⟩
   obtain⟨b,o,rfl,c1⟩:=hS.cells j (.int .i64 x) (by rw[List.getElem?_map,hx];rfl)
   have hlt':(j:Int)<ts.length:=by omega
   have HN:=Hd (ai hno hx)
   clear hS hno
   by_cases he:x=at_
   ·have hb:(x == at_)=true:=by simp[he]
    clear hx
    generalize hn:ts.length=n at *
    go_wp2_with fail
    go_ret
    have hm:at_∈ts:=by rw[<-he];exact List.mem_of_getElem? (uh HN).2
    exact⟨by rw[decide_eq_true hm];rfl,rfl⟩
   ·have hb:(x == at_)=false:=by simp[he]
    clear hx
    go_wp2_with fail
    obtain⟨hno,hx⟩:=uh HN
    refine⟨⟨j+1,by omega,by simp,fun y hy=>?_,by first | rfl | trivial⟩,by simp[intOf];omega⟩
    rw[List.take_add_one,hx] at hy
    rcases List.mem_append.1 hy with hy | hy
    ·exact hno y hy
    ·have:y=x:=by simpa using hy
     rw[this]
     exact he
  ·have e:j=ts.length:=by omega
   subst e
   have hlt':¬(ts.length:Int)<ts.length:=by omega
   have HN:=Hd hno
   clear hS hno
   generalize hn:ts.length=n at *
   go_wp2_with fail
   go_ret
   have hno:=uh HN
   rw[<-hn,List.take_length] at hno
   have hm:at_ ∉ ts:=fun h=>hno _ h rfl
   exact⟨by rw[decide_eq_false hm];rfl,rfl⟩

section
def rtcl:List (Nat×Value)->List Value
 | []=>[]
 | k :: l=>.int .u64 (k.1:Nat) :: k.2 :: rtcl l
theorem rtcl_at:∀{l:List (Nat×Value)} {k:Nat} {p:Nat×Value},l[k]? = some p->(rtcl l)[k * 2]? = some (.int .u64 (p.1:Nat))
 | [],_,_,h=>by simp at h
 | q :: l,0,p,h=>by
  cases (Option.some.inj h:q=p)
  rfl
 | q :: l,k+1,p,h=>by
  have:=rtcl_at (l:=l) (k:=k) (p:=p) (by simpa using h)
  rw[show(k+1) * 2=k * 2+1+1 by omega]
  exact this
theorem elt_I:ElT 3 45 1:=elt_of (bytes:=8) (z:=.int .i64 0) infoN (by decide) rfl (by decide) Tryz.underlying45
theorem int_one (l:List Int):∀u∈l.map (Value.int .i64),u.oneCell'=true:=fun u hu=>by
 obtain⟨t,_,rfl⟩:=List.mem_map.1 hu
 rfl
def Liv (nu:Nat) (ts:List Int) (U:List Nat):Prop:=∀x,x∈ts ↔ ∃v∈U,x=((fi nu+8 * v:Nat):Int)
section
variable {nu sz:Nat} {w w' w0:World} {hb sb b:Nat} {T:Tay} {A:Ab} {P:List (Int×Int)}
end
end
def rndPostX (P:Program) (l:Nat) (R:Ending->World->Prop):Exit->Act->World->Prop
 | .normal,_,w=>∃v w',(Instr.endRound l none).run P w = .ok v w'/\R (.returned v) w'
 | .ret,_,w=>∃v w',(Instr.endRound l (some .ret)).run P w = .ok v w'/\R (.returned v) w'
 | .exit id,_,w=>∃v w',(Instr.endRound l (some (.exit id))).run P w = .ok v w'/\R (.returned v) w'
 | .panic ch,a,w=>a.defers = []/\R (.panicked ch) w
 | _,_,_=>False
theorem round_of_wpX {F:Fence} {n:Nat} {P:Program} {l:Nat} {f:FuncId} {tmps:Array Value} {assign body:Code} {w:World} {R:Ending->World->Prop} (hF:F.fn f) (hfn:∃fn,P.funcs[f]? = some fn)
  (h:assign.wpIn (F.inRound l) n P (Exit.then (fun a₁ w₁=>∃w₂,(Instr.beginRound l).run P w₁ = .ok () w₂/\body.wpIn (F.inRound l) n P (rndPostX P l R) a₁ w₂) (fun _ _ _=>False))
   { tmps:=tmps,defers:=[] } w) :
  RoundIn F n P l f tmps assign body w R:=by
 refine⟨hF,fun c cs hr=>?_⟩
 let b:Frame:={ (default:Frame) with fn:=f,kind:=.normal,roundOf:=some l }
 have hb0:Frame.round l f tmps assign body .normal=b.atR { tmps:=tmps,defers:=[] } [.code assign,.beginRound,.code body]:=by
  simp[Frame.round,Frame.atR,b]
 have hr':(F.inRound l).room ((c :: cs).length+1+n):=hr
 have hF':(F.inRound l).fn b.fn:=hF
 obtain⟨e,a₁,w₁,hq,harr⟩:=h b [.beginRound,.code body] (c :: cs) rfl hF' hr'
 rw[<-hb0] at harr
 cases e with
 | normal=>
  obtain⟨w₂,hbr,hbody⟩:=hq
  have s1:StepsIn (Machine.fenced P (F.inRound l)) P (lone (b.atR a₁ [.beginRound,.code body]) (c :: cs) w₁) (lone (b.atR a₁ [.code body]) (c :: cs) w₂):=
   .one (fenced_calm (fr:=b.atR a₁ [.beginRound,.code body]) hF' hr' rfl) (stepR_beginRound rfl hbr)
  obtain⟨e₂,a₂,w₃,hq₂,harr₂⟩:=hbody b [] (c :: cs) rfl hF' hr'
  cases e₂ with
  | normal=>
   obtain⟨v,w₄,hend,hR⟩:=hq₂
   exact⟨.returned v,w₄,hR,(StepsIn.trans harr s1).trans (StepsIn.trans harr₂ (.one (fenced_calm (fr:=b.atR a₂ []) hF' hr' rfl) (stepR_round_end rfl rfl hend)))⟩
  | ret=>
   obtain⟨v,w₄,hend,hR⟩:=hq₂
   obtain⟨k₁,hs⟩:=harr₂.2 rfl
   exact⟨.returned v,w₄,hR,(StepsIn.trans harr s1).trans (StepsIn.trans hs (.one (fenced_calm (fr:=b.atR a₂ (.code .ret :: k₁)) hF' hr' rfl) (stepR_round_ret rfl rfl hend)))⟩
  | panic ch=>
   obtain⟨hd,hR⟩:=hq₂
   obtain⟨todo,hs⟩:=harr₂
   have hl:Frame.leaving P { b.atR a₂ todo with mode:=.panicking ch } w₃ (.panicked ch):=⟨rfl,hd,hfn⟩
   exact⟨.panicked ch,w₃,hR,(StepsIn.trans harr s1).trans (StepsIn.trans hs (.one (fenced_leaving (n:=n) hF' hr' hl) (step_leave_panicked hl)))⟩
  | exit id=>
   obtain⟨v,w₄,hend,hR⟩:=hq₂
   obtain⟨k₁,hk,hs⟩:=harr₂.2 rfl rfl
   exact⟨.returned v,w₄,hR,(StepsIn.trans harr s1).trans (StepsIn.trans hs (.one (fenced_calm (fr:=b.atR a₂ (.code (.exit id) :: k₁)) hF' hr' rfl) (stepR_round_exit rfl rfl hk hend)))⟩
  | goto t=>exact hq₂.elim
  | outgrown=>exact hq₂.elim
 | exit id=>exact hq.elim
 | goto t=>exact hq.elim
 | ret=>exact hq.elim
 | panic chain=>exact hq.elim
 | outgrown=>exact hq.elim
def IterG (P:Program) (gf:Nat) (lb:Array Value) (enc:Nat->Array Value) (N l:Nat) (S:Nat->Prop) (Rd:World->Prop):Prop:=
 ∀(J':Nat->(Nat->Prop)->World->Prop) (Jx:World->Prop) (Jp:List PanicEntry->World->Prop),(∀k G O W W',J' k G W->Fr O W W'->(∀b,O b->¬G b)->J' k G W')->(∀k G W,J' k G W->∀b,G b->b<W.heap.size)->
  (∀k G W,k<N->J' k G W->YieldAt Fence.wide (0 - 1) P l (enc k) W fun e W'=>(e = .returned (.bool true)/\∃G',J' (k+1) G' W'/\Fr G W W'/\(∀b,G b->G' b)/\∀b,G' b->G b\/W.heap.size<=b)\/(e = .returned (.bool false)/\Jx W'/\Fr G W W')\/∃ch,e = .panicked ch/\Jp ch W')->
  ∀G W,Rd W->J' 0 G W->(∀b,G b->b<W.heap.size/\¬S b)->CallsIn Fence.wide 0 P gf (#[.func (.yield l) #[] #[]] ++ lb) W fun e W'=>(∃v,e = .returned v/\Fr G W W'/\∃G',J' N G' W')\/(∃v,e = .returned v/\Fr G W W'/\Jx W')\/∃ch,e = .panicked ch/\Jp ch W'
def bodyEndsG (D:Nat) (G:Nat->Prop) (V:World) (J:(Nat->Prop)->World->Prop) (Jr:Code->World->Prop) (Jp:List PanicEntry->World->Prop) (W:World):Exit->Act->World->Prop
 | .normal,_,W'=>(W'.heap[D]? = W.heap[D]?/\W'.heap[D+1]? = W.heap[D+1]?)/\∃G',J G' W'/\Fr (fun b=>G b\/pair D b) V W'/\(∀b,G b->G' b)/\∀b,G' b->G b\/V.heap.size<=b
 | .ret,_,W'=>(W'.heap[D]? = W.heap[D]?/\W'.heap[D+1]? = W.heap[D+1]?)/\Jr .ret W'/\Fr (fun b=>G b\/pair D b) V W'
 | .exit id,_,W'=>(W'.heap[D]? = W.heap[D]?/\W'.heap[D+1]? = W.heap[D+1]?)/\Jr (.exit id) W'/\Fr (fun b=>G b\/pair D b) V W'
 | .panic ch,a,W'=>a.defers = []/\W'.heap[D]? = W.heap[D]?/\Jp ch W'
 | _,_,_=>False
theorem range_okG {P:Program} {f:FuncId} {g:Operand} {ps:Array Tmp} {assign body:Code} {Q:Exit->Act->World->Prop} {a:Act} {w:World}
  {gf:Nat} {lb:Array Value} (hg:a.eval g = .func (.func gf) #[] lb) (eg:∀args w,(callFunc gf args).run P w = .ok (.enter gf args) w) (hfn:∃fn,P.funcs[f]? = some fn)
  {N:Nat} {enc:Nat->Array Value} (hps:∀k,(enc k).size=ps.size) (S:Nat->Prop) (Rd:World->Prop) (G0:Nat->Prop) (J:Nat->(Nat->Prop)->World->Prop) (JA:Nat->(Nat->Prop)->World->Act->World->Prop) (Jr:Code->World->Prop) (Jp:List PanicEntry->World->Prop)
  (hJ:∀k G W W',J k G W->Fr (pair w.heap.size) W W'->J k G W') (hJb:∀k G W,J k G W->∀b,G b->b<W.heap.size) (hJO:∀k G O W W',J k G W->Fr O W W'->(∀b,O b->¬(G b\/pair w.heap.size b))->J k G W') (hJA:∀k G V a W W',JA k G V a W->Fr (pair w.heap.size) W W'->JA k G V a W') (hJr:∀c W W',Jr c W->Fr (pair w.heap.size) W W'->Jr c W')
  (hseq:IterG P gf lb enc N (w.heap.size+1) S Rd) (h0:∀o1 o2,J 0 G0 ((w.alloc o1).alloc o2)/\Rd ((w.alloc o1).alloc o2)) (hG0:∀b,G0 b->b<w.heap.size/\¬S b) (hS:∀b,S b->b<w.heap.size)
  (hassign:∀(l k:Nat) (G:Nat->Prop) (W:World) (K:Act->World->Prop),J k G W->k<N->(∀a' W',JA k G W a' W'->W'.heap[w.heap.size]? = W.heap[w.heap.size]?->W'.heap[w.heap.size+1]? = W.heap[w.heap.size+1]?->K a' W')->
   assign.wpIn (Fence.wide.inRound l) 0 P (Exit.then K (fun _ _ _=>False)) { tmps:=(ps.zip (enc k)).foldl (fun t (p,v)=>t.setIfInBounds p v) a.tmps,defers:=[] } W)
  (hbody:∀(l k:Nat) (G:Nat->Prop) (V:World) (a':Act) (W:World),JA k G V a' W->k<N->body.wpIn (Fence.wide.inRound l) 0 P (bodyEndsG w.heap.size G V (J (k+1)) Jr Jp W) a' W)
  (hdone:∀(G:Nat->Prop) (W:World),J N G W->Fr G0 w W->W.heap[w.heap.size]? = some (.deferred (some []))->Q .normal { a with defers:={ target:=.collected w.heap.size,args:=#[] } :: a.defers } W)
  (hret:∀(c:Code) (W:World),Jr c W->Fr G0 w W->W.heap[w.heap.size]? = some (.deferred (some []))->c.wpIn Fence.wide 0 P Q { a with defers:={ target:=.collected w.heap.size,args:=#[] } :: a.defers } W)
  (hpan:∀(ch:List PanicEntry) (W:World),Jp ch W->W.heap[w.heap.size]? = some (.deferred (some []))->Q (.panic ch) { a with defers:={ target:=.collected w.heap.size,args:=#[] } :: a.defers } W) :
  wpOf P f (Code.rangeFunc g ps assign body) Q a w:=by
 obtain⟨rec,hrec⟩:∃rec:LoopState->Option Code->Loop,rec=fun st pe=>{ state:=st,pending:=pe,fn:=f,tmps:=a.tmps,params:=ps,assign,body,defers:=w.heap.size }:=⟨_,rfl⟩
 obtain⟨W1,hW1⟩:∃W1,(w.alloc (.deferred (some []))).alloc (.loop (rec .ready none))=W1:=⟨_,rfl⟩
 have hL1:W1.heap[w.heap.size+1]? = some (.loop (rec .ready none)):=by
  rw[<-hW1];have:=World.alloc_heap_new (w.alloc (.deferred (some []))) (.loop (rec .ready none));rwa [World.size_alloc] at this
 have hK1:W1.heap[w.heap.size]? = some (.deferred (some [])):=by
  rw[<-hW1];exact(Below.heap_alloc _ _ _ (by simp)).trans (World.alloc_heap_new w _)
 have put:∀(W:World) (o:Obj),Fr (pair w.heap.size) W (W.putObj (w.heap.size+1) o):=fun W o=>(Fr.refl _ W).putObj (.inl (.inr rfl)) o
 refine wpOf_range (l:=w.heap.size+1) (mark:=[{ target:=.collected w.heap.size,args:=#[] }]) (w₁:=W1) (w₁':=W1) (w₂:=W1) (d:={ target:=.fn (.func gf) lb,args:=#[.func (.yield (w.heap.size+1)) #[] #[]] })
  (gf:=gf) (args:=#[.func (.yield (w.heap.size+1)) #[] #[]] ++ lb) ?_ ?_ ?_ ?_
 ·rw[<-hW1,hrec];exact run_enterLoop_outer _ _ _ _ _
 ·simp only[resolve,hg]
  simp[go_sem]
 ·simp[invoke,go_sem,eg]
 ·refine(hseq
   (fun k H W=>(∃G,(∀b,H b ↔ G b\/pair w.heap.size b)/\J k G W)/\W.heap[w.heap.size+1]? = some (.loop (rec .ready none))/\W.heap[w.heap.size]? = some (.deferred (some [])))
   (fun W=>∃c,Jr c W/\W.heap[w.heap.size+1]? = some (.loop (rec .done (some c)))/\W.heap[w.heap.size]? = some (.deferred (some [])))
   (fun ch W=>Jp ch W/\W.heap[w.heap.size]? = some (.deferred (some [])))
   ?_ ?_ ?_ (fun b=>G0 b\/pair w.heap.size b) W1 (by rw[<-hW1];exact(h0 _ _).2) ⟨⟨G0,fun _=>Iff.rfl,by rw[<-hW1];exact(h0 _ _).1⟩,hL1,hK1⟩ ?_).mono ?_
  ·rintro k H O W W' ⟨⟨G,hH,hj⟩,hl,hd⟩ fr ho
   have hlt:w.heap.size+1<W.heap.size:=(Array.getElem?_eq_some_iff.1 hl).1
   refine⟨⟨G,hH,hJO k G O W W' hj fr fun b hb h=>ho b hb ((hH b).2 h)⟩,(fr.block _ hlt fun h=>ho _ h ((hH _).2 (.inr (.inr rfl)))).trans hl,(fr.block _ (by omega) fun h=>ho _ h ((hH _).2 (.inr (.inl rfl)))).trans hd⟩
  ·rintro k H W ⟨⟨G,hH,hj⟩,hl,hd⟩ b hb
   have hlt:w.heap.size+1<W.heap.size:=(Array.getElem?_eq_some_iff.1 hl).1
   rcases (hH b).1 hb with h | h
   ·exact hJb k G W hj b h
   ·unfold pair at h;omega
  ·rintro k H W hk ⟨⟨G,hH,hj⟩,hl,hd⟩
   have hlt:w.heap.size+1<W.heap.size:=(Array.getElem?_eq_some_iff.1 hl).1
   have hy:=run_yield (P:=P) (args:=(enc k)) hl (by rw[hrec];simp[hps])
   rw[hrec] at hy
   refine⟨f,_,assign,body,hy,round_of_wpX trivial hfn (hassign _ k G W _ hj hk ?_)⟩
   intro a' W2 hA e1 e2
   rw[hl] at e2;rw[hd] at e1
   refine⟨_,run_beginRound e2 (by rw[hrec]),?_⟩
   have hlt2:w.heap.size+1<W2.heap.size:=(Array.getElem?_eq_some_iff.1 e2).1
   have hl3:(W2.putObj (w.heap.size+1) (.loop { rec .ready none with state:=.busy })).heap[w.heap.size+1]? = some (.loop { rec .ready none with state:=.busy }):=World.putObj_heap_same hlt2
   have hd3:(W2.putObj (w.heap.size+1) (.loop { rec .ready none with state:=.busy })).heap[w.heap.size]? = some (.deferred (some [])):=(World.putObj_heap_other (by omega)).trans e1
   refine wpIn_mono (hbody _ k G W a' _ (hJA k G W a' W2 _ hA (put W2 _)) hk) ?_
   have fin:∀(jump:Option Code) (W3:World),W3.heap[w.heap.size+1]? = some (.loop { rec .ready none with state:=.busy })->
     (Instr.endRound (w.heap.size+1) jump).run P W3 = .ok (.bool jump.isNone) (W3.putObj (w.heap.size+1) (.loop (rec (if jump.isNone then .ready else .done) jump)))/\
     (W3.putObj (w.heap.size+1) (.loop (rec (if jump.isNone then .ready else .done) jump))).heap[w.heap.size+1]? = some (.loop (rec (if jump.isNone then .ready else .done) jump)):=fun jump W3 h3=>by
    have:=run_endRound (P:=P) jump h3
    rw[hrec] at this ⊢
    exact⟨this,World.putObj_heap_same (Array.getElem?_eq_some_iff.1 h3).1⟩
   rintro e a3 W3 hp
   cases e with
   | normal=>
    obtain⟨⟨k1,k2⟩,G',hj3,ff,g1,g2⟩:=hp
    obtain⟨hr,hl4⟩:=fin none W3 (k2.trans hl3)
    refine⟨_,_,hr,.inl ⟨rfl,fun b=>G' b\/pair w.heap.size b,⟨⟨G',fun _=>Iff.rfl,hJ _ _ _ _ hj3 (put W3 _)⟩,hl4,(World.putObj_heap_other (by omega)).trans (k1.trans hd3)⟩,?_,?_,?_⟩⟩
    ·exact(ff.trans' (put W3 _) fun b hb=>.inl (.inr hb)).mono fun b hb=>.inl ((hH b).2 hb)
    ·exact fun b hb=>((hH b).1 hb).imp (g1 b) id
    ·rintro b (hb | hb)
     ·exact(g2 b hb).imp (fun h=>(hH b).2 (.inl h)) id
     ·exact .inl ((hH b).2 (.inr hb))
   | ret=>
    obtain⟨⟨k1,k2⟩,hj3,ff⟩:=hp
    obtain⟨hr,hl4⟩:=fin (some .ret) W3 (k2.trans hl3)
    exact⟨_,_,hr,.inr (.inl ⟨rfl,⟨.ret,hJr _ _ _ hj3 (put W3 _),hl4,(World.putObj_heap_other (by omega)).trans (k1.trans hd3)⟩,(ff.trans' (put W3 _) fun b hb=>.inl (.inr hb)).mono fun b hb=>.inl ((hH b).2 hb)⟩)⟩
   | exit id=>
    obtain⟨⟨k1,k2⟩,hj3,ff⟩:=hp
    obtain⟨hr,hl4⟩:=fin (some (.exit id)) W3 (k2.trans hl3)
    exact⟨_,_,hr,.inr (.inl ⟨rfl,⟨.exit id,hJr _ _ _ hj3 (put W3 _),hl4,(World.putObj_heap_other (by omega)).trans (k1.trans hd3)⟩,(ff.trans' (put W3 _) fun b hb=>.inl (.inr hb)).mono fun b hb=>.inl ((hH b).2 hb)⟩)⟩
   | panic ch=>
    obtain⟨d0,k1,hj3⟩:=hp
    exact⟨d0,.inr (.inr ⟨ch,rfl,hj3,k1.trans hd3⟩)⟩
   | goto t=>exact hp.elim
   | outgrown=>exact hp.elim
  ·rintro b (hb | hb)
   ·rw[<-hW1];have:=hG0 b hb;simp only[World.size_alloc];exact⟨by omega,this.2⟩
   ·rw[<-hW1];simp only[World.size_alloc];unfold pair at hb;exact⟨by omega,fun h=>by have:=hS b h;omega⟩
  ·have f01:St w W1:=hW1▸((Fr.refl _ w).alloc _).alloc _
   have fin:∀W2 o,Fr (fun b=>G0 b\/pair w.heap.size b) W1 W2->Fr G0 w (W2.putObj (w.heap.size+1) o):=fun W2 o f2=>
    (f01.mono nE).trans' (f2.trans' (put W2 o) fun b hb=>.inl (.inr hb)) fun b hb=>by
     rcases hb with h | h
     ·exact .inl h
     ·unfold pair at h;exact .inr (by omega)
   rintro e W2 (⟨v,rfl,fr,H,⟨⟨G,hH,hj⟩,hl,hd⟩⟩ | ⟨v,rfl,fr,c,hj,hl,hd⟩ | ⟨ch,rfl,hj,hd⟩)
   ·exact⟨none,_,by have:=run_endLoop (P:=P) hl (by rw[hrec];simp);rw[hrec] at this;exact this,hdone G _ (hJ _ _ _ _ hj (put W2 _)) (fin W2 _ fr) ((World.putObj_heap_other (by omega)).trans hd)⟩
   ·exact⟨some c,_,by have:=run_endLoop (P:=P) hl (by rw[hrec];simp);rw[hrec] at this;exact this,hret c _ (hJr _ _ _ hj (put W2 _)) (fin W2 _ fr) ((World.putObj_heap_other (by omega)).trans hd)⟩
   ·exact hpan ch W2 hj hd
def geP (x:ByteArray) (l:List Pr):List Pr:=l.filter fun p=>!decide (ltK p.1 x)
theorem geP_none {x:ByteArray} {l:List Pr} (h:Blw l x):geP x l = []:=List.filter_eq_nil_iff.2 fun p hp=>by simp[h p hp]
theorem geP_app (x:ByteArray) (l m:List Pr):geP x (l ++ m)=geP x l ++ geP x m:=List.filter_append ..
theorem geP_flat (x:ByteArray):∀M:List (List Pr),geP x M.flatten=(M.map (geP x)).flatten
 | []=>rfl
 | m :: M=>by rw[List.flatten_cons,geP_app,geP_flat x M];rfl
theorem geP_way {B:List ByteArray} {M:List (List Pr)} {x:ByteArray} {i:Nat} (s:Sep B M) (wy:Way B x i):geP x M.flatten=((M.drop i).map (geP x)).flatten:=by
 rw[<-geP_flat]
 conv=>lhs;rw[<-List.take_append_drop i M,List.flatten_append,geP_app,geP_none (wy.ahead s)]
 rfl
theorem geP_no {x:ByteArray} {p:Pr} (h:ltK p.1 x):geP x [p] = []:=by
 unfold geP
 rw[List.filter_cons_of_neg (by rw[decide_eq_true h];decide)]
 rfl
theorem geP_yes {x:ByteArray} {p:Pr} (h:¬ltK p.1 x):geP x [p] = [p]:=by
 unfold geP
 rw[List.filter_cons_of_pos (by rw[decide_eq_false h];rfl)]
 rfl
abbrev pvV (p:Pr):Value:=.agg #[.string p.1,.int .u64 (p.2:Nat)]
def wkE (L:List Pr) (k:Nat):Array Value:=#[pvV (L.getD k default)]
structure Wv (w:World) (x:ByteArray) (bLo bT bS bL bY l sb:Nat):Prop where
 lo:w.cell? ⟨bLo,0,none⟩=some (.string x)
 t:w.cell? ⟨bT,0,none⟩=some (.func (.func 64) #[] #[ptr bLo,ptr bT,ptr bS,ptr bL,ptr bY])
 s:w.cell? ⟨bS,0,none⟩=some (ptr sb)
 y:w.cell? ⟨bY,0,none⟩=some (.func (.yield l) #[] #[])
theorem Wv.kept {w w':World} {x:ByteArray} {bLo bT bS bL bY l sb:Nat} (h:Wv w x bLo bT bS bL bY l sb) {F:Nat->Prop} (f:Fr F w w') (h1:¬F bLo) (h2:¬F bT) (h3:¬F bS) (h4:¬F bY):Wv w' x bLo bT bS bL bY l sb:=
 ⟨f.cell' h.lo h1,f.cell' h.t h2,f.cell' h.s h3,f.cell' h.y h4⟩
structure Wkj (L:List Pr) (l:Nat) (J':Nat->(Nat->Prop)->World->Prop) (Jx:World->Prop) (Jp:List PanicEntry->World->Prop):Prop where
 lt:∀k G W,J' k G W->∀b,G b->b<W.heap.size
 off:∀k G O W W',J' k G W->Fr O W W'->(∀b,O b->¬G b)->J' k G W'
 y:∀k G W,k<L.length->J' k G W->YieldAt Fence.wide (0 - 1) Tryz.prog l (wkE L k) W fun e W'=>(e = .returned (.bool true)/\∃G',J' (k+1) G' W'/\Fr G W W'/\(∀b,G b->G' b)/\∀b,G' b->G b\/W.heap.size<=b)\/(e = .returned (.bool false)/\Jx W'/\Fr G W W')\/∃ch,e = .panicked ch/\Jp ch W'
structure Wnt (J':Nat->(Nat->Prop)->World->Prop) (k:Nat) (G:Nat->Prop) (bL:Nat) (W:World) (z:ByteArray) (G':Nat->Prop) (W':World):Prop where
 j:J' k G' W'
 fr:Fr (fun b=>G b\/b=bL) W W'
 up:∀b,G b->G' b
 new:∀b,G' b->G b\/W.heap.size<=b
 la:W'.heap[bL]? = some (.cells #[.string z] 9 (0,0))
def WkE (J':Nat->(Nat->Prop)->World->Prop) (Jx:World->Prop) (Jp:List PanicEntry->World->Prop) (k:Nat) (G:Nat->Prop) (bL:Nat) (W:World) (l:List Pr) (e:Ending) (W':World):Prop:=
 (e = .returned (.bool true)/\∃G' p,p∈l/\Wnt J' k G bL W p.1 G' W')\/(e = .returned (.bool false)/\Jx W'/\Fr (fun b=>G b\/b=bL) W W')\/∃ch,e = .panicked ch/\Jp ch W'
set_option maxRecDepth 100000 in
theorem w_leaf {x:ByteArray} {bLo bT bS bL bY l sb:Nat} {L:List Pr} {J':Nat->(Nat->Prop)->World->Prop} {Jx:World->Prop} {Jp:List PanicEntry->World->Prop} (wk:Wkj L l J' Jx Jp) (W:World) (G:Nat->Prop) (k0:Nat) (z:ByteArray) (m:List Pr) (a:Option Addr) (c:Nat)
  (wv:Wv W x bLo bT bS bL bY l sb) (hL:Lf W a c m) (hm:m ≠ []) (hm32:m.length<=32) (ri:Rise m) (hz:∀p∈m,ltK z p.1) (hj:J' k0 G W) (hla:W.heap[bL]? = some (.cells #[.string z] 9 (0,0)))
  (hG:∀b,G b->b<W.heap.size/\b≠bLo/\b≠bT/\b≠bS/\b≠bL/\b≠bY/\∀y,a=some y->b≠y.block) (hn:bL≠bLo/\bL≠bT/\bL≠bS/\bL≠bY/\∀y,a=some y->bL≠y.block)
  (hix:∀i p,(geP x m)[i]? = some p->L[k0+i]? = some p) :
  Calls Tryz.prog 64 #[.iface 100 (.slice a m.length c),ptr bLo,ptr bT,ptr bS,ptr bL,ptr bY] W fun e W'=>WkE J' Jx Jp (k0+(geP x m).length) G bL W m e W':=by
 have hwd:Fence.wide.depth=none:=rfl
 have hwf:∀f,Fence.wide.fn f:=fun _=>trivial
 have t1:=fun w=>taB_leaf (.slice a m.length c) w
 have t2:=fun w=>taL_leaf (.slice a m.length c) w
 have hbl:bL<W.heap.size:=(Array.getElem?_eq_some_iff.1 hla).1
 obtain⟨W1,hW1⟩:∃W1,W.alloc (.cells #[.int .i64 0,.slice none 0 0,.slice none 0 0] 96)=W1:=⟨_,rfl⟩
 have f1:St W W1:=hW1▸(Fr.refl _ W).alloc _
 have HH:=Hd (ai wk (ai wv (ai hL (ai ri (ai hz (ai hj (ai hla (ai hG (ai hn (ai hix (ai hbl (ai hm hm32))))))))))))
 have HW1:=Hd hW1
 have HF1:=Hd f1
 clear wk wv hL hz hj hla hG hn hix hbl hm hW1 f1 ri
 refine(callsIn_wide (n:=0)).1 ?_
 refine callsIn_of_wp Tryz.func64 rfl trivial ?_ rfl
 simp only[Tryz.ntmps64,List.size_toArray,List.length_cons,List.length_nil,Nat.reduceAdd,Nat.reduceSub,Array.replicate_succ,Array.replicate_zero,List.push_toArray,List.append_toArray,List.nil_append,List.cons_append]
 gi_wp2_with fail
 rw[uh HW1]
 gi_loopw [39] (fun c wr=>∃(i:Nat) (G':Nat->Prop) (z':ByteArray),c = .int .i64 (i:Nat)/\Hid (i<=m.length/\Wnt J' (k0+(geP x (m.take i)).length) G bL W1 z' G' wr/\(i=0->z'=z)/\∀j,i=j+1->∃p,m[j]? = some p/\z'=p.1)) (fun c wr=>m.length - (intOf c).toNat)
 case atStart=>
  obtain⟨wk,wv,hL,ri,hz,hj,hla,hG,hn,hix,hbl,hm,_⟩:=uh HH
  have f1:=uh HF1
  refine⟨0,G,z,rfl,Hd ⟨Nat.zero_le _,⟨?_,Fr.refl _ _,fun _ h=>h,fun b h=>.inl h,f1.obj hla id⟩,fun _=>rfl,fun j hj=>by omega⟩⟩
  have:geP x (m.take 0) = []:=rfl
  rw[this]
  exact wk.off _ _ _ _ _ hj f1 nE
 case round=>
  obtain⟨i,G',z',rfl,HI⟩:=hrel
  obtain⟨hi,wt,hz0,hzs⟩:=uh HI
  obtain⟨wk,wv,hL,ri,hz,hj,hla,hG,hn,hix,hbl,hm,_⟩:=uh HH
  have f1:=uh HF1
  have hs1:W.heap.size<=W1.heap.size:=f1.size
  by_cases hlt:i<m.length
  ·obtain⟨p,hp⟩:∃p,m[i]? = some p:=⟨_,List.getElem?_eq_getElem hlt⟩
   have hpm:=List.mem_of_getElem? hp
   obtain⟨ab,ao,ea,c1,c2⟩:=hL.pair hp
   have na:¬(G ab\/ab=bL):=by
    rintro(h | h)
    ·exact(hG _ h).2.2.2.2.2.2 _ ea rfl
    ·exact hn.2.2.2.2 _ ea h.symm
   have nv:∀k,(k=bLo\/k=bT\/k=bS\/k=bY)->¬(G k\/k=bL):=by
    rintro k hk (h | h)
    ·obtain⟨_,q1,q2,q3,q4,q5,_⟩:=hG k h
     rcases hk with e | e | e | e
     ·exact q1 e
     ·exact q2 e
     ·exact q3 e
     ·exact q5 e
    ·obtain⟨q1,q2,q3,q4,_⟩:=hn
     rcases hk with e | e | e | e
     ·exact q1 (h.symm.trans e)
     ·exact q2 (h.symm.trans e)
     ·exact q3 (h.symm.trans e)
     ·exact q4 (h.symm.trans e)
   have fWr:Fr (fun k=>G k\/k=bL) W wr:=(f1.mono nE).trans' wt.fr (fun k hk=>.inl hk)
   replace c1:=fWr.cell' c1 na
   replace c2:=fWr.cell' c2 na
   have wvr:=wv.kept fWr (nv _ (.inl rfl)) (nv _ (.inr (.inl rfl))) (nv _ (.inr (.inr (.inl rfl)))) (nv _ (.inr (.inr (.inr rfl))))
   obtain⟨W2,hW2⟩:∃W2,wr.alloc (.cells #[.string p.1,.int .u64 (p.2:Nat)] 43)=W2:=⟨_,rfl⟩
   have f2:St wr W2:=hW2▸(Fr.refl _ wr).alloc _
   have o2:W2.heap[wr.heap.size]? = some (.cells #[.string p.1,.int .u64 (p.2:Nat)] 43 (0,0)):=hW2▸heap_alloc_new wr _
   have la2:=f2.obj wt.la id
   obtain⟨W3,hW3⟩:∃W3,W2.setCell ⟨bL,0,none⟩ (.string p.1)=W3:=⟨_,rfl⟩
   have f3:Fr (fun k=>k=bL) W2 W3:=hW3▸(Fr.refl (fun k=>k=bL) W2).setCell (.inl rfl) _
   have la3:W3.heap[bL]? = some (.cells #[.string p.1] 9 (0,0)):=hW3▸heap_setCell_same W2 bL 0 _ _ (.string p.1) la2
   have hbr:bL<wr.heap.size:=(Array.getElem?_eq_some_iff.1 wt.la).1
   have nG':¬G' bL:=fun h=>by
    rcases wt.new _ h with h | h
    ·exact(hG _ h).2.2.2.2.1 rfl
    ·omega
   have f23:Fr (fun k=>k=bL) wr W3:=(f2.mono nE).trans' f3 (fun k hk=>.inl hk)
   have j3:J' (k0+(geP x (m.take i)).length) G' W3:=wk.off _ _ _ _ _ wt.j f23 (fun k hk h=>nG' (hk▸h))
   have fr3:Fr (fun k=>G k\/k=bL) W1 W3:=wt.fr.trans' f23 (fun k hk=>.inl (.inr hk))
   have etk:m.take (i+1)=m.take i ++ [p]:=by rw[List.take_add_one,hp];rfl
   have dl2:W2.cell? ⟨bL,0,none⟩=some (.string z'):=cOo la2 0
   have zl2:W2.frozen? ⟨bL,0,none⟩=false:=by simp[World.frozen?,la2]
   have e0:W2.cell? ⟨wr.heap.size,0,none⟩=some (.string p.1):=cOo o2 0
   have e1:W2.cell? ⟨wr.heap.size,1,none⟩=some (.int .u64 (p.2:Nat)):=cOo o2 1
   have g0:W3.cell? ⟨wr.heap.size,0,none⟩=some (.string p.1):=f3.cell' e0 (by show ¬wr.heap.size=bL;omega)
   have g1:W3.cell? ⟨wr.heap.size,1,none⟩=some (.int .u64 (p.2:Nat)):=f3.cell' e1 (by show ¬wr.heap.size=bL;omega)
   have wv3:=wvr.kept f23 (fun e=>hn.1 e.symm) (fun e=>hn.2.1 e.symm) (fun e=>hn.2.2.1 e.symm) (fun e=>hn.2.2.2.1 e.symm)
   have l3:=wv3.lo
   have y3:=wv3.y
   have lx:=less_eq p.1 x
   have lz:=less_eq p.1 z'
   have lzf:i=0->Op.bytesLess p.1.toList z'.toList=false/\(p.1.toList == z'.toList)=false:=fun h0=>by
    have hlt:=hz p hpm
    rw[<-hz0 h0] at hlt
    refine⟨by rw[lz];exact decide_eq_false (ltK_asym hlt),?_⟩
    rw[beq_eq_false_iff_ne]
    intro e
    rw[Lib.toList_data,Lib.toList_data] at e
    rw[bytes_ext e] at hlt
    exact ltK_irr _ hlt
   have hcase:(((i:Int) == 0)=true/\Op.bytesLess p.1.toList z'.toList=false/\(p.1.toList == z'.toList)=false)\/((i:Int) == 0)=false:=by
    by_cases h0:i=0
    ·exact .inl ⟨by simp[h0],lzf h0⟩
    ·exact .inr (by simp;omega)
   have hin:((i:Int)<(m.length:Int)):=by omega
   have hin':((i:Int)<(m.length:Int))=True:=by simp;omega
   have h32:=(uh HH).2.2.2.2.2.2.2.2.2.2.2.2
   have HZ:=Hd (ai wt (ai hix (ai fr3 (ai j3 (ai la3 (ai etk (ai hp (ai wk (ai hlt hs1)))))))))
   have HW2:=Hd hW2;have HW3:=Hd hW3;have HNB:=Hd nG';have HFA:=Hd f1
   rw[<-hW2] at dl2 zl2 e0 e1
   rw[<-hW3,<-hW2] at g0 g1 l3 y3
   subst ea
   clear HI hi wt hz0 hzs wk wv hL ri hz hj hla hG hn hix hbl hm f1 hs1 hpm na nv fWr wvr f2 o2 la2 f3 la3 nG' f23 j3 fr3 etk wv3 lz lzf hp hlt hW2 hW3 HF1 hbr
   generalize m.length=ml at *
   by_cases hk:ltK p.1 x
   ·rw[decide_eq_true hk] at lx
    have HK:=Hd hk
    clear hk
    rcases hcase with ⟨hc1,hc2,hc3⟩ | hc1
    all_goals
     gi_wp2
     obtain⟨wt,hix,fr3,j3,la3,etk,hp,wk,hlt,hs1⟩:=uh HZ
     rw[uh HW2,uh HW3]
     refine⟨⟨i+1,G',p.1,by go_num,Hd ⟨hlt,⟨?_,fr3,wt.up,wt.new,la3⟩,fun h=>by omega,fun j hj=>⟨p,by rw[show j=i by omega];exact hp,rfl⟩⟩⟩,by simp[intOf];omega⟩
     have e:geP x [p] = []:=geP_no (uh HK)
     rw[etk,geP_app,e,List.append_nil]
     exact j3
   ·rw[decide_eq_false hk] at lx
    obtain⟨fn,tmps,assign,body,hy,hR⟩:YieldAt Fence.wide (0 - 1) Tryz.prog l #[pvV p] W3 fun e W'=>(e = .returned (.bool true)/\∃G2,J' (k0+(geP x (m.take (i+1))).length) G2 W'/\Fr G' W3 W'/\(∀b,G' b->G2 b)/\∀b,G2 b->G' b\/W3.heap.size<=b)\/(e = .returned (.bool false)/\Jx W'/\Fr G' W3 W')\/∃ch,e = .panicked ch/\Jp ch W':=by
     obtain⟨wt,hix,fr3,j3,la3,etk,hp,wk,hlt,hs1⟩:=uh HZ
     have e:geP x [p] = [p]:=geP_yes hk
     have hL:=hix (geP x (m.take i)).length p (by
      have e2:geP x m=geP x (m.take i) ++ (p :: geP x (m.drop (i+1))):=by
       conv=>lhs;rw[<-List.take_append_drop (i+1) m,etk,geP_app,geP_app,e]
       simp
      rw[e2]
      simp)
     have hkL:=(List.getElem?_eq_some_iff.1 hL).1
     have hy:=wk.y _ G' W3 hkL j3
     have ew:wkE L (k0+(geP x (m.take i)).length)=#[pvV p]:=by unfold wkE;simp only[List.getD,hL,Option.getD_some]
     rw[ew] at hy
     have el:k0+(geP x (m.take (i+1))).length=k0+(geP x (m.take i)).length+1:=by rw[etk,geP_app,e,List.length_append];rfl
     rw[el]
     exact hy
    rw[<-uh HW3,<-uh HW2] at hy
    have HR:=Hd hR
    rw[<-uh HW3,<-uh HW2] at HR
    clear hR hk
    rcases hcase with ⟨hc1,hc2,hc3⟩ | hc1
    all_goals
     gi_wp2
     refine(uh HR).mono ?_
     clear hy HR dl2 zl2 e0 e1 g0 g1 l3 y3 c1 c2
     rintro e W4 (⟨rfl,G2,hj4,f4,up4,new4⟩ | ⟨rfl,hx4,f4⟩ | ⟨ch,rfl,hp4⟩)
     ·rw[uh HW2,uh HW3] at f4 new4
      have HN:=Hd (ai hj4 (ai f4 (ai up4 new4)))
      clear hj4 f4 up4 new4
      gi_wp2
      obtain⟨wt,hix,fr3,j3,la3,etk,hp,wk,hlt,hs1⟩:=uh HZ
      obtain⟨hj4,f4,up4,new4⟩:=uh HN
      have hG':∀k,G' k->(G k\/k=bL)\/W1.heap.size<=k:=fun k hk=>(wt.new k hk).imp .inl id
      have hnb:¬G' bL:=uh HNB
      refine⟨⟨i+1,G2,p.1,by go_num,Hd ⟨hlt,⟨hj4,fr3.trans' f4 hG',fun b hb=>up4 b (wt.up b hb),fun b hb=>?_,f4.obj la3 hnb⟩,fun h=>by omega,fun j hj=>⟨p,by rw[show j=i by omega];exact hp,rfl⟩⟩⟩,by simp[intOf];omega⟩
      rcases new4 b hb with h | h
      ·exact wt.new b h
      ·exact .inr (Nat.le_trans fr3.size h)
     ·rw[uh HW2,uh HW3] at f4
      have HX:=Hd (ai hx4 f4)
      clear hx4 f4
      gi_wp2
      go_ret
      obtain⟨wt,hix,fr3,j3,la3,etk,hp,wk,hlt,hs1⟩:=uh HZ
      obtain⟨hx4,f4⟩:=uh HX
      have hG':∀k,G' k->(G k\/k=bL)\/W1.heap.size<=k:=fun k hk=>(wt.new k hk).imp .inl id
      exact .inr (.inl ⟨rfl,hx4,((uh HFA).mono nE).trans' (fr3.trans' f4 hG') (fun k hk=>.inl hk)⟩)
     ·exact⟨rfl,.inr (.inr ⟨ch,rfl,hp4⟩)⟩
  ·have hin':((i:Int)<(m.length:Int))=False:=by simp;omega
   obtain⟨j,hj⟩:∃j,i=j+1:=⟨i - 1,by have:m.length≠0:=fun e=>hm (List.length_eq_zero_iff.1 e);omega⟩
   obtain⟨p,hp,ez⟩:=hzs j hj
   have e:m.take i=m:=List.take_of_length_le (by omega)
   rw[e,ez] at wt
   have HT:=Hd (show Wnt J' (k0+(geP x m).length) G bL W p.1 G' wr from⟨wt.j,(f1.mono nE).trans' wt.fr (fun k hk=>.inl hk),wt.up,fun b hb=>(wt.new b hb).imp id (fun h=>Nat.le_trans hs1 h),wt.la⟩)
   have HP:=Hd (List.mem_of_getElem? hp)
   clear HI hi wt hz0 hzs wk wv hL ri hz hj hla hG hn hix hbl hm f1 hs1 hlt hp ez e HF1 HH
   gi_wp2
   go_ret
   exact .inl ⟨rfl,G',p,uh HP,uh HT⟩
end Go.Proofs.YtbiopjmpdhcjgaaGreatDoor
