/- Joined: Pk Ow Up Pq Wa. -/
import Derived.Test.YtbiopjmpdhcjgaaGreatDoorS04
namespace Go.Proofs.YtbiopjmpdhcjgaaGreatDoor
open Go.RowKit
set_option maxHeartbeats 4000000
def wordN (b:Nat->Nat):Nat->Nat->Nat
 | 0,_=>0
 | i+1,j=>if i / 8=j then wordN b i j ||| b i * 2 ^ (8 * (i % 8)) else wordN b i j
theorem word_succ (b:Nat->Nat) (i j:Nat):wordN b (i+1) j=if i / 8=j then wordN b i j ||| b i * 2 ^ (8 * (i % 8)) else wordN b i j:=rfl
theorem word_bit (b:Nat->Nat) (n j m:Nat) (hb:∀i,i<n->b i<256):(wordN b n j).testBit m=(decide (m<64/\8 * j+m / 8<n) && (b (8 * j+m / 8)).testBit (m % 8)):=by
 induction n with
 | zero=>simp[wordN]
 | succ i ih=>
  have ih:=ih fun k hk=>hb k (by omega)
  unfold wordN
  by_cases hj:i / 8=j
  ·rw[if_pos hj,Nat.testBit_or,ih,Nat.testBit_mul_two_pow]
   by_cases hm:m<64/\8 * j+m / 8=i
   ·have e1:m - 8 * (i % 8)=m % 8:=by omega
    have e2:8 * (i % 8)<=m:=by omega
    have e3:¬(m<64/\8 * j+m / 8<i):=by omega
    have e4:m<64/\8 * j+m / 8<i+1:=by omega
    rw[decide_eq_false e3,decide_eq_true e4,decide_eq_true e2,e1,hm.2];simp
   ·have h0:(decide (8 * (i % 8)<=m) && (b i).testBit (m - 8 * (i % 8)))=false:=by
     by_cases e2:8 * (i % 8)<=m
     ·have:8<=m - 8 * (i % 8):=by omega
      rw[Nat.testBit_lt_two_pow (Nat.lt_of_lt_of_le (hb i (by omega)) (Nat.pow_le_pow_right (n:=2) (by decide) this))];simp
     ·simp[e2]
    rw[h0,Bool.or_false]
    have e3:(m<64/\8 * j+m / 8<i) ↔ (m<64/\8 * j+m / 8<i+1):=by omega
    rw[decide_eq_decide.2 e3]
  ·rw[if_neg hj,ih]
   have e3:(m<64/\8 * j+m / 8<i) ↔ (m<64/\8 * j+m / 8<i+1):=by omega
   rw[decide_eq_decide.2 e3]
theorem word_lt (b:Nat->Nat) (n j:Nat) (hb:∀i,i<n->b i<256):wordN b n j<18446744073709551616:=
 Nat.lt_pow_two_of_testBit (n:=64) _ fun i hi=>by rw[word_bit b n j i hb,decide_eq_false (by omega)];rfl
def need (n:Nat):Nat:=1+(n+7) / 8
def packF (b:Nat->Nat) (n j:Nat):Nat:=if j=0 then n else wordN b n (j - 1)
def packI (b:Nat->Nat) (n i j:Nat):Nat:=if j=0 then n else wordN b i (j - 1)
theorem shift_ok (i:Nat) (hi:i<1000000) (w:World):Calls Tryz.prog 200 #[.int .i64 i] w fun e w'=>e = .returned (.int .i64 ((8 * (i % 8):Nat):Int))/\w'=w:=by
 go_enter Tryz.func200,Tryz.ntmps200
 go_wp2
 go_ret
 refine⟨?_,rfl⟩
 show Ending.returned (.int .i64 (8 * ((i:Int) % 8)))=_
 rw[show(8 * ((i:Int) % 8))=((8 * (i % 8):Nat):Int) by omega]
theorem wneed_ok (n:Nat) (hn:n<1000000) (w:World):Calls Tryz.prog 151 #[.int .i64 n] w fun e w'=>e = .returned (.int .i64 (need n:Nat))/\w'=w:=by
 by_cases h:n=0
 ·subst h
  go_enter Tryz.func151,Tryz.ntmps151
  go_wp2
  go_ret
  exact⟨rfl,rfl⟩
 ·have h':¬(n:Int)<1:=by omega
  go_enter Tryz.func151,Tryz.ntmps151
  go_wp2
  go_ret
  refine⟨?_,rfl⟩
  show Ending.returned (.int .i64 (2+((n:Int) - 1) / 8))=_
  rw[show(2+((n:Int) - 1) / 8)=(need n:Nat) by unfold need;omega]
theorem infoU:(Tryz.prog.info? 27).map (fun i=>(i.zero,i.size,i.bytes))=some (some (.int .u64 0),1,8):=by kernel_rfl
theorem infoB:(Tryz.prog.info? 5).map (fun i=>(i.zero,i.size,i.bytes))=some (some (.int .u8 0),1,1):=by kernel_rfl
theorem make_mem (k:IntKind) (w:World) (n:Nat) (t:TypeId):Mem k w w.heap.size n (fun _=>0) (w.alloc (.cells (madeCells #[.int k 0] n) t)):=by
 have h:=World.rowIs_made w (.int k 0) n t
 exact⟨fun i hi=>h.cell hi,h.frozen,(Below.refl _ w).alloc (Nat.le_refl _) _,Nat.le_refl _⟩
theorem make_u64s (n:Nat) (hn:n<=1000000) (w:World):∃w',(Instr.makeSlice 141 (.int .i64 (n:Int)) (.int .i64 (n:Int))).run Tryz.prog w = .ok (.slice (some ⟨w.heap.size,0,none⟩) n n) w'/\Mem .u64 w w.heap.size n (fun _=>0) w':=
 ⟨_,run_make_row' 141 27 (.int .u64 0) 8 Tryz.underlying141 infoU rfl .i64 .i64 n (by omega) (by omega) w,make_mem _ _ _ _⟩
theorem make_bytes (n:Nat) (hn:n<=1000000) (w:World):∃w',(Instr.makeSlice 89 (.int .i64 (n:Int)) (.int .i64 (n:Int))).run Tryz.prog w = .ok (.slice (some ⟨w.heap.size,0,none⟩) n n) w'/\Mem .u8 w w.heap.size n (fun _=>0) w':=
 ⟨_,run_make_row' 89 5 (.int .u8 0) 1 Tryz.underlying89 infoB rfl .i64 .i64 n (by omega) (by omega) w,make_mem _ _ _ _⟩
theorem shl_nat (y s:Nat) (hy:y<256) (hs:s<=56):y * 2 ^ s<18446744073709551616:=by
 have h:2 ^ s<=2 ^ 56:=Nat.pow_le_pow_right (by decide) hs
 have:=Nat.mul_le_mul (show y<=255 by omega) h
 omega
theorem shl_wrap (y s:Nat) (hy:y<256) (hs:s<=56):IntKind.u64.wrap ((y:Int) * 2 ^ s)=((y * 2 ^ s:Nat):Int):=by
 have h:=shl_nat y s hy hs
 have e:(y:Int) * 2 ^ s=((y * 2 ^ s:Nat):Int):=by rw[Int.natCast_mul,Int.natCast_pow];rfl
 rw[e,IntKind.wrap_u64]
 omega
theorem or_shl (q y s:Nat) (hq:q<18446744073709551616) (hy:y<256) (hs:s<=56):bits .or .u64 (q:Int) (IntKind.u64.wrap ((y:Int) * 2 ^ s))=((q ||| y * 2 ^ s:Nat):Int):=by
 rw[shl_wrap y s hy hs,u64_or_nat _ _ hq (shl_nat y s hy hs)]
set_option maxRecDepth 100000 in
theorem pack_ok (a:Option Addr) (len cap:Nat) (b:Nat->Nat) (w:World) (hN:Nats .u8 w a len b) (hb:∀i,i<len->b i<256) (hl:len<=100000) :
  Calls Tryz.prog 177 #[.slice a len cap] w fun e w'=>e = .returned (.slice (some ⟨w.heap.size,0,none⟩) (need len) (need len))/\Mem .u64 w w.heap.size (need len) (packF b len) w':=by
 have HN:=Hd hN
 have HB:=Hd hb
 have KS:=Hd shift_ok
 have KN:=Hd (wneed_ok len (by omega) w)
 obtain⟨w1,hm,hM⟩:=make_u64s (need len) (by unfold need;omega) w
 have HM:=Hd hM
 have c0:=hM.cell 0 (by unfold need;omega)
 have z0:=hM.fz 0
 have h0:0<need len:=by unfold need;omega
 have HNE:=Hd (show need len=1+(len+7) / 8 from rfl)
 have HF:=Hd (show ∀j,packI b len 0 j=if j=0 then len else 0 from fun j=>rfl)
 clear hN hb hM
 generalize need len=m at *
 go_enter Tryz.func177,Tryz.ntmps177
 go_wp2_with fail
 refine(uh KN).mono ?_
 rintro e w' ⟨rfl,h⟩;rw[h];clear h w'
 go_wp2_with fail
 go_loopw [17] (fun vi wr=>∃k:Nat,vi = .int .i64 k/\Hid (k<=len/\Mem .u64 w w.heap.size m (packI b len k) wr)) (fun vi wr=>len - (RowKit.intOf vi).toNat)
 case atStart=>exact⟨0,rfl,Hd ⟨Nat.zero_le _,((uh HM).set 0 len h0).ext fun i _=>(uh HF i).symm⟩⟩
 case round=>
  obtain⟨k,rfl,HI⟩:=hrel
  obtain⟨hk,hM⟩:=uh HI
  by_cases hlt:k<len
  ·have hlt':(k:Int)<len:=by omega
   obtain⟨xb,xo,rfl,c⟩:=(uh HN).on hM.bel k hlt
   have hby:=uh HB k hlt
   have hp:1+k / 8<m:=by have:=uh HNE;omega
   have c1:=hM.cell (1+k / 8) hp
   have z1:=hM.fz (1+k / 8)
   have KS1:=Hd (uh KS k (by omega))
   clear HI
   have HM1:=Hd hM
   clear hM
   have hq:packI b len k (1+k / 8)<18446744073709551616:=by
    unfold packI
    rw[if_neg (by omega)]
    exact word_lt _ _ _ fun i hi=>uh HB i (by omega)
   have HV:=Hd (show packI b len k (1+k / 8)=wordN b k (k / 8) by unfold packI;rw[if_neg (by omega)];simp)
   generalize hpq:packI b len k (1+k / 8)=q at *
   clear hpq
   generalize hbk:b k=y at *
   have HBK:=Hd hbk
   clear hbk
   go_wp2_with fail
   refine region_tailP 13 (by kernel_rfl) (by kernel_rfl) ?_
   simp only[List.take,List.drop]
   repeat (go_big_quiet_step (first | (go_at_call 200;exact Calls.quiet_of_same (uh KS1 _))))
   refine wpQuiet_nil ?_
   rintro _ ⟨nq,rfl⟩
   rw[or_shl q y (8 * (k % 8)) hq hby (by omega)]
   have HNX:=Hd (show ∀i,(if i=1+k / 8 then (q ||| y * 2 ^ (8 * (k % 8))) else packI b len k i)=packI b len (k+1) i by
    intro i
    have e1:=uh HV;have e2:=uh HBK
    unfold packI
    by_cases hi:i=0
    ·subst hi;rw[if_neg (by omega)];simp
    ·rw[if_neg hi,if_neg hi,word_succ]
     by_cases h2:i=1+k / 8
     ·rw[if_pos h2,if_pos (by omega),h2,e1,e2];simp
     ·rw[if_neg h2,if_neg (by omega)])
   have HM2:=Hd (((uh HM1).drewN nq).set (1+k / 8) (q ||| y * 2 ^ (8 * (k % 8))) hp)
   generalize (q ||| y * 2 ^ (8 * (k % 8)))=v at *
   generalize hwd:wr.drewN nq=wd at *
   have c2:wd.cell? ⟨w.heap.size,1+k / 8,none⟩=some (.int .u64 q):=by rw[<-hwd];exact c1
   have z2:wd.frozen? ⟨w.heap.size,1+k / 8,none⟩=false:=by rw[<-hwd];exact z1
   clear c1 z1 c hwd hm
   go_wp2
   go_roundw
   case rel=>exact⟨k+1,by go_num,Hd ⟨by omega,(uh HM2).ext fun i _=>uh HNX i⟩⟩
   case measure=>simp[RowKit.intOf];omega
  ·have hlt':¬(k:Int)<len:=by omega
   obtain rfl:k=len:=by omega
   clear HI
   have HM1:=Hd hM
   clear hM
   go_wp2
   go_ret
   exact⟨rfl,uh HM1⟩
abbrev vals (k:IntKind) (l:List Nat):List Value:=l.map fun n=>Value.int k (n:Nat)
def OwnL (k:IntKind) (t:TypeId) (w:World) (base:Nat) (v:Value) (l:List Nat):Prop:=w.ownsRow base t 1 v l.length (vals k l)
def rowL (f:Nat->Nat) (n:Nat):List Nat:=(List.range n).map f
theorem rowL_len (f:Nat->Nat) (n:Nat):(rowL f n).length=n:=by simp[rowL]
theorem rowL_get (f:Nat->Nat) (n i:Nat) (h:i<n):(rowL f n).getD i 0=f i:=by simp[rowL,h]
theorem OwnL.nil (k:IntKind) (t:TypeId) (w:World) (base:Nat):OwnL k t w base (.slice none 0 0) []:=World.ownsRow_nil _ _ _ _
theorem OwnL.empty (k:IntKind) (t:TypeId) (w:World):OwnL k t (w.alloc (.cells #[] t)) w.heap.size (.slice (some ⟨w.heap.size,0,none⟩) 0 0) []:=
 ⟨rfl,.inr ⟨w.heap.size,0,#[],rfl,Nat.le_refl _,heap_alloc_new w _,Nat.le_refl _,by unfold maxLen;omega,rfl,rfl⟩⟩
theorem OwnL.one (k:IntKind) (t:TypeId) (w:World) (x:Nat):OwnL k t (w.alloc (.cells #[.int k (x:Nat)] t)) w.heap.size (.slice (some ⟨w.heap.size,0,none⟩) 1 1) [x]:=
 ⟨rfl,.inr ⟨w.heap.size,1,#[.int k (x:Nat)],rfl,Nat.le_refl _,heap_alloc_new w _,Nat.le_refl _,by unfold maxLen;omega,rfl,rfl⟩⟩
theorem OwnL.below {k:IntKind} {t:TypeId} {w w':World} {base base':Nat} {v:Value} {l:List Nat} (h:OwnL k t w base v l) (b:Below base' w w') (hb:w.heap.size<=base'):OwnL k t w' base v l:=by
 refine⟨h.1,?_⟩
 rcases h.2 with hn | ⟨g,cap,cur,hv,hg,hgg,rest⟩
 ·exact .inl hn
 ·exact .inr ⟨g,cap,cur,hv,hg,(b.block g (Nat.lt_of_lt_of_le (Array.getElem?_eq_some_iff.1 hgg).1 hb)).trans hgg,rest⟩
theorem OwnL.drewN {k:IntKind} {t:TypeId} {w:World} {base:Nat} {v:Value} {l:List Nat} (h:OwnL k t w base v l) (n:Nat):OwnL k t (w.drewN n) base v l:=h
theorem OwnL.form {k:IntKind} {t:TypeId} {w:World} {base:Nat} {v:Value} {l:List Nat} (h:OwnL k t w base v l):(v = .slice none 0 0/\l = [])\/
  ∃g cap,v = .slice (some ⟨g,0,none⟩) l.length cap/\l.length<=cap/\base<=g/\g<w.heap.size/\(∀i,i<l.length->w.cell? ⟨g,i,none⟩=some (.int k (l.getD i 0:Nat)))/\∀i,w.frozen? ⟨g,i,none⟩=false:=by
 rcases h.2 with ⟨hv,hn⟩ | ⟨g,cap,cur,hv,hb,hg,hc,_,hs,hcur⟩
 ·exact .inl ⟨hv,List.length_eq_zero_iff.1 hn⟩
 ·refine .inr ⟨g,cap,hv,hc,hb,(Array.getElem?_eq_some_iff.1 hg).1,fun i hi=>?_,fun i=>?_⟩
  ·have h1:w.ownsRow base t 1 (.slice (some ⟨g,0,none⟩) l.length cap) l.length (vals k l):=hv▸h
   rw[h1.cellAt i (by omega)]
   simp[vals,hi]
  ·simp[World.frozen?,hg]
theorem OwnL.nats {k:IntKind} {t:TypeId} {w:World} {base:Nat} {v:Value} {l:List Nat} (h:OwnL k t w base v l):∃va cap,v = .slice va l.length cap/\l.length<=cap/\Nats k w va l.length (fun i=>l.getD i 0):=by
 rcases h.form with ⟨hv,hn⟩ | ⟨g,cap,hv,hc,_,_,hcell,_⟩
 ·subst hn;exact⟨none,0,hv,Nat.le_refl _,fun i hi=>by simp at hi⟩
 ·exact⟨some ⟨g,0,none⟩,cap,hv,hc,fun i hi=>⟨g,0,rfl,by rw[Nat.zero_add];exact hcell i hi⟩⟩
theorem OwnL.set {k:IntKind} {t:TypeId} {w:World} {base g n cap:Nat} {l:List Nat} (h:OwnL k t w base (.slice (some ⟨g,0,none⟩) n cap) l) (i x:Nat) :
  OwnL k t (w.setCell ⟨g,i,none⟩ (.int k (x:Nat))) base (.slice (some ⟨g,0,none⟩) n cap) (l.set i x):=by
 refine⟨by simp[vals],?_⟩
 rcases h.2 with ⟨hv,hn⟩ | ⟨g',cap',cur,hv,hb,hg,hc,hm,hs,hcur⟩
 ·cases hv
 ·injection hv with hv1 hv2 hv3
  injection hv1 with hv1
  injection hv1 with hv1
  subst hv1;subst hv2;subst hv3
  refine .inr ⟨g,cap,cur.setIfInBounds i (.int k (x:Nat)),by simp,hb,?_,by simpa using hc,hm,by simpa using hs,?_⟩
  ·simp[World.setCell,Array.getElem?_modify,hg]
  ·simp only[Nat.mul_one,List.length_set] at *
   rw[Array.toList_setIfInBounds,List.take_set,hcur]
   simp[vals,List.map_set]
structure More (k:IntKind) (t:TypeId) (w:World) (base:Nat) (v':Value) (l:List Nat) (w':World):Prop where
 own:OwnL k t w' base v' l
 bel:Below base w w'
theorem append_row {k:IntKind} {et st:TypeId} {bytes:Nat} (hinfo:(Tryz.prog.info? et).map (fun i=>(i.zero,i.size,i.bytes))=some (some (.int k 0),1,bytes)) (hbb:bytes<=8) (hun:Tryz.prog.underlying st=some (.slice et))
  {ops:Array Oper} {rest:List Oper} {o:Oper} {a:Act} {Q:Exit->Act->World->Prop} (w:World) (hgd:o.guard=none) (s x:Operand)
  (ho:o.op = .call { callee:=.builtin .append,args:=#[s,x],argTypes:=#[st,st] }) (base:Nat) (v:Value) (l:List Nat)
  (hs:a.eval s=v) (hown:OwnL k et w base v l) (xa:Option Addr) (xl xc:Nat) (f:Nat->Nat) (hx:a.eval x = .slice xa xl xc) (hxc:xa=none->xl=0/\xc=0) (hN:Nats k w xa xl f) (hl:l.length+xl<=1000000) (hbase:base<=w.heap.size)
  (h:∀v' w',More k et w base v' (l ++ rowL f xl) w'->wpList Tryz.prog ops Q rest (a.put o.dst v') w') :
  wpList Tryz.prog ops Q (o :: rest) a w:=by
 obtain⟨i,hi,hzz⟩:=Option.map_eq_some_iff.1 hinfo
 simp only[Prod.mk.injEq] at hzz
 obtain⟨hz,hsize,hby⟩:=hzz
 have own_lt:∀g,v.ownBlock=some g->base<=g:=fun g hg=>(hown.lt g hg).1
 cases xa with
 | none=>
  obtain⟨e1,e2⟩:=hxc rfl
  subst e1;subst e2
  refine wpList_append_own_none hgd s x st ho base et i 1 hun hi v _ _ hs hown hx ?_
  exact h _ _ ⟨by simpa [rowL] using hown,Below.refl _ _⟩
 | some ad=>
  refine wpList_append_own_at _ hgd s x st ho base et i (.int k 0) 1 bytes hun hi hz hsize hby rfl (by decide) v l.length _ hs hown ad xl xc (vals k (rowL f xl)) hx (by simp[rowL]) ?_ ?_ ?_ ?_ hbase ?_
  ·intro j u hu
   have hj:j<xl:=by have:=(List.getElem?_eq_some_iff.1 hu).1;simpa [rowL] using this
   obtain⟨xb,xo,e,c⟩:=hN j hj
   cases e
   have hadd:(⟨xb,xo,none⟩:Addr).add j=⟨xb,xo+j,none⟩:=by unfold Addr.add;split <;> simp_all
   rw[hadd,c,<-hu]
   simp[rowL,hj]
  ·intro u hu;simp at hu;obtain⟨_,_,rfl⟩:=hu;rfl
  ·unfold maxLen;omega
  ·have:(l.length+xl) * bytes<=1000000 * 8:=Nat.mul_le_mul hl hbb
   omega
  ·intro v' w' h1 h2 _ _
   refine h v' w' ⟨?_,(Below.refl base w).grown h2 hbase own_lt⟩
   have:OwnL k et w' base v' (l ++ rowL f xl):=by
    unfold OwnL
    rw[List.length_append,rowL_len,vals,List.map_append]
    exact h1
   exact this
theorem append_u8 {ops:Array Oper} {rest:List Oper} {o:Oper} {a:Act} {Q:Exit->Act->World->Prop} (w:World) (hgd:o.guard=none) (s x:Operand)
  (ho:o.op = .call { callee:=.builtin .append,args:=#[s,x],argTypes:=#[89,89] }) (base:Nat) (v:Value) (l:List Nat) (y:Nat)
  (hs:a.eval s=v) (hown:OwnL .u8 5 w base v l) (hx:a.eval x = .slice (some ⟨w.heap.size,0,none⟩) 1 1) (hl:l.length+1<=1000000) (hbase:base<=w.heap.size)
  (h:∀v' w',More .u8 5 w base v' (l ++ [y]) w'->wpList Tryz.prog ops Q rest (a.put o.dst v') w') :
  wpList Tryz.prog ops Q (o :: rest) a (w.alloc (.cells #[.int .u8 (y:Nat)] 5)):=by
 have b0:Below w.heap.size w (w.alloc (.cells #[.int .u8 (y:Nat)] 5)):=(Below.refl _ w).alloc (Nat.le_refl _) _
 refine append_row infoB (by decide) Tryz.underlying89 _ hgd s x ho base v l hs (hown.below b0 (Nat.le_refl _)) _ 1 1 (fun _=>y) hx (fun e=>by cases e) ?_ hl (by simp;omega) ?_
 ·intro i hi
  obtain rfl:i=0:=by omega
  refine⟨_,_,rfl,?_⟩
  simp
 ·intro v' w' hm
  exact h v' w' ⟨by simpa [rowL] using hm.own,(b0.mono hbase).trans hm.bel⟩
def byteF (v:Nat->Nat) (i:Nat):Nat:=v (1+i / 8) / 2 ^ (8 * (i % 8)) % 256
def over (v:Nat->Nat) (m n:Nat):Bool:=decide (0<n % 8) && decide (0<v (m - 1) / 2 ^ (8 * (n % 8)))
def unE (v:Nat->Nat) (m:Nat):Nat:=if m=0 then 4 else if 65536<v 0 then 3 else if m<need (v 0) then 4 else if need (v 0)<m\/over v m (v 0)=true then 3 else 0
theorem shr_nat (s k:Nat):(s:Int) / 2 ^ k=((s / 2 ^ k:Nat):Int):=by
 rw[Int.natCast_ediv,Int.natCast_pow];rfl
set_option maxRecDepth 100000 in
theorem filled_ok (a:Option Addr) (m cap:Nat) (v:Nat->Nat) (n:Nat) (w:World) (hN:Nats .u64 w a m v) (hn:n<=65536) (hm:0<m) (hmm:m<=100000) :
  Calls Tryz.prog 205 #[.slice a m cap,.int .i64 n] w fun e w'=>e = .returned (.bool (over v m n))/\∃q,w'=w.drewN q:=by
 obtain⟨xb,xo,rfl,c⟩:=hN (m - 1) (by omega)
 have KS:=Hd (shift_ok n (by omega))
 by_cases h:0<n % 8
 ·have h':(0:Int)<(n:Int) % 8:=by omega
  have hc:(m:Int) - 1=((m - 1:Nat):Int):=by omega
  have hlt:m - 1<m:=by omega
  have HO:=Hd (show over v m n=decide (0<v (m - 1) / 2 ^ (8 * (n % 8))) by unfold over;rw[decide_eq_true h];rfl)
  have hs:=shr_nat (v (m - 1)) (8 * (n % 8))
  clear hN
  generalize v (m - 1)=x at *
  generalize m - 1=j at *
  by_cases h2:0<x / 2 ^ (8 * (n % 8))
  ·have h2':(0:Int)<(x:Int) / 2 ^ (8 * (n % 8)):=by rw[hs];omega
   have HO:=Hd (show over v m n=true by rw[uh HO,decide_eq_true h2])
   clear hs h2
   go_enter Tryz.func205,Tryz.ntmps205
   go_wp2_with fail
   refine region_tailP 14 (by kernel_rfl) (by kernel_rfl) ?_
   simp only[List.take,List.drop]
   repeat (go_big_quiet_step (first | (go_at_call 200;exact Calls.quiet_of_same (uh KS _))))
   refine wpQuiet_nil ?_
   rintro _ ⟨nq,rfl⟩
   go_wp2
   go_ret
   exact⟨by rw[uh HO];rfl,nq,rfl⟩
  ·have h2':(x:Int) / 2 ^ (8 * (n % 8))=0:=by
    rw[hs,Nat.eq_zero_of_not_pos h2];rfl
   have HO:=Hd (show over v m n=false by rw[uh HO,decide_eq_false h2])
   clear hs h2
   go_enter Tryz.func205,Tryz.ntmps205
   go_wp2_with fail
   refine region_tailP 14 (by kernel_rfl) (by kernel_rfl) ?_
   simp only[List.take,List.drop]
   repeat (go_big_quiet_step (first | (go_at_call 200;exact Calls.quiet_of_same (uh KS _))))
   refine wpQuiet_nil ?_
   rintro _ ⟨nq,rfl⟩
   go_wp2
   go_ret
   exact⟨by rw[uh HO];rfl,nq,rfl⟩
 ·have h':(n:Int) % 8=0:=by omega
  have HO:=Hd (show over v m n=false by unfold over;rw[decide_eq_false h];rfl)
  clear hN c
  go_enter Tryz.func205,Tryz.ntmps205
  go_wp2_with fail
  refine region_tailP 14 (by kernel_rfl) (by kernel_rfl) ?_
  simp only[List.take,List.drop]
  repeat (go_big_quiet_step (fail))
  refine wpQuiet_nil ?_
  rintro _ ⟨nq,rfl⟩
  go_wp2
  go_ret
  exact⟨by rw[uh HO];rfl,nq,rfl⟩
set_option maxRecDepth 100000 in
theorem unpack_ok (a:Option Addr) (m cap:Nat) (v:Nat->Nat) (w:World) (hN:Nats .u64 w a m v) (hv:∀i,i<m->v i<18446744073709551616) (hm:m<=100000) :
  Calls Tryz.prog 182 #[.slice a m cap] w fun e w'=>Below w.heap.size w w'/\
   ((unE v m≠0/\e = .returned (.tuple #[.slice none 0 0,.int .i64 (unE v m:Nat)]))\/
    (unE v m=0/\∃g,e = .returned (.tuple #[.slice (some ⟨g,0,none⟩) (v 0) (v 0),.int .i64 0])/\Mem .u8 w g (v 0) (byteF v) w')):=by
 have HN:=Hd hN
 have KN:=Hd wneed_ok
 have KF:=Hd filled_ok
 by_cases h0:m=0
 ·subst h0
  clear hN hv
  go_enter Tryz.func182,Tryz.ntmps182
  go_wp2
  go_ret2
  exact⟨Below.refl _ _,.inl ⟨by simp[unE],rfl⟩⟩
 ·obtain⟨xb,xo,rfl,c⟩:=hN 0 (by omega)
  have hv0:=hv 0 (by omega)
  have hmi:¬(m:Int)=0:=by omega
  rw[Nat.add_zero] at c
  by_cases h1:65536<v 0
  ·have h1':(65536:Int)<(v 0:Nat):=by omega
   have HE:=Hd (show unE v m=3 by unfold unE;rw[if_neg h0,if_pos h1])
   clear hN hv
   generalize v 0=n at *
   go_enter Tryz.func182,Tryz.ntmps182
   go_wp2
   go_ret2
   exact⟨Below.refl _ _,.inl ⟨(by rw[uh HE];decide),(by rw[uh HE];rfl)⟩⟩
  ·have h1':¬(65536:Int)<(v 0:Nat):=by omega
   have hw:wrap64 (v 0:Nat)=(v 0:Nat):=by unfold wrap64;omega
   by_cases h2:m<need (v 0)
   ·have h2':(m:Int)<(need (v 0):Nat):=by omega
    have HE:=Hd (show unE v m=4 by unfold unE;rw[if_neg h0,if_neg h1,if_pos h2])
    clear hN hv
    generalize hn:v 0=n at *
    have HV:=Hd hn
    have KN1:=Hd (uh KN n (by omega) w)
    clear hn h2
    generalize need n=d at *
    go_enter Tryz.func182,Tryz.ntmps182
    go_wp2_with fail
    refine(uh KN1).mono ?_
    rintro e w' ⟨rfl,h⟩;rw[h];clear h w'
    go_wp2
    go_ret2
    exact⟨Below.refl _ _,.inl ⟨(by rw[uh HE];decide),(by rw[uh HE];rfl)⟩⟩
   ·have h2':¬(m:Int)<(need (v 0):Nat):=by omega
    by_cases h3:need (v 0)<m\/over v m (v 0)=true
    ·have HE:=Hd (show unE v m=3 by unfold unE;rw[if_neg h0,if_neg h1,if_neg h2,if_pos h3])
     have KF1:=Hd (uh KF (some ⟨xb,xo,none⟩) m cap v (v 0) w (uh HN) (by omega) (by omega) hm)
     have KN1:=Hd (uh KN (v 0) (by omega) w)
     clear hN hv
     by_cases h4:need (v 0)<m
     ·have h4':((need (v 0):Nat):Int)<m:=by omega
      clear h3
      generalize v 0=n at *
      clear h2 h4
      generalize need n=d at *
      go_enter Tryz.func182,Tryz.ntmps182
      go_wp2_with fail
      refine(uh KN1).mono ?_
      rintro e w' ⟨rfl,h⟩;rw[h];clear h w'
      go_wp2_with fail
      refine(uh KN1).mono ?_
      rintro e w' ⟨rfl,h⟩;rw[h];clear h w'
      go_wp2
      go_ret2
      exact⟨Below.refl _ _,.inl ⟨(by rw[uh HE];decide),(by rw[uh HE];rfl)⟩⟩
     ·have h4':¬((need (v 0):Nat):Int)<m:=by omega
      have ho:over v m (v 0)=true:=by rcases h3 with h | h;exact absurd h h4;exact h
      rw[ho] at KF1
      clear h3 ho
      generalize v 0=n at *
      clear h2 h4
      generalize need n=d at *
      go_enter Tryz.func182,Tryz.ntmps182
      go_wp2_with fail
      refine(uh KN1).mono ?_
      rintro e w' ⟨rfl,h⟩;rw[h];clear h w'
      go_wp2_with fail
      refine(uh KN1).mono ?_
      rintro e w' ⟨rfl,h⟩;rw[h];clear h w'
      go_wp2_with fail
      refine(uh KF1).mono ?_
      rintro e w' ⟨rfl,q,rfl⟩
      go_wp2
      go_ret2
      exact⟨Below.drewN' (Below.refl _ _) q,.inl ⟨(by rw[uh HE];decide),(by rw[uh HE];rfl)⟩⟩
    ·have HE:=Hd (show unE v m=0 by unfold unE;rw[if_neg h0,if_neg h1,if_neg h2,if_neg h3])
     have h4':¬((need (v 0):Nat):Int)<m:=by omega
     have ho:over v m (v 0)=false:=by
      cases h:over v m (v 0) with
      | true=>exact absurd (.inr h) h3
      | false=>rfl
     have KF1:=Hd (uh KF (some ⟨xb,xo,none⟩) m cap v (v 0) w (uh HN) (by omega) (by omega) hm)
     rw[ho] at KF1
     have KN1:=Hd (uh KN (v 0) (by omega) w)
     have hmn:m=need (v 0):=by omega
     have HMN:=Hd (show m=1+(v 0+7) / 8 from hmn)
     have HVV:=Hd hv
     have KS:=Hd shift_ok
     clear hN hv h3 ho h4' h2 h2'
     rw[<-hmn] at KN1
     clear hmn
     generalize hvn:v 0=n at *
     have HV:=Hd hvn
     clear hvn
     go_enter Tryz.func182,Tryz.ntmps182
     go_wp2_with fail
     refine(uh KN1).mono ?_
     rintro e w' ⟨rfl,h⟩;rw[h];clear h w'
     go_wp2_with fail
     refine(uh KN1).mono ?_
     rintro e w' ⟨rfl,h⟩;rw[h];clear h w'
     go_wp2_with fail
     refine(uh KF1).mono ?_
     rintro e w' ⟨rfl,nq,rfl⟩
     obtain⟨w1,hmk,hM⟩:=make_bytes n (by omega) (w.drewN nq)
     have HM:=Hd (hM.since (Below.drewN' (Below.refl w.heap.size w) nq))
     have hg:(w.drewN nq).heap.size=w.heap.size:=rfl
     rw[hg] at hmk HM
     clear hM c hg
     go_wp2_with fail
     go_loopw [37] (fun vi wr=>∃k:Nat,vi = .int .i64 k/\Hid (k<=n/\Mem .u8 w w.heap.size n (fun i=>if i<k then byteF v i else 0) wr)) (fun vi wr=>n - (RowKit.intOf vi).toNat)
     case atStart=>exact⟨0,rfl,Hd ⟨Nat.zero_le _,(uh HM).ext fun i _=>by simp⟩⟩
     case round=>
      obtain⟨k,rfl,HI⟩:=hrel
      obtain⟨hk,hM⟩:=uh HI
      by_cases hlt:k<n
      ·have hlt':(k:Int)<n:=by omega
       have hp:1+k / 8<m:=by have:=uh HMN;omega
       obtain⟨_,_,e1,c1⟩:=((uh HN).on hM.bel) (1+k / 8) hp
       cases e1
       have c2:=hM.cell k hlt
       rw[if_neg (by omega)] at c2
       have z2:=hM.fz k
       have KS1:=Hd (uh KS k (by omega))
       have hx:=uh HVV (1+k / 8) hp
       have HBF:=Hd (show v (1+k / 8) / 2 ^ (8 * (k % 8)) % 256=byteF v k from rfl)
       clear HI
       have HM1:=Hd hM
       clear hM
       generalize v (1+k / 8)=x at *
       have hst:=fun(w:World) (a:Addr) (x:Int) (m:Mode)=>run_store Tryz.prog w a (.int .u8 x) m rfl
       go_wp2_with fail
       refine region_tailP 13 (by kernel_rfl) (by kernel_rfl) ?_
       simp only[List.take,List.drop]
       repeat (go_big_quiet_step (first | (go_at_call 200;exact Calls.quiet_of_same (uh KS1 _))))
       refine wpQuiet_nil ?_
       rintro _ ⟨nr,rfl⟩
       have hval:((x:Int) / 2 ^ (8 * (k % 8))) % 256=((x / 2 ^ (8 * (k % 8)) % 256:Nat):Int):=by rw[shr_nat,Int.natCast_emod];rfl
       rw[hval]
       have HM2:=Hd (((uh HM1).drewN nr).set k (x / 2 ^ (8 * (k % 8)) % 256) hlt)
       generalize x / 2 ^ (8 * (k % 8)) % 256=y at *
       generalize hwd:wr.drewN nr=wd at *
       have c3:wd.cell? ⟨w.heap.size,k,none⟩=some (.int .u8 ((0:Nat):Int)):=by rw[<-hwd];exact c2
       have z3:wd.frozen? ⟨w.heap.size,k,none⟩=false:=by rw[<-hwd];exact z2
       clear c1 c2 z2 hwd hmk hval
       go_wp2
       go_roundw
       case rel=>
        refine⟨k+1,by go_num,Hd ⟨by omega,(uh HM2).ext fun i _=>?_⟩⟩
        by_cases hi:i=k
        ·rw[if_pos hi,if_pos (by omega),hi,uh HBF]
        ·rw[if_neg hi]
         by_cases h2:i<k
         ·rw[if_pos h2,if_pos (by omega)]
         ·rw[if_neg h2,if_neg (by omega)]
       case measure=>simp[RowKit.intOf];omega
      ·have hlt':¬(k:Int)<n:=by omega
       obtain rfl:k=n:=by omega
       clear HI
       have HM1:=Hd hM
       clear hM
       go_wp2
       go_ret2
       refine⟨(uh HM1).bel,.inr ⟨uh HE,w.heap.size,?_,?_⟩⟩
       ·rfl
       ·exact(uh HM1).ext fun i hi=>by rw[if_pos hi]
def strB (f:Nat->Nat) (n:Nat):ByteArray:=strOfNums ((rowL f n).map fun(x:Nat)=>(x:Int))
theorem strB_congr (f g:Nat->Nat) (n:Nat) (h:∀i,i<n->f i=g i):strB f n=strB g n:=by
 unfold strB rowL
 congr 2
 exact List.map_congr_left fun i hi=>h i (by simpa using hi)
theorem conv_str (w:World) (a:Option Addr) (len cap:Nat) (f:Nat->Nat) (hN:Nats .u8 w a len f) :
  (convert 89 9 (.slice a len cap)).run Tryz.prog w = .ok (.string (strB f len)) w:=by
 by_cases h:len=0
 ·subst h
  rw[run_convert_bytes_string w 89 9 5 _ 0 cap Tryz.underlying89 Tryz.underlying5 Tryz.underlying9]
  cases a <;> simp[Conv.bytesToString,loadCells,strB,rowL,strOfNums]
  all_goals rfl
 ·obtain⟨xb,xo,rfl,_⟩:=hN 0 (by omega)
  refine run_convert_bytes_arg (P:=Tryz.prog) w 89 5 Tryz.underlying89 Tryz.underlying5 xb xo len cap _ (by simp[rowL]) ?_ 9 Tryz.underlying9
  intro i hi
  obtain⟨_,_,e,c⟩:=hN i hi
  cases e
  rw[c]
  simp[rowL,hi]
theorem over_false (v:Nat->Nat) (n:Nat) (hv:v (need n - 1)<18446744073709551616) (h:∀i,n<=i->i<8 * (need n - 1)->byteF v i=0):over v (need n) n=false:=by
 unfold over
 by_cases h8:0<n % 8
 ·have hd:need n - 1=1+n / 8:=by unfold need;omega
  rw[decide_eq_true h8,Bool.true_and,decide_eq_false]
  rw[hd] at hv ⊢
  intro hp
  have:v (1+n / 8) / 2 ^ (8 * (n % 8))=0:=by
   apply Nat.eq_of_testBit_eq
   intro m
   rw[Nat.testBit_div_two_pow,Nat.zero_testBit]
   by_cases hm:m+8 * (n % 8)<64
   ·have hb:=h (8 * (n / 8)+(m+8 * (n % 8)) / 8) (by omega) (by rw[hd];omega)
    unfold byteF at hb
    rw[show 1+(8 * (n / 8)+(m+8 * (n % 8)) / 8) / 8=1+n / 8 by omega,show(8 * (n / 8)+(m+8 * (n % 8)) / 8) % 8=(m+8 * (n % 8)) / 8 by omega] at hb
    have h2:(v (1+n / 8) / 2 ^ (8 * ((m+8 * (n % 8)) / 8)) % 2 ^ 8).testBit ((m+8 * (n % 8)) % 8)=false:=by
     rw[show(2:Nat) ^ 8=256 from rfl,hb];simp
    rw[Nat.testBit_mod_two_pow,Nat.testBit_div_two_pow,decide_eq_true (by omega),Bool.true_and] at h2
    rw[<-h2];congr 1;omega
   ·exact Nat.testBit_lt_two_pow (Nat.lt_of_lt_of_le hv (Nat.pow_le_pow_right (n:=2) (by decide) (show 64<=m+8 * (n % 8) by omega)))
  omega
 ·rw[decide_eq_false h8];rfl
theorem byte_of (b:Nat->Nat) (n k:Nat) (hk:k<n) (hb:∀i,i<n->b i<256):wordN b n (k / 8) / 2 ^ (8 * (k % 8)) % 256=b k:=by
 apply Nat.eq_of_testBit_eq
 intro m
 rw[show(256:Nat)=2 ^ 8 from rfl,Nat.testBit_mod_two_pow,Nat.testBit_div_two_pow,word_bit _ _ _ _ hb]
 by_cases h:m<8
 ·rw[show 8 * (k / 8)+(m+8 * (k % 8)) / 8=k by omega,show(m+8 * (k % 8)) % 8=m by omega,decide_eq_true h,decide_eq_true (show m+8 * (k % 8)<64/\k<n by omega)]
  simp
 ·rw[Nat.testBit_lt_two_pow (Nat.lt_of_lt_of_le (hb k hk) (Nat.pow_le_pow_right (n:=2) (by decide) (show 8<=m by omega)))]
  simp[h]
theorem pack_back (b:Nat->Nat) (n:Nat) (hb:∀i,i<n->b i<256) (hn:n<=60000):unE (packF b n) (need n)=0/\packF b n 0=n/\∀i,i<n->byteF (packF b n) i=b i:=by
 have h0:packF b n 0=n:=rfl
 have hB:∀i,i<n->byteF (packF b n) i=b i:=by
  intro i hi
  unfold byteF
  rw[show packF b n (1+i / 8)=wordN b n (i / 8) by unfold packF;rw[if_neg (by omega),show 1+i / 8 - 1=i / 8 by omega]]
  exact byte_of b n i hi hb
 refine⟨?_,h0,hB⟩
 have ho:over (packF b n) (need n) n=false:=by
  refine over_false _ n ?_ ?_
  ·unfold packF;split
   ·omega
   ·exact word_lt _ _ _ hb
  ·intro i h1 h2
   unfold byteF
   rw[show packF b n (1+i / 8)=wordN b n (i / 8) by unfold packF;rw[if_neg (by omega),show 1+i / 8 - 1=i / 8 by omega]]
   apply Nat.eq_of_testBit_eq
   intro m
   rw[show(256:Nat)=2 ^ 8 from rfl,Nat.testBit_mod_two_pow,Nat.testBit_div_two_pow,word_bit _ _ _ _ hb,Nat.zero_testBit]
   by_cases hm:m<8
   ·rw[decide_eq_false (show ¬(m+8 * (i % 8)<64/\8 * (i / 8)+(m+8 * (i % 8)) / 8<n) by omega)];simp
   ·simp[hm]
 unfold unE
 rw[h0,if_neg (by unfold need;omega),if_neg (by omega),if_neg (by omega),if_neg]
 rintro(h | h)
 ·omega
 ·rw[ho] at h;cases h
theorem pack_lt (b:Nat->Nat) (n j:Nat) (hb:∀i,i<n->b i<256) (hn:n<=60000):packF b n j<18446744073709551616:=by
 unfold packF;split
 ·omega
 ·exact word_lt _ _ _ hb
def uvN (x:Nat):List Nat:=if x<128 then [x] else (x % 128+128) :: uvN (x / 128)
theorem uv_lo (x:Nat) (h:x<128):uvN x = [x]:=by unfold uvN;rw[if_pos h]
theorem uv_hi (x:Nat) (h:¬x<128):uvN x=(x % 128+128) :: uvN (x / 128):=by rw[uvN,if_neg h]
theorem uv_len (n:Nat):∀x,x<128 ^ (n+1)->(uvN x).length<=n+1:=by
 induction n with
 | zero=>intro x hx;rw[uv_lo x (by simpa using hx)];simp
 | succ n ih=>
  intro x hx
  by_cases h:x<128
  ·rw[uv_lo x h];simp
  ·rw[uv_hi x h]
   have:=ih (x / 128) (Nat.div_lt_of_lt_mul (by rw[Nat.pow_succ] at hx;omega))
   simp;omega
set_option maxRecDepth 100000 in
theorem or128 (x:Nat):bits .or .u8 ((x:Int) % 256) 128=((x % 128+128:Nat):Int):=by
 have e:(x:Int) % 256=((x % 256:Nat):Int):=by omega
 rw[e,show(128:Int)=((128:Nat):Int) from rfl,u8_or_nat _ 128 (Nat.mod_lt _ (by decide)) (by decide)]
 have:∀y:Fin 256,y.val ||| 128=y.val % 128+128:=by decide
 have h:=this ⟨x % 256,Nat.mod_lt _ (by decide)⟩
 rw[show x % 256 ||| 128=x % 256 % 128+128 from h]
 omega
set_option maxRecDepth 100000 in
theorem number_ok (v:Value) (l:List Nat) (x:Nat) (w:World) (base:Nat) (hbase:base<=w.heap.size) (hO:OwnL .u8 5 w base v l) (hl:l.length<=900000) (hx:x<18446744073709551616) :
  Calls Tryz.prog 208 #[v,.int .u64 x] w fun e w'=>∃v',e = .returned v'/\More .u8 5 w base v' (l ++ uvN x) w':=by
 have HO:=Hd hO
 have HU:=Hd (uv_len 9 x (by omega))
 clear hO
 go_enter Tryz.func208,Tryz.ntmps208
 go_wp2
 go_loopw [0,1] (fun v vx wr=>∃(t:Nat) (l':List Nat),vx = .int .u64 t/\t<18446744073709551616/\Hid (l' ++ uvN t=uvN x)/\Hid (OwnL .u8 5 wr base v (l ++ l'))/\Hid (Below base w wr)) (fun v vx wr=>(RowKit.intOf vx).toNat)
 case atStart=>exact⟨x,[],rfl,hx,Hd rfl,Hd (by rw[List.append_nil];exact uh HO),Hd (Below.refl _ _)⟩
 case round=>
  obtain⟨t,l',rfl,ht,HT,HO1,HB⟩:=hrel
  by_cases h:t<128
  ·have h':¬(128:Int)<=t:=by omega
   have hbs:base<=wr.heap.size:=by have:=(uh HB).size;omega
   have e256:(t:Int) % 256=t:=by omega
   go_wp2_with (at_builtin;refine append_u8 wr rfl (.tmp 15) (.tmp 18) rfl base _ (l ++ l') t rfl (uh HO1) rfl ?len hbs ?_)
   case len=>
    have h1:=uh HT;have h2:=uh HU
    rw[<-h1] at h2;simp at h2 ⊢;omega
   intro v' w2 hP
   have HP:=Hd hP
   clear hP
   go_wp2
   go_ret
   refine⟨_,rfl,?_,(uh HB).trans (uh HP).bel⟩
   rw[<-uh HT,uv_lo t h];exact(uh HP).own
  ·have h':(128:Int)<=t:=by omega
   have hbs:base<=wr.heap.size:=by have:=(uh HB).size;omega
   have E:=or128 t
   generalize hy:t % 128+128=y at *
   have HY:=Hd hy
   clear hy
   go_wp2_with (at_builtin;refine append_u8 wr rfl (.tmp 7) (.tmp 11) rfl base _ (l ++ l') y rfl (uh HO1) rfl ?len hbs ?_)
   case len=>
    have h1:=uh HT;have h2:=uh HU
    rw[<-h1] at h2;simp at h2 ⊢;omega
   intro v' w2 hP
   have HP:=Hd hP
   clear hP
   go_wp2
   go_roundw
   case rel=>
    refine⟨t / 128,l' ++ [y],by simp,by omega,Hd ?_,Hd ?_,Hd ((uh HB).trans (uh HP).bel)⟩
    ·rw[<-uh HT,uv_hi t h,uh HY];simp
    ·exact(uh HP).own
   case measure=>simp[RowKit.intOf];omega
def PartsAt (w:World) (a:Option Addr) (len:Nat) (A:Nat->Option Addr) (L C:Nat->Nat) (Z:Nat->Nat->Nat):Prop:=
 ∀k,k<len->(∃xb xo,a=some ⟨xb,xo,none⟩/\w.cell? ⟨xb,xo+k,none⟩=some (.slice (A k) (L k) (C k)))/\Nats .u8 w (A k) (L k) (Z k)/\(∀i,i<L k->Z k i<256)/\(A k=none->L k=0/\C k=0)
theorem PartsAt.on {w w':World} {a:Option Addr} {len:Nat} {A:Nat->Option Addr} {L C:Nat->Nat} {Z:Nat->Nat->Nat} (h:PartsAt w a len A L C Z) (b:Below w.heap.size w w'):PartsAt w' a len A L C Z:=by
 intro k hk
 obtain⟨⟨xb,xo,e,c⟩,hN,hb,hn⟩:=h k hk
 exact⟨⟨xb,xo,e,(b.cell (World.block_lt_of_cell? w _ c)).trans c⟩,hN.on b,hb,hn⟩
def partL (L:Nat->Nat) (Z:Nat->Nat->Nat) (i:Nat):List Nat:=uvN (L i) ++ rowL (Z i) (L i)
def joinL (L:Nat->Nat) (Z:Nat->Nat->Nat):Nat->List Nat
 | 0=>[]
 | i+1=>joinL L Z i ++ partL L Z i
def ul (n:Nat):Nat:=if n<128 then 1 else 2
def offL (L:Nat->Nat):Nat->Nat
 | 0=>0
 | i+1=>offL L i+(ul (L i)+L i)
theorem ul_pos (n:Nat):1<=ul n/\ul n<=2:=by unfold ul;split <;> omega
theorem uv_two (n:Nat) (h1:¬n<128) (h2:n<16384):uvN n = [n % 128+128,n / 128]:=by rw[uv_hi n h1,uv_lo _ (by omega)]
theorem uv_ul (n:Nat) (h:n<16384):(uvN n).length=ul n:=by
 unfold ul
 split
 ·rename_i h1;rw[uv_lo n h1];rfl
 ·rename_i h1;rw[uv_two n h1 h];rfl
theorem join_len (L:Nat->Nat) (Z:Nat->Nat->Nat) (n:Nat) (hL:∀i,i<n->L i<16384):(joinL L Z n).length=offL L n:=by
 induction n with
 | zero=>rfl
 | succ n ih=>simp[joinL,offL,partL,ih (fun i hi=>hL i (by omega)),uv_ul _ (hL n (by omega)),rowL_len]
theorem off_lt (L:Nat->Nat) (i j:Nat) (h:i<j):offL L i<offL L j:=by
 induction j with
 | zero=>omega
 | succ j ih=>
  have:=(ul_pos (L j)).1
  show offL L i<offL L j+(ul (L j)+L j)
  by_cases e:i=j
  ·subst e;omega
  ·have:=ih (by omega);omega
theorem join_part (L:Nat->Nat) (Z:Nat->Nat->Nat) (n i:Nat) (h:i<n):∃rest,joinL L Z n=joinL L Z i ++ (partL L Z i ++ rest):=by
 induction n with
 | zero=>omega
 | succ n ih=>
  by_cases e:i=n
  ·subst e;exact⟨[],by simp[joinL]⟩
  ·obtain⟨rest,hr⟩:=ih (by omega)
   exact⟨rest ++ partL L Z n,by rw[joinL,hr];simp⟩
def joinF (L:Nat->Nat) (Z:Nat->Nat->Nat) (n:Nat) (t:Nat):Nat:=(joinL L Z n).getD t 0
theorem joinF_at (L:Nat->Nat) (Z:Nat->Nat->Nat) (n i:Nat) (h:i<n) (hL:∀i,i<n->L i<16384) :
  (L i<128->joinF L Z n (offL L i)=L i)/\(¬L i<128->joinF L Z n (offL L i)=L i % 128+128/\joinF L Z n (offL L i+1)=L i / 128):=by
 obtain⟨rest,hr⟩:=join_part L Z n i h
 have hl:=join_len L Z i (fun j hj=>hL j (by omega))
 unfold joinF
 rw[hr]
 constructor
 ·intro h1
  rw[List.getD_eq_getElem?_getD,List.getElem?_append_right (by omega),hl,Nat.sub_self,partL,uv_lo _ h1]
  simp
 ·intro h1
  constructor
  ·rw[List.getD_eq_getElem?_getD,List.getElem?_append_right (by omega),hl,Nat.sub_self,partL,uv_two _ h1 (hL i h)]
   simp
  ·rw[List.getD_eq_getElem?_getD,List.getElem?_append_right (by omega),hl,show offL L i+1 - offL L i=1 by omega,partL,uv_two _ h1 (hL i h)]
   simp
theorem uv_lt (n:Nat) (h:n<16384):∀x∈uvN n,x<256:=by
 by_cases h1:n<128
 ·rw[uv_lo n h1];simp;omega
 ·rw[uv_two n h1 h];simp;omega
theorem join_lt (L:Nat->Nat) (Z:Nat->Nat->Nat) (n:Nat) (hL:∀i,i<n->L i<16384) (hZ:∀i,i<n->∀t,t<L i->Z i t<256):∀x∈joinL L Z n,x<256:=by
 induction n with
 | zero=>intro x hx;cases hx
 | succ n ih=>
  intro x hx
  rw[joinL,partL] at hx
  rcases List.mem_append.1 hx with h | h
  ·exact ih (fun i hi=>hL i (by omega)) (fun i hi=>hZ i (by omega)) x h
  ·rcases List.mem_append.1 h with h | h
   ·exact uv_lt _ (hL n (by omega)) x h
   ·simp[rowL] at h
    obtain⟨t,ht,rfl⟩:=h
    exact hZ n (by omega) t ht
theorem joinF_lt (L:Nat->Nat) (Z:Nat->Nat->Nat) (n t:Nat) (hL:∀i,i<n->L i<16384) (hZ:∀i,i<n->∀t,t<L i->Z i t<256):joinF L Z n t<256:=by
 unfold joinF
 rw[List.getD_eq_getElem?_getD]
 cases h:(joinL L Z n)[t]? with
 | none=>simp
 | some x=>exact join_lt L Z n hL hZ x (List.mem_of_getElem? h)
set_option maxRecDepth 100000 in
theorem join_ok (a:Option Addr) (len cap:Nat) (A:Nat->Option Addr) (L C:Nat->Nat) (Z:Nat->Nat->Nat) (w:World) (hP:PartsAt w a len A L C Z) (hl:len<=200) (hL:∀i,i<len->L i<=3000) :
  Calls Tryz.prog 198 #[.slice a len cap] w fun e w'=>∃v,e = .returned v/\More .u8 5 w w.heap.size v (joinL L Z len) w':=by
 have HP:=Hd hP
 have HL:=Hd hL
 have KN:=Hd number_ok
 have HLen:=Hd (show ∀k,k<=len->(joinL L Z k).length<=3010 * k by
  intro k hk
  rw[join_len L Z k (fun i hi=>by have:=hL i (by omega);omega)]
  induction k with
  | zero=>exact Nat.le_refl _
  | succ k ih=>
   have h1:=ih (by omega)
   have h2:=hL k (by omega)
   have h3:=(ul_pos (L k)).2
   unfold offL;omega)
 clear hP hL
 go_enter Tryz.func198,Tryz.ntmps198
 go_wp2_with fail
 go_loopw [3,8] (fun v vi wr=>∃k:Nat,vi = .int .i64 k/\Hid (k<=len)/\Hid (OwnL .u8 5 wr w.heap.size v (joinL L Z k))/\Hid (Below w.heap.size w wr)) (fun v vi wr=>len - (RowKit.intOf vi).toNat)
 case atStart=>exact⟨0,rfl,Hd (Nat.zero_le _),Hd (OwnL.nil _ _ _ _),Hd (Below.refl _ _)⟩
 case round=>
  obtain⟨k,rfl,HK,HO,HB⟩:=hrel
  by_cases hlt:k<len
  ·have hlt':(k:Int)<len:=by omega
   obtain⟨⟨xb,xo,rfl,c⟩,hN,_,hnil⟩:=(uh HP).on (uh HB) k hlt
   have HNF:=Hd (show ∀w2,Below w.heap.size w w2->Nats .u8 w2 (A k) (L k) (Z k) from fun w2 h=>((uh HP).on h k hlt).2.1)
   have HNI:=Hd hnil
   have hlk:=uh HL k hlt
   have HJ:=Hd (show joinL L Z (k+1)=joinL L Z k ++ (uvN (L k) ++ rowL (Z k) (L k)) from rfl)
   have HJL:=uh HLen k (uh HK)
   have HUL:=Hd (uv_len 9 (L k) (by omega))
   have KN1:=Hd (uh KN _ (joinL L Z k) (L k) wr w.heap.size (uh HB).size (uh HO) (by omega) (by omega))
   clear hN hnil
   generalize A k=ak at *
   generalize C k=ck at *
   generalize L k=lk at *
   generalize Z k=zk at *
   generalize joinL L Z k=J at *
   go_wp2_with fail
   refine(uh KN1).mono ?_
   rintro e w2 ⟨v2,rfl,hM⟩
   have HB2:=Hd ((uh HB).trans hM.bel)
   have HO2:=Hd hM.own
   have hbs:w.heap.size<=w2.heap.size:=(uh HB2).size
   clear hM
   go_wp2_with (at_builtin;refine append_row infoB (by decide) Tryz.underlying89 w2 rfl (.tmp 17) (.tmp 18) rfl w.heap.size _ (J ++ uvN lk) rfl (uh HO2) ak lk ck zk rfl (uh HNI) (uh HNF w2 (uh HB2)) ?len hbs ?_)
   case len=>
    have:=uh HUL
    simp only[List.length_append]
    omega
   intro v3 w3 hM
   have HM:=Hd hM
   clear hM
   go_wp2
   go_roundw
   case rel=>
    refine⟨k+1,by go_num,Hd hlt,Hd ?_,Hd ((uh HB2).trans (uh HM).bel)⟩
    have:=(uh HM).own
    rw[uh HJ]
    simpa using this
   case measure=>simp[RowKit.intOf];omega
  ·have hlt':¬(k:Int)<len:=by omega
   obtain rfl:k=len:=by have:=uh HK;omega
   go_wp2
   go_ret
   exact⟨_,rfl,uh HO,uh HB⟩
end Go.Proofs.YtbiopjmpdhcjgaaGreatDoor
