/- Joined: Up Pq Wa Wb GBud. -/
import Derived.Laws.CopyOwn
import Derived.Test.YtbiopjmpdhcjgaaGreatDoorZ00
import Derived.Test.YtbiopjmpdhcjgaaGreatDoorZ04
namespace Go.Proofs.YtbiopjmpdhcjgaaGreatDoor
open Go.RowKit
set_option maxHeartbeats 4000000
def byteF (v:Nat->Nat) (i:Nat):Nat:=v (1+i / 8) / 2 ^ (8 * (i % 8)) % 256
def over (v:Nat->Nat) (m n:Nat):Bool:=decide (0<n % 8) && decide (0<v (m - 1) / 2 ^ (8 * (n % 8)))
def unE (v:Nat->Nat) (m:Nat):Nat:=if m=0 then 4 else if 65536<v 0 then 3 else if m<need (v 0) then 4 else if need (v 0)<m\/over v m (v 0)=true then 3 else 0
theorem shr_nat (s k:Nat):(s:Int) / 2 ^ k=((s / 2 ^ k:Nat):Int):=by
 rw[Int.natCast_ediv,Int.natCast_pow];rfl
set_option maxRecDepth 100000 in
theorem filled_ok (a:Option Addr) (m cap:Nat) (v:Nat->Nat) (n:Nat) (w:World) (hN:Nats .u64 w a m v) (hn:n<=65536) (hm:0<m) (hmm:m<=100000) :
  Calls Tryz.prog 205 #[.slice a m cap,.int .i64 n] w fun e w'=>e = .returned (.bool (over v m n))/\∃q,w'=w.drewN q:=by
 obtain⟨xb,xo,rfl,c⟩:=hN (m - 1) (by omega)
 have KS:=Hd (shift_ok n (by omega))
 by_cases h:0<n % 8
 ·have h':(0:Int)<(n:Int) % 8:=by omega
  have hc:(m:Int) - 1=((m - 1:Nat):Int):=by omega
  have hlt:m - 1<m:=by omega
  have HO:=Hd (show over v m n=decide (0<v (m - 1) / 2 ^ (8 * (n % 8))) by unfold over;rw[decide_eq_true h];rfl)
  have hs:=shr_nat (v (m - 1)) (8 * (n % 8))
  clear hN
  generalize v (m - 1)=x at *
  generalize m - 1=j at *
  by_cases h2:0<x / 2 ^ (8 * (n % 8))
  ·have h2':(0:Int)<(x:Int) / 2 ^ (8 * (n % 8)):=by rw[hs];omega
   have HO:=Hd (show over v m n=true by rw[uh HO,decide_eq_true h2])
   clear hs h2
   go_enter Tryz.func205,Tryz.ntmps205
   go_wp2_with fail
   refine region_tailP 14 (by kernel_rfl) (by kernel_rfl) ?_
   simp only[List.take,List.drop]
   repeat (go_big_quiet_step (first | (go_at_call 200;exact Calls.quiet_of_same (uh KS _))))
   refine wpQuiet_nil ?_
   rintro _ ⟨nq,rfl⟩
   go_wp2
   go_ret
   exact⟨by rw[uh HO];rfl,nq,rfl⟩
  ·have h2':(x:Int) / 2 ^ (8 * (n % 8))=0:=by
    rw[hs,Nat.eq_zero_of_not_pos h2];rfl
   have HO:=Hd (show over v m n=false by rw[uh HO,decide_eq_false h2])
   clear hs h2
   go_enter Tryz.func205,Tryz.ntmps205
   go_wp2_with fail
   refine region_tailP 14 (by kernel_rfl) (by kernel_rfl) ?_
   simp only[List.take,List.drop]
   repeat (go_big_quiet_step (first | (go_at_call 200;exact Calls.quiet_of_same (uh KS _))))
   refine wpQuiet_nil ?_
   rintro _ ⟨nq,rfl⟩
   go_wp2
   go_ret
   exact⟨by rw[uh HO];rfl,nq,rfl⟩
 ·have h':(n:Int) % 8=0:=by omega
  have HO:=Hd (show over v m n=false by unfold over;rw[decide_eq_false h];rfl)
  clear hN c
  go_enter Tryz.func205,Tryz.ntmps205
  go_wp2_with fail
  refine region_tailP 14 (by kernel_rfl) (by kernel_rfl) ?_
  simp only[List.take,List.drop]
  repeat (go_big_quiet_step (fail))
  refine wpQuiet_nil ?_
  rintro _ ⟨nq,rfl⟩
  go_wp2
  go_ret
  exact⟨by rw[uh HO];rfl,nq,rfl⟩
set_option maxRecDepth 100000 in
theorem unpack_ok (a:Option Addr) (m cap:Nat) (v:Nat->Nat) (w:World) (hN:Nats .u64 w a m v) (hv:∀i,i<m->v i<18446744073709551616) (hm:m<=100000) :
  Calls Tryz.prog 182 #[.slice a m cap] w fun e w'=>Below w.heap.size w w'/\
   ((unE v m≠0/\e = .returned (.tuple #[.slice none 0 0,.int .i64 (unE v m:Nat)]))\/
    (unE v m=0/\∃g,e = .returned (.tuple #[.slice (some ⟨g,0,none⟩) (v 0) (v 0),.int .i64 0])/\Mem .u8 w g (v 0) (byteF v) w')):=by
 have HN:=Hd hN
 have KN:=Hd wneed_ok
 have KF:=Hd filled_ok
 by_cases h0:m=0
 ·subst h0
  clear hN hv
  go_enter Tryz.func182,Tryz.ntmps182
  go_wp2
  go_ret2
  exact⟨Below.refl _ _,.inl ⟨by simp[unE],rfl⟩⟩
 ·obtain⟨xb,xo,rfl,c⟩:=hN 0 (by omega)
  have hv0:=hv 0 (by omega)
  have hmi:¬(m:Int)=0:=by omega
  rw[Nat.add_zero] at c
  by_cases h1:65536<v 0
  ·have h1':(65536:Int)<(v 0:Nat):=by omega
   have HE:=Hd (show unE v m=3 by unfold unE;rw[if_neg h0,if_pos h1])
   clear hN hv
   generalize v 0=n at *
   go_enter Tryz.func182,Tryz.ntmps182
   go_wp2
   go_ret2
   exact⟨Below.refl _ _,.inl ⟨(by rw[uh HE];decide),(by rw[uh HE];rfl)⟩⟩
  ·have h1':¬(65536:Int)<(v 0:Nat):=by omega
   have hw:wrap64 (v 0:Nat)=(v 0:Nat):=by unfold wrap64;omega
   by_cases h2:m<need (v 0)
   ·have h2':(m:Int)<(need (v 0):Nat):=by omega
    have HE:=Hd (show unE v m=4 by unfold unE;rw[if_neg h0,if_neg h1,if_pos h2])
    clear hN hv
    generalize hn:v 0=n at *
    have HV:=Hd hn
    have KN1:=Hd (uh KN n (by omega) w)
    clear hn h2
    generalize need n=d at *
    go_enter Tryz.func182,Tryz.ntmps182
    go_wp2_with fail
    refine(uh KN1).mono ?_
    rintro e w' ⟨rfl,h⟩;rw[h];clear h w'
    go_wp2
    go_ret2
    exact⟨Below.refl _ _,.inl ⟨(by rw[uh HE];decide),(by rw[uh HE];rfl)⟩⟩
   ·have h2':¬(m:Int)<(need (v 0):Nat):=by omega
    by_cases h3:need (v 0)<m\/over v m (v 0)=true
    ·have HE:=Hd (show unE v m=3 by unfold unE;rw[if_neg h0,if_neg h1,if_neg h2,if_pos h3])
     have KF1:=Hd (uh KF (some ⟨xb,xo,none⟩) m cap v (v 0) w (uh HN) (by omega) (by omega) hm)
     have KN1:=Hd (uh KN (v 0) (by omega) w)
     clear hN hv
     by_cases h4:need (v 0)<m
     ·have h4':((need (v 0):Nat):Int)<m:=by omega
      clear h3
      generalize v 0=n at *
      clear h2 h4
      generalize need n=d at *
      go_enter Tryz.func182,Tryz.ntmps182
      go_wp2_with fail
      refine(uh KN1).mono ?_
      rintro e w' ⟨rfl,h⟩;rw[h];clear h w'
      go_wp2_with fail
      refine(uh KN1).mono ?_
      rintro e w' ⟨rfl,h⟩;rw[h];clear h w'
      go_wp2
      go_ret2
      exact⟨Below.refl _ _,.inl ⟨(by rw[uh HE];decide),(by rw[uh HE];rfl)⟩⟩
     ·have h4':¬((need (v 0):Nat):Int)<m:=by omega
      have ho:over v m (v 0)=true:=by rcases h3 with h | h;exact absurd h h4;exact h
      rw[ho] at KF1
      clear h3 ho
      generalize v 0=n at *
      clear h2 h4
      generalize need n=d at *
      go_enter Tryz.func182,Tryz.ntmps182
      go_wp2_with fail
      refine(uh KN1).mono ?_
      rintro e w' ⟨rfl,h⟩;rw[h];clear h w'
      go_wp2_with fail
      refine(uh KN1).mono ?_
      rintro e w' ⟨rfl,h⟩;rw[h];clear h w'
      go_wp2_with fail
      refine(uh KF1).mono ?_
      rintro e w' ⟨rfl,q,rfl⟩
      go_wp2
      go_ret2
      exact⟨Below.drewN' (Below.refl _ _) q,.inl ⟨(by rw[uh HE];decide),(by rw[uh HE];rfl)⟩⟩
    ·have HE:=Hd (show unE v m=0 by unfold unE;rw[if_neg h0,if_neg h1,if_neg h2,if_neg h3])
     have h4':¬((need (v 0):Nat):Int)<m:=by omega
     have ho:over v m (v 0)=false:=by
      cases h:over v m (v 0) with
      | true=>exact absurd (.inr h) h3
      | false=>rfl
     have KF1:=Hd (uh KF (some ⟨xb,xo,none⟩) m cap v (v 0) w (uh HN) (by omega) (by omega) hm)
     rw[ho] at KF1
     have KN1:=Hd (uh KN (v 0) (by omega) w)
     have hmn:m=need (v 0):=by omega
     have HMN:=Hd (show m=1+(v 0+7) / 8 from hmn)
     have HVV:=Hd hv
     have KS:=Hd shift_ok
     clear hN hv h3 ho h4' h2 h2'
     rw[<-hmn] at KN1
     clear hmn
     generalize hvn:v 0=n at *
     have HV:=Hd hvn
     clear hvn
     go_enter Tryz.func182,Tryz.ntmps182
     go_wp2_with fail
     refine(uh KN1).mono ?_
     rintro e w' ⟨rfl,h⟩;rw[h];clear h w'
     go_wp2_with fail
     refine(uh KN1).mono ?_
     rintro e w' ⟨rfl,h⟩;rw[h];clear h w'
     go_wp2_with fail
     refine(uh KF1).mono ?_
     rintro e w' ⟨rfl,nq,rfl⟩
     obtain⟨w1,hmk,hM⟩:=make_bytes n (by omega) (w.drewN nq)
     have HM:=Hd (hM.since (Below.drewN' (Below.refl w.heap.size w) nq))
     have hg:(w.drewN nq).heap.size=w.heap.size:=rfl
     rw[hg] at hmk HM
     clear hM c hg
     go_wp2_with fail
     go_loopw [37] (fun vi wr=>∃k:Nat,vi = .int .i64 k/\Hid (k<=n/\Mem .u8 w w.heap.size n (fun i=>if i<k then byteF v i else 0) wr)) (fun vi wr=>n - (RowKit.intOf vi).toNat)
     case atStart=>exact⟨0,rfl,Hd ⟨Nat.zero_le _,(uh HM).ext fun i _=>by simp⟩⟩
     case round=>
      obtain⟨k,rfl,HI⟩:=hrel
      obtain⟨hk,hM⟩:=uh HI
      by_cases hlt:k<n
      ·have hlt':(k:Int)<n:=by omega
       have hp:1+k / 8<m:=by have:=uh HMN;omega
       obtain⟨_,_,e1,c1⟩:=((uh HN).on hM.bel) (1+k / 8) hp
       cases e1
       have c2:=hM.cell k hlt
       rw[if_neg (by omega)] at c2
       have z2:=hM.fz k
       have KS1:=Hd (uh KS k (by omega))
       have hx:=uh HVV (1+k / 8) hp
       have HBF:=Hd (show v (1+k / 8) / 2 ^ (8 * (k % 8)) % 256=byteF v k from rfl)
       clear HI
       have HM1:=Hd hM
       clear hM
       generalize v (1+k / 8)=x at *
       have hst:=fun(w:World) (a:Addr) (x:Int) (m:Mode)=>run_store Tryz.prog w a (.int .u8 x) m rfl
       go_wp2_with fail
       refine region_tailP 13 (by kernel_rfl) (by kernel_rfl) ?_
       simp only[List.take,List.drop]
       repeat (go_big_quiet_step (first | (go_at_call 200;exact Calls.quiet_of_same (uh KS1 _))))
       refine wpQuiet_nil ?_
       rintro _ ⟨nr,rfl⟩
       have hval:((x:Int) / 2 ^ (8 * (k % 8))) % 256=((x / 2 ^ (8 * (k % 8)) % 256:Nat):Int):=by rw[shr_nat,Int.natCast_emod];rfl
       rw[hval]
       have HM2:=Hd (((uh HM1).drewN nr).set k (x / 2 ^ (8 * (k % 8)) % 256) hlt)
       generalize x / 2 ^ (8 * (k % 8)) % 256=y at *
       generalize hwd:wr.drewN nr=wd at *
       have c3:wd.cell? ⟨w.heap.size,k,none⟩=some (.int .u8 ((0:Nat):Int)):=by rw[<-hwd];exact c2
       have z3:wd.frozen? ⟨w.heap.size,k,none⟩=false:=by rw[<-hwd];exact z2
       clear c1 c2 z2 hwd hmk hval
       go_wp2
       go_roundw
       case rel=>
        refine⟨k+1,by go_num,Hd ⟨by omega,(uh HM2).ext fun i _=>?_⟩⟩
        by_cases hi:i=k
        ·rw[if_pos hi,if_pos (by omega),hi,uh HBF]
        ·rw[if_neg hi]
         by_cases h2:i<k
         ·rw[if_pos h2,if_pos (by omega)]
         ·rw[if_neg h2,if_neg (by omega)]
       case measure=>simp[RowKit.intOf];omega
      ·have hlt':¬(k:Int)<n:=by omega
       obtain rfl:k=n:=by omega
       clear HI
       have HM1:=Hd hM
       clear hM
       go_wp2
       go_ret2
       refine⟨(uh HM1).bel,.inr ⟨uh HE,w.heap.size,?_,?_⟩⟩
       ·rfl
       ·exact(uh HM1).ext fun i hi=>by rw[if_pos hi]
def strB (f:Nat->Nat) (n:Nat):ByteArray:=strOfNums ((rowL f n).map fun(x:Nat)=>(x:Int))
theorem strB_congr (f g:Nat->Nat) (n:Nat) (h:∀i,i<n->f i=g i):strB f n=strB g n:=by
 unfold strB rowL
 congr 2
 exact List.map_congr_left fun i hi=>h i (by simpa using hi)
theorem conv_str (w:World) (a:Option Addr) (len cap:Nat) (f:Nat->Nat) (hN:Nats .u8 w a len f) :
  (convert 89 9 (.slice a len cap)).run Tryz.prog w = .ok (.string (strB f len)) w:=by
 by_cases h:len=0
 ·subst h
  rw[run_convert_bytes_string w 89 9 5 _ 0 cap Tryz.underlying89 Tryz.underlying5 Tryz.underlying9]
  cases a <;> simp[Conv.bytesToString,loadCells,strB,rowL,strOfNums]
  all_goals rfl
 ·obtain⟨xb,xo,rfl,_⟩:=hN 0 (by omega)
  refine run_convert_bytes_arg (P:=Tryz.prog) w 89 5 Tryz.underlying89 Tryz.underlying5 xb xo len cap _ (by simp[rowL]) ?_ 9 Tryz.underlying9
  intro i hi
  obtain⟨_,_,e,c⟩:=hN i hi
  cases e
  rw[c]
  simp[rowL,hi]
theorem over_false (v:Nat->Nat) (n:Nat) (hv:v (need n - 1)<18446744073709551616) (h:∀i,n<=i->i<8 * (need n - 1)->byteF v i=0):over v (need n) n=false:=by
 unfold over
 by_cases h8:0<n % 8
 ·have hd:need n - 1=1+n / 8:=by unfold need;omega
  rw[decide_eq_true h8,Bool.true_and,decide_eq_false]
  rw[hd] at hv ⊢
  intro hp
  have:v (1+n / 8) / 2 ^ (8 * (n % 8))=0:=by
   apply Nat.eq_of_testBit_eq
   intro m
   rw[Nat.testBit_div_two_pow,Nat.zero_testBit]
   by_cases hm:m+8 * (n % 8)<64
   ·have hb:=h (8 * (n / 8)+(m+8 * (n % 8)) / 8) (by omega) (by rw[hd];omega)
    unfold byteF at hb
    rw[show 1+(8 * (n / 8)+(m+8 * (n % 8)) / 8) / 8=1+n / 8 by omega,show(8 * (n / 8)+(m+8 * (n % 8)) / 8) % 8=(m+8 * (n % 8)) / 8 by omega] at hb
    have h2:(v (1+n / 8) / 2 ^ (8 * ((m+8 * (n % 8)) / 8)) % 2 ^ 8).testBit ((m+8 * (n % 8)) % 8)=false:=by
     rw[show(2:Nat) ^ 8=256 from rfl,hb];simp
    rw[Nat.testBit_mod_two_pow,Nat.testBit_div_two_pow,decide_eq_true (by omega),Bool.true_and] at h2
    rw[<-h2];congr 1;omega
   ·exact Nat.testBit_lt_two_pow (Nat.lt_of_lt_of_le hv (Nat.pow_le_pow_right (n:=2) (by decide) (show 64<=m+8 * (n % 8) by omega)))
  omega
 ·rw[decide_eq_false h8];rfl
theorem byte_of (b:Nat->Nat) (n k:Nat) (hk:k<n) (hb:∀i,i<n->b i<256):wordN b n (k / 8) / 2 ^ (8 * (k % 8)) % 256=b k:=by
 apply Nat.eq_of_testBit_eq
 intro m
 rw[show(256:Nat)=2 ^ 8 from rfl,Nat.testBit_mod_two_pow,Nat.testBit_div_two_pow,word_bit _ _ _ _ hb]
 by_cases h:m<8
 ·rw[show 8 * (k / 8)+(m+8 * (k % 8)) / 8=k by omega,show(m+8 * (k % 8)) % 8=m by omega,decide_eq_true h,decide_eq_true (show m+8 * (k % 8)<64/\k<n by omega)]
  simp
 ·rw[Nat.testBit_lt_two_pow (Nat.lt_of_lt_of_le (hb k hk) (Nat.pow_le_pow_right (n:=2) (by decide) (show 8<=m by omega)))]
  simp[h]
theorem pack_back (b:Nat->Nat) (n:Nat) (hb:∀i,i<n->b i<256) (hn:n<=60000):unE (packF b n) (need n)=0/\packF b n 0=n/\∀i,i<n->byteF (packF b n) i=b i:=by
 have h0:packF b n 0=n:=rfl
 have hB:∀i,i<n->byteF (packF b n) i=b i:=by
  intro i hi
  unfold byteF
  rw[show packF b n (1+i / 8)=wordN b n (i / 8) by unfold packF;rw[if_neg (by omega),show 1+i / 8 - 1=i / 8 by omega]]
  exact byte_of b n i hi hb
 refine⟨?_,h0,hB⟩
 have ho:over (packF b n) (need n) n=false:=by
  refine over_false _ n ?_ ?_
  ·unfold packF;split
   ·omega
   ·exact word_lt _ _ _ hb
  ·intro i h1 h2
   unfold byteF
   rw[show packF b n (1+i / 8)=wordN b n (i / 8) by unfold packF;rw[if_neg (by omega),show 1+i / 8 - 1=i / 8 by omega]]
   apply Nat.eq_of_testBit_eq
   intro m
   rw[show(256:Nat)=2 ^ 8 from rfl,Nat.testBit_mod_two_pow,Nat.testBit_div_two_pow,word_bit _ _ _ _ hb,Nat.zero_testBit]
   by_cases hm:m<8
   ·rw[decide_eq_false (show ¬(m+8 * (i % 8)<64/\8 * (i / 8)+(m+8 * (i % 8)) / 8<n) by omega)];simp
   ·simp[hm]
 unfold unE
 rw[h0,if_neg (by unfold need;omega),if_neg (by omega),if_neg (by omega),if_neg]
 rintro(h | h)
 ·omega
 ·rw[ho] at h;cases h
theorem pack_lt (b:Nat->Nat) (n j:Nat) (hb:∀i,i<n->b i<256) (hn:n<=60000):packF b n j<18446744073709551616:=by
 unfold packF;split
 ·omega
 ·exact word_lt _ _ _ hb
def uvN (x:Nat):List Nat:=if x<128 then [x] else (x % 128+128) :: uvN (x / 128)
theorem uv_lo (x:Nat) (h:x<128):uvN x = [x]:=by unfold uvN;rw[if_pos h]
theorem uv_hi (x:Nat) (h:¬x<128):uvN x=(x % 128+128) :: uvN (x / 128):=by rw[uvN,if_neg h]
theorem uv_len (n:Nat):∀x,x<128 ^ (n+1)->(uvN x).length<=n+1:=by
 induction n with
 | zero=>intro x hx;rw[uv_lo x (by simpa using hx)];simp
 | succ n ih=>
  intro x hx
  by_cases h:x<128
  ·rw[uv_lo x h];simp
  ·rw[uv_hi x h]
   have:=ih (x / 128) (Nat.div_lt_of_lt_mul (by rw[Nat.pow_succ] at hx;omega))
   simp;omega
set_option maxRecDepth 100000 in
theorem or128 (x:Nat):bits .or .u8 ((x:Int) % 256) 128=((x % 128+128:Nat):Int):=by
 have e:(x:Int) % 256=((x % 256:Nat):Int):=by omega
 rw[e,show(128:Int)=((128:Nat):Int) from rfl,u8_or_nat _ 128 (Nat.mod_lt _ (by decide)) (by decide)]
 have:∀y:Fin 256,y.val ||| 128=y.val % 128+128:=by decide
 have h:=this ⟨x % 256,Nat.mod_lt _ (by decide)⟩
 rw[show x % 256 ||| 128=x % 256 % 128+128 from h]
 omega
set_option maxRecDepth 100000 in
theorem number_ok (v:Value) (l:List Nat) (x:Nat) (w:World) (base:Nat) (hbase:base<=w.heap.size) (hO:OwnL .u8 5 w base v l) (hl:l.length<=900000) (hx:x<18446744073709551616) :
  Calls Tryz.prog 208 #[v,.int .u64 x] w fun e w'=>∃v',e = .returned v'/\More .u8 5 w base v' (l ++ uvN x) w':=by
 have HO:=Hd hO
 have HU:=Hd (uv_len 9 x (by omega))
 clear hO
 go_enter Tryz.func208,Tryz.ntmps208
 go_wp2
 go_loopw [0,1] (fun v vx wr=>∃(t:Nat) (l':List Nat),vx = .int .u64 t/\t<18446744073709551616/\Hid (l' ++ uvN t=uvN x)/\Hid (OwnL .u8 5 wr base v (l ++ l'))/\Hid (Below base w wr)) (fun v vx wr=>(RowKit.intOf vx).toNat)
 case atStart=>exact⟨x,[],rfl,hx,Hd rfl,Hd (by rw[List.append_nil];exact uh HO),Hd (Below.refl _ _)⟩
 case round=>
  obtain⟨t,l',rfl,ht,HT,HO1,HB⟩:=hrel
  by_cases h:t<128
  ·have h':¬(128:Int)<=t:=by omega
   have hbs:base<=wr.heap.size:=by have:=(uh HB).size;omega
   have e256:(t:Int) % 256=t:=by omega
   go_wp2_with (at_builtin;refine append_u8 wr rfl (.tmp 15) (.tmp 18) rfl base _ (l ++ l') t rfl (uh HO1) rfl ?len hbs ?_)
   case len=>
    have h1:=uh HT;have h2:=uh HU
    rw[<-h1] at h2;simp at h2 ⊢;omega
   intro v' w2 hP
   have HP:=Hd hP
   clear hP
   go_wp2
   go_ret
   refine⟨_,rfl,?_,(uh HB).trans (uh HP).bel⟩
   rw[<-uh HT,uv_lo t h];exact(uh HP).own
  ·have h':(128:Int)<=t:=by omega
   have hbs:base<=wr.heap.size:=by have:=(uh HB).size;omega
   have E:=or128 t
   generalize hy:t % 128+128=y at *
   have HY:=Hd hy
   clear hy
   go_wp2_with (at_builtin;refine append_u8 wr rfl (.tmp 7) (.tmp 11) rfl base _ (l ++ l') y rfl (uh HO1) rfl ?len hbs ?_)
   case len=>
    have h1:=uh HT;have h2:=uh HU
    rw[<-h1] at h2;simp at h2 ⊢;omega
   intro v' w2 hP
   have HP:=Hd hP
   clear hP
   go_wp2
   go_roundw
   case rel=>
    refine⟨t / 128,l' ++ [y],by simp,by omega,Hd ?_,Hd ?_,Hd ((uh HB).trans (uh HP).bel)⟩
    ·rw[<-uh HT,uv_hi t h,uh HY];simp
    ·exact(uh HP).own
   case measure=>simp[RowKit.intOf];omega
def PartsAt (w:World) (a:Option Addr) (len:Nat) (A:Nat->Option Addr) (L C:Nat->Nat) (Z:Nat->Nat->Nat):Prop:=
 ∀k,k<len->(∃xb xo,a=some ⟨xb,xo,none⟩/\w.cell? ⟨xb,xo+k,none⟩=some (.slice (A k) (L k) (C k)))/\Nats .u8 w (A k) (L k) (Z k)/\(∀i,i<L k->Z k i<256)/\(A k=none->L k=0/\C k=0)
theorem PartsAt.on {w w':World} {a:Option Addr} {len:Nat} {A:Nat->Option Addr} {L C:Nat->Nat} {Z:Nat->Nat->Nat} (h:PartsAt w a len A L C Z) (b:Below w.heap.size w w'):PartsAt w' a len A L C Z:=by
 intro k hk
 obtain⟨⟨xb,xo,e,c⟩,hN,hb,hn⟩:=h k hk
 exact⟨⟨xb,xo,e,(b.cell (World.block_lt_of_cell? w _ c)).trans c⟩,hN.on b,hb,hn⟩
def partL (L:Nat->Nat) (Z:Nat->Nat->Nat) (i:Nat):List Nat:=uvN (L i) ++ rowL (Z i) (L i)
def joinL (L:Nat->Nat) (Z:Nat->Nat->Nat):Nat->List Nat
 | 0=>[]
 | i+1=>joinL L Z i ++ partL L Z i
def ul (n:Nat):Nat:=if n<128 then 1 else 2
def offL (L:Nat->Nat):Nat->Nat
 | 0=>0
 | i+1=>offL L i+(ul (L i)+L i)
theorem ul_pos (n:Nat):1<=ul n/\ul n<=2:=by unfold ul;split <;> omega
theorem uv_two (n:Nat) (h1:¬n<128) (h2:n<16384):uvN n = [n % 128+128,n / 128]:=by rw[uv_hi n h1,uv_lo _ (by omega)]
theorem uv_ul (n:Nat) (h:n<16384):(uvN n).length=ul n:=by
 unfold ul
 split
 ·rename_i h1;rw[uv_lo n h1];rfl
 ·rename_i h1;rw[uv_two n h1 h];rfl
theorem join_len (L:Nat->Nat) (Z:Nat->Nat->Nat) (n:Nat) (hL:∀i,i<n->L i<16384):(joinL L Z n).length=offL L n:=by
 induction n with
 | zero=>rfl
 | succ n ih=>simp[joinL,offL,partL,ih (fun i hi=>hL i (by omega)),uv_ul _ (hL n (by omega)),rowL_len]
theorem off_lt (L:Nat->Nat) (i j:Nat) (h:i<j):offL L i<offL L j:=by
 induction j with
 | zero=>omega
 | succ j ih=>
  have:=(ul_pos (L j)).1
  show offL L i<offL L j+(ul (L j)+L j)
  by_cases e:i=j
  ·subst e;omega
  ·have:=ih (by omega);omega
theorem join_part (L:Nat->Nat) (Z:Nat->Nat->Nat) (n i:Nat) (h:i<n):∃rest,joinL L Z n=joinL L Z i ++ (partL L Z i ++ rest):=by
 induction n with
 | zero=>omega
 | succ n ih=>
  by_cases e:i=n
  ·subst e;exact⟨[],by simp[joinL]⟩
  ·obtain⟨rest,hr⟩:=ih (by omega)
   exact⟨rest ++ partL L Z n,by rw[joinL,hr];simp⟩
def joinF (L:Nat->Nat) (Z:Nat->Nat->Nat) (n:Nat) (t:Nat):Nat:=(joinL L Z n).getD t 0
theorem joinF_at (L:Nat->Nat) (Z:Nat->Nat->Nat) (n i:Nat) (h:i<n) (hL:∀i,i<n->L i<16384) :
  (L i<128->joinF L Z n (offL L i)=L i)/\(¬L i<128->joinF L Z n (offL L i)=L i % 128+128/\joinF L Z n (offL L i+1)=L i / 128):=by
 obtain⟨rest,hr⟩:=join_part L Z n i h
 have hl:=join_len L Z i (fun j hj=>hL j (by omega))
 unfold joinF
 rw[hr]
 constructor
 ·intro h1
  rw[List.getD_eq_getElem?_getD,List.getElem?_append_right (by omega),hl,Nat.sub_self,partL,uv_lo _ h1]
  simp
 ·intro h1
  constructor
  ·rw[List.getD_eq_getElem?_getD,List.getElem?_append_right (by omega),hl,Nat.sub_self,partL,uv_two _ h1 (hL i h)]
   simp
  ·rw[List.getD_eq_getElem?_getD,List.getElem?_append_right (by omega),hl,show offL L i+1 - offL L i=1 by omega,partL,uv_two _ h1 (hL i h)]
   simp
theorem uv_lt (n:Nat) (h:n<16384):∀x∈uvN n,x<256:=by
 by_cases h1:n<128
 ·rw[uv_lo n h1];simp;omega
 ·rw[uv_two n h1 h];simp;omega
theorem join_lt (L:Nat->Nat) (Z:Nat->Nat->Nat) (n:Nat) (hL:∀i,i<n->L i<16384) (hZ:∀i,i<n->∀t,t<L i->Z i t<256):∀x∈joinL L Z n,x<256:=by
 induction n with
 | zero=>intro x hx;cases hx
 | succ n ih=>
  intro x hx
  rw[joinL,partL] at hx
  rcases List.mem_append.1 hx with h | h
  ·exact ih (fun i hi=>hL i (by omega)) (fun i hi=>hZ i (by omega)) x h
  ·rcases List.mem_append.1 h with h | h
   ·exact uv_lt _ (hL n (by omega)) x h
   ·simp[rowL] at h
    obtain⟨t,ht,rfl⟩:=h
    exact hZ n (by omega) t ht
theorem joinF_lt (L:Nat->Nat) (Z:Nat->Nat->Nat) (n t:Nat) (hL:∀i,i<n->L i<16384) (hZ:∀i,i<n->∀t,t<L i->Z i t<256):joinF L Z n t<256:=by
 unfold joinF
 rw[List.getD_eq_getElem?_getD]
 cases h:(joinL L Z n)[t]? with
 | none=>simp
 | some x=>exact join_lt L Z n hL hZ x (List.mem_of_getElem? h)
set_option maxRecDepth 100000 in
theorem join_ok (a:Option Addr) (len cap:Nat) (A:Nat->Option Addr) (L C:Nat->Nat) (Z:Nat->Nat->Nat) (w:World) (hP:PartsAt w a len A L C Z) (hl:len<=200) (hL:∀i,i<len->L i<=3000) :
  Calls Tryz.prog 198 #[.slice a len cap] w fun e w'=>∃v,e = .returned v/\More .u8 5 w w.heap.size v (joinL L Z len) w':=by
 have HP:=Hd hP
 have HL:=Hd hL
 have KN:=Hd number_ok
 have HLen:=Hd (show ∀k,k<=len->(joinL L Z k).length<=3010 * k by
  intro k hk
  rw[join_len L Z k (fun i hi=>by have:=hL i (by omega);omega)]
  induction k with
  | zero=>exact Nat.le_refl _
  | succ k ih=>
   have h1:=ih (by omega)
   have h2:=hL k (by omega)
   have h3:=(ul_pos (L k)).2
   unfold offL;omega)
 clear hP hL
 go_enter Tryz.func198,Tryz.ntmps198
 go_wp2_with fail
 go_loopw [3,8] (fun v vi wr=>∃k:Nat,vi = .int .i64 k/\Hid (k<=len)/\Hid (OwnL .u8 5 wr w.heap.size v (joinL L Z k))/\Hid (Below w.heap.size w wr)) (fun v vi wr=>len - (RowKit.intOf vi).toNat)
 case atStart=>exact⟨0,rfl,Hd (Nat.zero_le _),Hd (OwnL.nil _ _ _ _),Hd (Below.refl _ _)⟩
 case round=>
  obtain⟨k,rfl,HK,HO,HB⟩:=hrel
  by_cases hlt:k<len
  ·have hlt':(k:Int)<len:=by omega
   obtain⟨⟨xb,xo,rfl,c⟩,hN,_,hnil⟩:=(uh HP).on (uh HB) k hlt
   have HNF:=Hd (show ∀w2,Below w.heap.size w w2->Nats .u8 w2 (A k) (L k) (Z k) from fun w2 h=>((uh HP).on h k hlt).2.1)
   have HNI:=Hd hnil
   have hlk:=uh HL k hlt
   have HJ:=Hd (show joinL L Z (k+1)=joinL L Z k ++ (uvN (L k) ++ rowL (Z k) (L k)) from rfl)
   have HJL:=uh HLen k (uh HK)
   have HUL:=Hd (uv_len 9 (L k) (by omega))
   have KN1:=Hd (uh KN _ (joinL L Z k) (L k) wr w.heap.size (uh HB).size (uh HO) (by omega) (by omega))
   clear hN hnil
   generalize A k=ak at *
   generalize C k=ck at *
   generalize L k=lk at *
   generalize Z k=zk at *
   generalize joinL L Z k=J at *
   go_wp2_with fail
   refine(uh KN1).mono ?_
   rintro e w2 ⟨v2,rfl,hM⟩
   have HB2:=Hd ((uh HB).trans hM.bel)
   have HO2:=Hd hM.own
   have hbs:w.heap.size<=w2.heap.size:=(uh HB2).size
   clear hM
   go_wp2_with (at_builtin;refine append_row infoB (by decide) Tryz.underlying89 w2 rfl (.tmp 17) (.tmp 18) rfl w.heap.size _ (J ++ uvN lk) rfl (uh HO2) ak lk ck zk rfl (uh HNI) (uh HNF w2 (uh HB2)) ?len hbs ?_)
   case len=>
    have:=uh HUL
    simp only[List.length_append]
    omega
   intro v3 w3 hM
   have HM:=Hd hM
   clear hM
   go_wp2
   go_roundw
   case rel=>
    refine⟨k+1,by go_num,Hd hlt,Hd ?_,Hd ((uh HB2).trans (uh HM).bel)⟩
    have:=(uh HM).own
    rw[uh HJ]
    simpa using this
   case measure=>simp[RowKit.intOf];omega
  ·have hlt':¬(k:Int)<len:=by omega
   obtain rfl:k=len:=by have:=uh HK;omega
   go_wp2
   go_ret
   exact⟨_,rfl,uh HO,uh HB⟩
set_option maxRecDepth 100000 in
theorem and127 (x:Nat) (h:x<256):bits .and .u8 (x:Int) 127=((x % 128:Nat):Int):=by
 rw[show(127:Int)=((127:Nat):Int) from rfl,u8_and_nat x 127 h (by decide),nat_mask7]
theorem or7 (x y:Nat) (hx:x<128) (hy:y<128):bits .or .u64 ((x:Int) * 128) (y:Int)=((x * 128+y:Nat):Int):=by
 have e:(x:Int) * 128=((x * 128:Nat):Int):=by omega
 rw[e,u64_or_nat _ _ (by omega) (by omega),nat_join 7 _ _ (by omega) (by omega)]
theorem or0 (y:Nat) (hy:y<128):bits .or .u64 0 (y:Int)=(y:Int):=by
 rw[show(0:Int)=((0:Nat):Int) from rfl,u64_or_nat _ _ (by omega) (by omega),Nat.zero_or]
def varR (n len:Nat):Array Value:=if n<128\/2<=len then #[.int .u64 (n:Nat),.int .i64 (ul n:Nat),.int .i64 0] else #[.int .u64 0,.int .i64 0,.int .i64 4]
set_option maxRecDepth 100000 in
theorem var_ok (a:Option Addr) (len cap:Nat) (f:Nat->Nat) (n:Nat) (w:World) (hN:Nats .u8 w a len f) (h0:0<len) (hl:len<=100000) (hn:n<16384) (h1:n<128->f 0=n) (h2:¬n<128->f 0=n % 128+128/\(2<=len->f 1=n / 128)) :
  Calls Tryz.prog 206 #[.slice a len cap] w fun e w'=>e = .returned (.tuple (varR n len))/\w'=w:=by
 obtain⟨xb,xo,rfl,c0⟩:=hN 0 h0
 rw[Nat.add_zero] at c0
 have h0':(0:Int)<len:=by omega
 have hne:¬(0:Int)=len:=by omega
 by_cases hs:n<128
 ·rw[h1 hs] at c0
  have HR:=Hd (show varR n len=#[.int .u64 (n:Nat),.int .i64 1,.int .i64 0] by unfold varR ul;rw[if_pos (.inl hs),if_pos hs];rfl)
  have e1:=and127 n (by omega)
  rw[Nat.mod_eq_of_lt hs] at e1
  have e2:=or0 n hs
  have hs':¬(128:Int)<=n:=by omega
  clear hN h1 h2
  go_enter Tryz.func206,Tryz.ntmps206
  go_wp2_with fail
  go_loop [5] (fun v=>v = .int .i64 0) (fun _=>0)
  case atStart=>rfl
  case round=>
   obtain rfl:=hrel
   go_wp2_with fail
   go_loop [2,6] (fun x i=>(x = .int .u64 0/\i = .int .i64 0)\/(x = .int .u64 (n:Nat)/\i = .int .i64 (-1))) (fun _ i=>(RowKit.intOf i+1).toNat)
   case atStart=>exact .inl ⟨rfl,rfl⟩
   case round=>
    rcases hrel with ⟨rfl,rfl⟩ | ⟨rfl,rfl⟩
    ·go_wp2
     exact⟨.inr ⟨rfl,rfl⟩,by simp[RowKit.intOf]⟩
    ·go_wp2
     go_ret3
     exact⟨by rw[uh HR];rfl,rfl⟩
 ·obtain⟨f0,f1⟩:=h2 hs
  rw[f0] at c0
  have hs':(128:Int)<=((n % 128+128:Nat):Int):=by omega
  by_cases h2l:2<=len
  ·have HR:=Hd (show varR n len=#[.int .u64 (n:Nat),.int .i64 2,.int .i64 0] by unfold varR ul;rw[if_pos (.inr h2l),if_neg hs];rfl)
   obtain⟨_,_,e,c1⟩:=hN 1 h2l
   cases e
   rw[f1 h2l] at c1
   have e1:=and127 (n % 128+128) (by omega)
   rw[show(n % 128+128) % 128=n % 128 by omega] at e1
   have e2:=and127 (n / 128) (by omega)
   rw[show n / 128 % 128=n / 128 by omega] at e2
   have e3:=or0 (n / 128) (by omega)
   have e4:=or7 (n / 128) (n % 128) (by omega) (by omega)
   rw[show n / 128 * 128+n % 128=n by omega] at e4
   have l1:(1:Int)<len:=by omega
   have ne1:¬(1:Int)=len:=by omega
   have t1:¬(128:Int)<=((n / 128:Nat):Int):=by omega
   have t0:¬((n / 128:Nat):Int)=0:=by omega
   have hw1:IntKind.u64.wrap (((n / 128:Nat):Int) * 128)=((n / 128:Nat):Int) * 128:=by rw[IntKind.wrap_u64];omega
   have hw2:IntKind.u64.wrap ((n % 128:Nat):Int)=((n % 128:Nat):Int):=by rw[IntKind.wrap_u64];omega
   have HB:=Hd (show n / 128<128/\n % 128<128 from⟨by omega,by omega⟩)
   clear hN h1 h2 f0 f1 hs
   generalize hq:n / 128=q at *
   generalize hr:n % 128+128=r at *
   generalize hm:n % 128=m at *
   clear hq hr hm
   go_enter Tryz.func206,Tryz.ntmps206
   go_wp2_with fail
   go_loop [5] (fun v=>v = .int .i64 0\/v = .int .i64 1) (fun v=>1 - (RowKit.intOf v).toNat)
   case atStart=>exact .inl rfl
   case round=>
    rcases hrel with rfl | rfl
    ·go_wp2
     exact⟨.inr rfl,by simp[RowKit.intOf]⟩
    ·go_wp2_with fail
     go_loop [2,6] (fun x i=>(x = .int .u64 0/\i = .int .i64 1)\/(x = .int .u64 (q:Nat)/\i = .int .i64 0)\/(x = .int .u64 (n:Nat)/\i = .int .i64 (-1))) (fun _ i=>(RowKit.intOf i+1).toNat)
     case atStart=>exact .inl ⟨rfl,rfl⟩
     case round=>
      rcases hrel with ⟨rfl,rfl⟩ | ⟨rfl,rfl⟩ | ⟨rfl,rfl⟩
      ·go_wp2
       exact⟨.inr (.inl ⟨rfl,rfl⟩),by simp[RowKit.intOf]⟩
      ·go_wp2
       exact⟨.inr (.inr ⟨rfl,rfl⟩),by simp[RowKit.intOf]⟩
      ·go_wp2
       go_ret3
       exact⟨by rw[uh HR];rfl,rfl⟩
  ·obtain rfl:len=1:=by omega
   have HR:=Hd (show varR n 1=#[.int .u64 0,.int .i64 0,.int .i64 4] by unfold varR;rw[if_neg (by omega)])
   clear hN h1 h2 f0 f1 hs hne
   generalize n % 128+128=r at *
   go_enter Tryz.func206,Tryz.ntmps206
   go_wp2_with fail
   go_loop [5] (fun v=>v = .int .i64 0\/v = .int .i64 1) (fun v=>1 - (RowKit.intOf v).toNat)
   case atStart=>exact .inl rfl
   case round=>
    rcases hrel with rfl | rfl
    ·go_wp2
     exact⟨.inr rfl,by simp[RowKit.intOf]⟩
    ·go_wp2
     go_ret3
     exact⟨by rw[uh HR];rfl,rfl⟩

section
def lv (words:Nat):Nat:=if words<=8 then 0 else if words<=16 then 1 else if words<=32 then 2 else if words<=64 then 3 else if words<=128 then 4 else if words<=256 then 5 else 6
theorem lv_le (x:Nat):lv x<=6:=by
 unfold lv
 repeat (split;omega)
 omega
theorem lv_holds (x:Nat) (h:x<=512):x<=8 * 2 ^ lv x:=by
 unfold lv
 repeat (split;omega)
 omega
def bud (b:Nat):Nat:=if b % 2=0 then b+1 else b - 1
theorem bud_ne (b:Nat):bud b≠b:=by unfold bud;split <;> omega
theorem bud_bud (b:Nat):bud (bud b)=b:=by unfold bud;split <;> split <;> omega
theorem bud_half (b:Nat):bud b / 2=b / 2:=by unfold bud;split <;> omega
def sum7 (g:Nat->Nat):Nat:=g 0+g 1+g 2+g 3+g 4+g 5+g 6
theorem sum7_congr {g h:Nat->Nat} (e:∀k,k<7->g k=h k):sum7 g=sum7 h:=by
 unfold sum7
 rw[e 0 (by omega),e 1 (by omega),e 2 (by omega),e 3 (by omega),e 4 (by omega),e 5 (by omega),e 6 (by omega)]
theorem lt7 {k:Nat} (h:k<7):k=0\/k=1\/k=2\/k=3\/k=4\/k=5\/k=6:=by omega
theorem sum7_one {g h:Nat->Nat} {k:Nat} (hk:k<7) (e:∀j,j≠k->g j=h j):sum7 g+h k=sum7 h+g k:=by
 unfold sum7
 rcases lt7 hk with rfl | rfl | rfl | rfl | rfl | rfl | rfl
 all_goals
  (try rw[e 0 (by omega)]);(try rw[e 1 (by omega)]);(try rw[e 2 (by omega)]);(try rw[e 3 (by omega)]);(try rw[e 4 (by omega)]);(try rw[e 5 (by omega)]);(try rw[e 6 (by omega)])
  omega
theorem sum7_le (g:Nat->Nat) {k:Nat} (hk:k<7):g k<=sum7 g:=by
 unfold sum7
 rcases lt7 hk with rfl | rfl | rfl | rfl | rfl | rfl | rfl <;> omega
theorem sum7_le2 (g:Nat->Nat) {j k:Nat} (hj:j<7) (hk:k<7) (h:j≠k):g j+g k<=sum7 g:=by
 unfold sum7
 rcases lt7 hj with rfl | rfl | rfl | rfl | rfl | rfl | rfl <;> rcases lt7 hk with rfl | rfl | rfl | rfl | rfl | rfl | rfl <;> first | omega | exact absurd rfl h
theorem sum7_pos {g:Nat->Nat} (h:0<sum7 g):∃k,k<7/\0<g k:=by
 unfold sum7 at h
 rcases Nat.eq_zero_or_pos (g 0) with h0 | h0
 ·rcases Nat.eq_zero_or_pos (g 1) with h1 | h1
  ·rcases Nat.eq_zero_or_pos (g 2) with h2 | h2
   ·rcases Nat.eq_zero_or_pos (g 3) with h3 | h3
    ·rcases Nat.eq_zero_or_pos (g 4) with h4 | h4
     ·rcases Nat.eq_zero_or_pos (g 5) with h5 | h5
      ·exact⟨6,by omega,by omega⟩
      ·exact⟨5,by omega,h5⟩
     ·exact⟨4,by omega,h4⟩
    ·exact⟨3,by omega,h3⟩
   ·exact⟨2,by omega,h2⟩
  ·exact⟨1,by omega,h1⟩
 ·exact⟨0,by omega,h0⟩
def pc (K:Nat->Nat) (k b:Nat):Bool:=decide (K (b * 2 ^ k)≠0/\lv (K (b * 2 ^ k))=k)
def hv (F:Nat->Nat->Bool) (K:Nat->Nat) (u:Nat):Nat:=sum7 fun k=>(F k (u / 2 ^ k)).toNat+(pc K k (u / 2 ^ k)).toNat
def ind (k b u:Nat):Nat:=if u / 2 ^ k=b then 1 else 0
structure Inv (nu:Nat) (F:Nat->Nat->Bool) (K:Nat->Nat) (hole:Nat->Nat):Prop where
 cov:∀u,u<nu->hv F K u+hole u=1
 half:∀k,k<6->∀b,F k b=true->F k (bud b)=false
 inside:∀k,k<7->∀b,F k b=true->b<nu / 2 ^ k
 asks:∀u,K u≠0->u<nu/\K u<=512/\u % 2 ^ lv (K u)=0/\u+2 ^ lv (K u)<=nu
def setF (F:Nat->Nat->Bool) (k b:Nat) (v:Bool):Nat->Nat->Bool:=fun j c=>if j=k/\c=b then v else F j c
def setK (K:Nat->Nat) (u x:Nat):Nat->Nat:=fun v=>if v=u then x else K v
section
variable {nu:Nat} {F:Nat->Nat->Bool} {K:Nat->Nat} {hole:Nat->Nat} {k b u:Nat}
theorem setF_same (v:Bool):setF F k b v k b=v:=by simp[setF]
theorem setF_other {j c:Nat} (v:Bool) (h:¬(j=k/\c=b)):setF F k b v j c=F j c:=by simp[setF,h]
theorem block_lt (hb:b<nu / 2 ^ k):b * 2 ^ k+2 ^ k<=nu:=by
 have h1:(b+1) * 2 ^ k<=nu / 2 ^ k * 2 ^ k:=Nat.mul_le_mul_right _ hb
 have h2:=Nat.div_mul_le_self nu (2 ^ k)
 rw[Nat.add_mul,Nat.one_mul] at h1
 omega
theorem two_pos (k:Nat):0<2 ^ k:=Nat.pow_pos (by omega)
theorem block_self (k b:Nat):b * 2 ^ k / 2 ^ k=b:=Nat.mul_div_cancel _ (two_pos k)
theorem block_in (hb:b<nu / 2 ^ k):b * 2 ^ k<nu:=by have:=block_lt hb;have:=two_pos k;omega
theorem hv_setF (hk:k<7) (v:Bool) (u:Nat):hv (setF F k b v) K u+(if u / 2 ^ k=b then (F k b).toNat else 0)=hv F K u+(if u / 2 ^ k=b then v.toNat else 0):=by
 by_cases h:u / 2 ^ k=b
 ·rw[if_pos h,if_pos h]
  have:=sum7_one (g:=fun k'=>(setF F k b v k' (u / 2 ^ k')).toNat+(pc K k' (u / 2 ^ k')).toNat) (h:=fun k'=>(F k' (u / 2 ^ k')).toNat+(pc K k' (u / 2 ^ k')).toNat) hk (fun j hj=>by
   rw[setF_other v (fun e=>hj e.1)])
  simp only[h,setF_same] at this
  unfold hv
  omega
 ·rw[if_neg h,if_neg h]
  congr 1
  refine sum7_congr fun j _=>?_
  rw[setF_other v (by rintro⟨rfl,e⟩;exact h e)]
theorem Inv.clear (h:Inv nu F K hole) (hk:k<7) (hf:F k b=true):Inv nu (setF F k b false) K (fun u=>hole u+ind k b u) where
 cov:=fun u hu=>by
  have h1:=hv_setF (K:=K) (F:=F) (b:=b) hk false u
  have h2:=h.cov u hu
  rw[hf] at h1
  show _+(hole u+ind k b u)=1
  unfold ind
  by_cases e:u / 2 ^ k=b
  ·rw[if_pos e] at h1 ⊢;rw[if_pos e] at h1;simp at h1;omega
  ·rw[if_neg e] at h1 ⊢;rw[if_neg e] at h1;omega
 half:=fun j hj c hc=>by
  by_cases e:j=k/\c=b
  ·rw[e.1,e.2,setF_same] at hc;cases hc
  ·rw[setF_other _ e] at hc
   by_cases e2:j=k/\bud c=b
   ·rw[e2.1,e2.2,setF_same]
   ·rw[setF_other _ e2];exact h.half j hj c hc
 inside:=fun j hj c hc=>by
  by_cases e:j=k/\c=b
  ·rw[e.1,e.2,setF_same] at hc;cases hc
  ·rw[setF_other _ e] at hc;exact h.inside j hj c hc
 asks:=h.asks
theorem Inv.none (h:Inv nu F K hole) {u:Nat} (hu:u<nu) (hh:hole u=1) (hk:k<7):F k (u / 2 ^ k)=false/\pc K k (u / 2 ^ k)=false:=by
 have h1:=h.cov u hu
 have h2:hv F K u=0:=by omega
 have h3:=sum7_le (fun k=>(F k (u / 2 ^ k)).toNat+(pc K k (u / 2 ^ k)).toNat) hk
 unfold hv at h2
 have h4:(F k (u / 2 ^ k)).toNat+(pc K k (u / 2 ^ k)).toNat=0:=by omega
 constructor
 ·cases e:F k (u / 2 ^ k)
  ·rfl
  ·rw[e] at h4;simp at h4
 ·cases e:pc K k (u / 2 ^ k)
  ·rfl
  ·rw[e] at h4;simp at h4
theorem Inv.set {hole':Nat->Nat} (h:Inv nu F K hole) (hk:k<7) (hb:b<nu / 2 ^ k) (hh:∀u,u<nu->hole u=hole' u+ind k b u) (hl:∀u,u<nu->u / 2 ^ k=b->hole' u=0) (ho:k=6\/F k (bud b)=false):Inv nu (setF F k b true) K hole' where
 cov:=fun u hu=>by
  have h1:=hv_setF (K:=K) (F:=F) (b:=b) hk true u
  have h2:=h.cov u hu
  have h3:=hh u hu
  unfold ind at h3
  by_cases e:u / 2 ^ k=b
  ·have h4:=(h.none (k:=k) hu (by rw[h3,hl u hu e,if_pos e]) hk).1
   rw[e] at h4
   rw[if_pos e,if_pos e,h4] at h1
   rw[if_pos e] at h3
   simp at h1
   omega
  ·rw[if_neg e,if_neg e] at h1
   rw[if_neg e] at h3
   omega
 half:=fun j hj c hc=>by
  by_cases e:j=k/\c=b
  ·rw[e.1,e.2,setF_other _ (fun x=>bud_ne b x.2)]
   rcases ho with rfl | ho
   ·omega
   ·exact ho
  ·rw[setF_other _ e] at hc
   by_cases e2:j=k/\bud c=b
   ·obtain⟨rfl,rfl⟩:=e2
    rcases ho with rfl | ho
    ·omega
    ·rw[bud_bud] at ho;rw[ho] at hc;cases hc
   ·rw[setF_other _ e2];exact h.half j hj c hc
 inside:=fun j hj c hc=>by
  by_cases e:j=k/\c=b
  ·rw[e.1,e.2];exact hb
  ·rw[setF_other _ e] at hc;exact h.inside j hj c hc
 asks:=h.asks
theorem Inv.unasked (h:Inv nu F K hole) {u:Nat} (hu:u<nu) (hh:hole u=1):K u=0:=by
 refine Classical.byContradiction fun hn=>?_
 obtain⟨_,_,h3,_⟩:=h.asks u hn
 have h4:=(h.none (k:=lv (K u)) hu hh (by have:=lv_le (K u);omega)).2
 unfold pc at h4
 have h5:u / 2 ^ lv (K u) * 2 ^ lv (K u)=u:=Nat.div_mul_cancel (Nat.dvd_of_mod_eq_zero h3)
 rw[h5] at h4
 simp at h4
 exact hn h4
theorem pc_setK {x j c:Nat} (hx:lv x=k) (h0:x≠0):pc (setK K (b * 2 ^ k) x) j c=if c * 2 ^ j=b * 2 ^ k then decide (j=k) else pc K j c:=by
 unfold pc setK
 by_cases e:c * 2 ^ j=b * 2 ^ k
 ·rw[if_pos e]
  simp only[if_pos e]
  rw[decide_eq_decide,hx]
  exact⟨fun y=>y.2.symm,fun y=>⟨h0,y.symm⟩⟩
 ·rw[if_neg e]
  simp only[if_neg e]
theorem Inv.lay {hole':Nat->Nat} {x:Nat} (h:Inv nu F K hole) (hb:b<nu / 2 ^ k) (hx:lv x=k) (h0:x≠0) (h5:x<=512) (hh:∀u,u<nu->hole u=hole' u+ind k b u) (hl:∀u,u<nu->u / 2 ^ k=b->hole' u=0):Inv nu F (setK K (b * 2 ^ k) x) hole' where
 cov:=fun u hu=>by
  have hk:k<7:=by have:=lv_le x;omega
  have hin:=block_in hb
  have K0:K (b * 2 ^ k)=0:=h.unasked hin (by rw[hh _ hin,hl _ hin (block_self k b)];unfold ind;rw[if_pos (block_self k b)])
  have h2:=h.cov u hu
  have h3:=hh u hu
  have pc0:∀j c,c * 2 ^ j=b * 2 ^ k->pc K j c=false:=fun j c e=>by unfold pc;rw[e,K0];simp
  by_cases e:u / 2 ^ k=b
  ·have h1:=sum7_one (g:=fun k'=>(F k' (u / 2 ^ k')).toNat+(pc (setK K (b * 2 ^ k) x) k' (u / 2 ^ k')).toNat) (h:=fun k'=>(F k' (u / 2 ^ k')).toNat+(pc K k' (u / 2 ^ k')).toNat) hk (fun j hj=>by
    rw[pc_setK hx h0]
    split
    ·rename_i e';rw[pc0 _ _ e'];simp[hj]
    ·rfl)
   simp only[e,pc_setK hx h0,if_true,pc0 k b rfl] at h1
   rw[hl u hu e] at h3 ⊢
   unfold ind at h3
   rw[if_pos e] at h3
   unfold hv at h2 ⊢
   simp at h1
   simp only[pc_setK hx h0]
   omega
  ·have h1:hv F (setK K (b * 2 ^ k) x) u=hv F K u:=by
    refine sum7_congr fun j _=>?_
    rw[pc_setK hx h0]
    split
    ·rename_i e'
     rw[pc0 _ _ e']
     by_cases hj:j=k
     ·subst hj
      exact absurd (Nat.eq_of_mul_eq_mul_right (two_pos j) e') e
     ·simp[hj]
    ·rfl
   unfold ind at h3
   rw[if_neg e] at h3
   omega
 half:=h.half
 inside:=h.inside
 asks:=fun u hu=>by
  by_cases e:u=b * 2 ^ k
  ·have:setK K (b * 2 ^ k) x u=x:=by simp[setK,e]
   rw[this,hx,e]
   refine⟨block_in hb,h5,Nat.mul_mod_left _ _,block_lt hb⟩
  ·have:setK K (b * 2 ^ k) x u=K u:=by simp[setK,e]
   rw[this] at hu ⊢
   exact h.asks u hu
theorem Inv.lift (h:Inv nu F K (fun _=>0)) (hu:K u≠0):Inv nu F (setK K u 0) (ind (lv (K u)) (u / 2 ^ lv (K u)))/\u / 2 ^ lv (K u)<nu / 2 ^ lv (K u)/\u / 2 ^ lv (K u) * 2 ^ lv (K u)=u:=by
 obtain⟨a1,a2,a3,a4⟩:=h.asks u hu
 have hk:lv (K u)<7:=by have:=lv_le (K u);omega
 obtain⟨k,hkk⟩:∃k,lv (K u)=k:=⟨_,rfl⟩
 obtain⟨b,hb⟩:∃b,u / 2 ^ k=b:=⟨_,rfl⟩
 have ub:b * 2 ^ k=u:=by rw[<-hb,<-hkk];exact Nat.div_mul_cancel (Nat.dvd_of_mod_eq_zero a3)
 rw[hkk] at hk a3 a4 ⊢
 rw[hb]
 have p1:∀j c,pc (setK K u 0) j c=if c * 2 ^ j=u then false else pc K j c:=by
  intro j c
  unfold pc setK
  by_cases e:c * 2 ^ j=u
  ·rw[if_pos e];simp[e]
  ·rw[if_neg e];simp only[if_neg e]
 have p2:∀j c,c * 2 ^ j=u->pc K j c=decide (j=k):=by
  intro j c e
  unfold pc
  rw[e,hkk,decide_eq_decide]
  exact⟨fun y=>y.2.symm,fun y=>⟨hu,y.symm⟩⟩
 refine⟨⟨fun v hv'=>?_,h.half,h.inside,fun v hv'=>?_⟩,?_,ub⟩
 ·have h2:hv F K v+0=1:=h.cov v hv'
  unfold ind
  by_cases e:v / 2 ^ k=b
  ·have h1:=sum7_one (g:=fun k'=>(F k' (v / 2 ^ k')).toNat+(pc (setK K u 0) k' (v / 2 ^ k')).toNat) (h:=fun k'=>(F k' (v / 2 ^ k')).toNat+(pc K k' (v / 2 ^ k')).toNat) hk (fun j hj=>by
    rw[p1]
    split
    ·rename_i e';rw[p2 _ _ e'];simp[hj]
    ·rfl)
   simp only[e,p1,ub,if_true,p2 k b ub] at h1
   rw[if_pos e]
   unfold hv at h2 ⊢
   simp only[decide_true,Bool.toNat_true,Bool.toNat_false] at h1
   simp only[p1]
   omega
  ·have h1:hv F (setK K u 0) v=hv F K v:=by
    refine sum7_congr fun j _=>?_
    rw[p1]
    split
    ·rename_i e'
     rw[p2 _ _ e']
     by_cases hj:j=k
     ·subst hj
      rw[<-ub] at e'
      exact absurd (Nat.eq_of_mul_eq_mul_right (two_pos j) e') e
     ·simp[hj]
    ·rfl
   rw[if_neg e]
   omega
 ·by_cases e:v=u
  ·simp[setK,e] at hv'
  ·have:setK K u 0 v=K v:=by simp[setK,e]
   rw[this] at hv' ⊢
   exact h.asks v hv'
 ·rw[Nat.lt_div_iff_mul_lt (two_pos k)]
  have:=two_pos k
  omega
end
end
end Go.Proofs.YtbiopjmpdhcjgaaGreatDoor
