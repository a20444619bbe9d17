/- Joined: GHd GHe GHo Dox. -/
import Derived.Test.YtbiopjmpdhcjgaaGreatDoorZ10
import Derived.Test.YtbiopjmpdhcjgaaGreatDoorZ11
namespace Go.Proofs.YtbiopjmpdhcjgaaGreatDoor
open Go.RowKit
set_option maxHeartbeats 4000000

section
def Dm (F:Nat->Nat->Bool) (k i:Nat):Nat->Nat->Bool:=fun j c=>F j c && (decide (j<k) || (decide (j=k) && decide (c / 64<i)))
def Dn (F:Nat->Nat->Bool) (k i x:Nat):Nat->Nat->Bool:=fun j c=>F j c && (decide (j<k) || (decide (j=k) && (decide (c / 64<i) || (decide (c / 64=i) && !x.testBit (c % 64)))))
theorem bool3 {a b c:Bool} (h:a=true->b=c):(a && b)=(a && c):=by cases a;rfl;exact congrArg _ (h rfl)
section
variable {nu sz:Nat} {f:Nat->Int} {k i:Nat}
theorem dm_0:Dm (fre nu f) 0 0=fun _ _=>false:=by funext j c;simp[Dm]
theorem dn_word (x:Nat) (hx:f (Bw nu k+i)=x):Dn (fre nu f) k i x=Dm (fre nu f) k i:=by
 funext j c
 unfold Dn Dm
 refine bool3 fun h=>?_
 by_cases e:j=k
 ·subst e
  by_cases e2:c / 64=i
  ·have h2:x.testBit (c % 64)=true:=by
    unfold fre at h
    rw[e2,hx,Int.toNat_natCast] at h
    simp at h
    exact h.2
   rw[h2];simp
  ·simp[e2]
 ·simp[e]
theorem dn_done:Dn (fre nu f) k i 0=Dm (fre nu f) k (i+1):=by
 funext j c
 unfold Dn Dm
 refine bool3 fun _=>?_
 by_cases e:j=k
 ·subst e
  have:(c / 64<i+1)=(c / 64<i\/c / 64=i):=by simp only[eq_iff_iff];omega
  simp[this]
 ·simp[e]
theorem dm_next:Dm (fre nu f) k (gr nu k)=Dm (fre nu f) (k+1) 0:=by
 funext j c
 unfold Dm
 refine bool3 fun h=>?_
 have h1:c<64 * gr nu j:=by unfold fre at h;simp at h;exact h.1
 by_cases e:j=k
 ·subst e
  have h2:c / 64<gr nu j:=by omega
  simp[h2]
 ·have:(j<k+1)=(j<k):=by simp only[eq_iff_iff];omega
  simp[e,this]
theorem dm_all:Dm (fre nu f) 7 0=fre nu f:=by
 funext j c
 unfold Dm
 cases h:fre nu f j c
 ·rfl
 ·have h1:c<64 * gr nu j:=by unfold fre at h;simp at h;exact h.1
  have:=gr_lt h1
  simp[this]
theorem ctz_form (x:Nat) (hx:x<18446744073709551616) (hx0:x≠0):∃m,x=2 ^ Lib.ctz 64 x * (2 * m+1):=by
 obtain⟨m,h1,_⟩:=Lib.ctzFrom_spec 64 x (by omega) hx
 have e:Lib.ctz 64 x=Lib.ctzFrom 64 x:=if_neg hx0
 rw[e];exact⟨m,h1⟩
theorem low_off (c m j:Nat):((2 ^ c * (2 * m+1)) &&& (2 ^ c * (2 * m+1) - 1)).testBit j=((2 ^ c * (2 * m+1)).testBit j && decide (j≠c)):=by
 have hp:=two_pos c
 have e1:2 ^ c * (2 * m+1) - 1=2 ^ c * (2 * m)+(2 ^ c - 1):=by rw[Nat.mul_add,Nat.mul_one];omega
 rw[Nat.testBit_and]
 have t1:(2 ^ c * (2 * m+1)).testBit j=if j<c then false else (2 * m+1).testBit (j - c):=by
  have:=Nat.testBit_two_pow_mul_add (a:=2 * m+1) (b:=0) (i:=c) (by omega) j
  rw[Nat.add_zero] at this
  rw[this];simp
 have t2:(2 ^ c * (2 * m+1) - 1).testBit j=if j<c then (2 ^ c - 1).testBit j else (2 * m).testBit (j - c):=by
  rw[e1]
  exact Nat.testBit_two_pow_mul_add (a:=2 * m) (b:=2 ^ c - 1) (i:=c) (by omega) j
 rw[t1,t2]
 by_cases h:j<c
 ·simp[h]
 ·simp only[if_neg h]
  by_cases h2:j=c
  ·subst h2
   simp
  ·obtain⟨d,hd⟩:∃d,j - c=d+1:=⟨j - c - 1,by omega⟩
   rw[hd,Nat.testBit_succ,Nat.testBit_succ]
   have e3:(2 * m+1) / 2=m:=by omega
   have e4:2 * m / 2=m:=by omega
   rw[e3,e4]
   simp[h2]
theorem low_test (x:Nat) (hx:x<18446744073709551616) (hx0:x≠0) (j:Nat):(x &&& (x - 1)).testBit j=(x.testBit j && decide (j≠Lib.ctz 64 x)):=by
 obtain⟨m,h⟩:=ctz_form x hx hx0
 have:=low_off (Lib.ctz 64 x) m j
 rw[<-h] at this
 exact this
theorem low_lt (x:Nat) (hx0:x≠0):x &&& (x - 1)<x:=Nat.lt_of_le_of_lt Nat.and_le_right (by omega)
theorem dn_step (x:Nat) (hx:x<18446744073709551616) (hx0:x≠0) (hf:fre nu f k (64 * i+Lib.ctz 64 x)=true):Dn (fre nu f) k i (x &&& (x - 1))=setF (Dn (fre nu f) k i x) k (64 * i+Lib.ctz 64 x) true:=by
 obtain⟨cb1,cb2⟩:=ctz_bit x hx hx0
 funext j c
 unfold setF
 by_cases e:j=k/\c=64 * i+Lib.ctz 64 x
 ·obtain⟨rfl,rfl⟩:=e
  have e1:(64 * i+Lib.ctz 64 x) / 64=i:=by omega
  have e2:(64 * i+Lib.ctz 64 x) % 64=Lib.ctz 64 x:=by omega
  unfold Dn
  rw[hf,e1,e2,low_test x hx hx0]
  simp
 ·rw[if_neg e]
  unfold Dn
  refine bool3 fun _=>?_
  by_cases e1:j=k
  ·subst e1
   by_cases e2:c / 64=i
   ·have:c % 64≠Lib.ctz 64 x:=fun h=>e ⟨rfl,by omega⟩
    rw[low_test x hx hx0]
    simp[this]
   ·simp[e2]
  ·simp[e1]
theorem dn_not (x:Nat) (hx:x<18446744073709551616) (hx0:x≠0):Dn (fre nu f) k i x k (64 * i+Lib.ctz 64 x)=false:=by
 obtain⟨cb1,cb2⟩:=ctz_bit x hx hx0
 have e1:(64 * i+Lib.ctz 64 x) / 64=i:=by omega
 have e2:(64 * i+Lib.ctz 64 x) % 64=Lib.ctz 64 x:=by omega
 unfold Dn
 rw[e1,e2,cb1]
 simp
theorem odd_bits:∀j:Fin 64,(6148914691236517205:Nat).testBit j.val=decide (j.val % 2=0):=by decide +kernel
theorem halves_zero (x:Nat) (hx:x<18446744073709551616) (hf:f (Bw nu k+i)=x) (hi:i<gr nu k) (hk:k<6) {K:Nat->Nat} {hole:Nat->Nat} (inv:Inv nu (fre nu f) K hole):x &&& x / 2 &&& 6148914691236517205=0:=by
 refine Nat.eq_of_testBit_eq fun j=>?_
 rw[Nat.zero_testBit,Nat.testBit_and,Nat.testBit_and]
 by_cases hj:j<64
 ·rw[odd_bits ⟨j,hj⟩]
  by_cases h2:j % 2=0
  ·have e:(x / 2).testBit j=x.testBit (j+1):=(Nat.testBit_succ x j).symm
   rw[e]
   cases h1:x.testBit j
   ·rfl
   ·have b1:fre nu f k (64 * i+j)=true:=by
     unfold fre
     rw[show(64 * i+j) / 64=i by omega,show(64 * i+j) % 64=j by omega,hf,Int.toNat_natCast,h1,decide_eq_true (by omega)];rfl
    have b2:=inv.half k hk _ b1
    have eb:bud (64 * i+j)=64 * i+(j+1):=by unfold bud;rw[if_pos (by omega)];omega
    rw[eb] at b2
    unfold fre at b2
    rw[show(64 * i+(j+1)) / 64=i by omega,show(64 * i+(j+1)) % 64=j+1 by omega,hf,Int.toNat_natCast,decide_eq_true (by omega),Bool.true_and] at b2
    rw[b2];rfl
  ·simp[h2]
 ·rw[Nat.testBit_lt_two_pow (Nat.lt_of_lt_of_le hx (Nat.pow_le_pow_right (n:=2) (j:=j) (by omega) (show 64<=j by omega)))]
  rfl
theorem hv_le {F G:Nat->Nat->Bool} {K:Nat->Nat} (h:∀j c,G j c=true->F j c=true) (u:Nat):hv G K u<=hv F K u:=by
 have H:∀k,(G k (u / 2 ^ k)).toNat<=(F k (u / 2 ^ k)).toNat:=fun k=>by
  cases e:G k (u / 2 ^ k)
  ·simp
  ·rw[h _ _ e];exact Nat.le_refl _
 have h0:=H 0;have h1:=H 1;have h2:=H 2;have h3:=H 3;have h4:=H 4;have h5:=H 5;have h6:=H 6
 simp only[hv,sum7]
 omega
end
def Cz (nu:Nat) (w:World) (hb cb ab sb b:Nat) (T:Tay) (f:Nat->Int) (D:Nat->Nat->Bool) (wr:World):Prop:=
 ∃fr,CovL nu wr hb cb ab sb b T (hv D (ask nu f)) fr/\fr+8 * inP nu (ask nu f)=8 * sumTo (hv D (ask nu f)) nu/\Cb cb ab w wr
theorem hv_none (K:Nat->Nat):hv (fun _ _=>false) K=cv K:=by
 funext u
 rw[hv_cv]
 simp[sum7]
section
variable {nu sz:Nat} {w w' w1:World} {hb cb ab sb b:Nat} {T:Tay} {A:Ab} {P:List (Int×Int)} {g:Nat->Nat} {fr:Nat}
theorem Dn_le {F:Nat->Nat->Bool} {k i x j c:Nat} (h:Dn F k i x j c=true):F j c=true:=by
 unfold Dn at h
 simp only[Bool.and_eq_true] at h
 exact h.1
set_option maxRecDepth 20000 in
theorem c_blocks (h:Hp nu sz w hb sb b T A P) (s:HpS nu (says P A)) (c:CovL nu w hb cb ab sb b T (cv (ask nu (says P A))) 0) :
  Calls Tryz.prog 66 #[ptr cb] w fun e w'=>e = .returned (.bool true)/\Cz nu w hb cb ab sb b T (says P A) (fre nu (says P A)) w':=by
 have HH:=Hd h;have HS:=Hd s;have HC:=Hd c
 clear h s c
 go_enter Tryz.func66,Tryz.ntmps66
 go_wp2_with fail
 go_loopw [6] (fun i wr=>∃k:Nat,k<=7/\i = .int .i64 k/\Cz nu w hb cb ab sb b T (says P A) (Dm (fre nu (says P A)) k 0) wr) (fun i wr=>7 - (intOf i).toNat)
 case atStart=>
  refine⟨0,by omega,rfl,0,?_,?_,Cb.refl _⟩
  ·rw[dm_0,hv_none];exact uh HC
  ·rw[dm_0,hv_none];unfold inP;omega
 case round=>
  obtain⟨k,hk,rfl,hz⟩:=hrel
  by_cases hk7:k<7
  ·have hn4:=(uh HH).hp.geo.hi
   have g8:=gr_le (uh HH).hp.geo k
   obtain⟨fr,hcv,hfr,hcb⟩:=hz
   have hp:=(uh HH).cov (uh HC) hcb
   have BK:=h_blocks hb k hk7 wr (by omega) hp.hp.c1
   have GR:=h_groups ((nu / 2 ^ k:Nat):Int) 64 (Int.natCast_nonneg _) (by have:nu / 2 ^ k<=nu:=Nat.div_le_self _ _;omega) (by omega) (by omega) wr
   rw[gr_eq hk7] at GR
   obtain⟨n,hn⟩:∃n,nu / 2 ^ k=n:=⟨_,rfl⟩
   rw[hn] at BK GR
   have HN:=Hd hn
   clear hn
   have c0:=hcv.c0
   have HZ:=Hd (show Cz nu w hb cb ab sb b T (says P A) (Dm (fre nu (says P A)) k 0) wr from⟨fr,hcv,hfr,hcb⟩)
   clear hp hcv hfr hcb
   go_wp2_with (first | (go_at_call 110;refine BK.mono ?_;rintro e w' ⟨rfl,hh⟩;replace hh:=hh.symm;subst hh) | (go_at_call 108;refine GR.mono ?_;rintro e w' ⟨rfl,hh⟩;replace hh:=hh.symm;subst hh) | fail)
   clear BK GR c0
   go_loopw [16] (fun i wr=>∃m:Nat,m<=gr nu k/\i = .int .i64 m/\Cz nu w hb cb ab sb b T (says P A) (Dm (fre nu (says P A)) k m) wr) (fun i wr=>gr nu k - (intOf i).toNat)
   case atStart=>exact⟨0,by omega,rfl,uh HZ⟩
   case round=>
    clear HZ
    rename_i wr0
    obtain⟨m,hm,rfl,hz⟩:=hrel
    by_cases hlt:m<gr nu k
    ·obtain⟨fr,hcv,hfr,hcb⟩:=hz
     have hp:=(uh HH).cov (uh HC) hcb
     obtain⟨g1,g2,g3,g4,g5,g6⟩:=hp.hp.geo.b
     have bl:=Bw_lt (nu:=nu) (k:=k) (b:=64 * m) (by omega)
     have em:64 * m / 64=m:=by omega
     rw[em] at bl
     obtain⟨r0,r1⟩:=(uh HS).wd (Bw nu k+m) (by omega)
     have LD:=fun q=>hp.reads q (Bw nu k+m) (by omega)
     have c0:=hcv.c0;have h0:=hp.hp.c0;have hck:=hp.hp.cb k hk7
     obtain⟨x,hx⟩:∃x:Nat,says P A (Bw nu k+m)=x:=⟨(says P A (Bw nu k+m)).toNat,by omega⟩
     have hx64:x<18446744073709551616:=by omega
     have e2:((Bw nu k+m:Nat):Int)=(Bw nu k:Int)+(m:Int):=by omega
     simp only[hx,e2] at LD
     have ha1:=u64_and_nat x (x / 2) hx64 (by omega)
     have ha2:=u64_and_nat (x &&& x / 2) 6148914691236517205 (Nat.lt_of_le_of_lt Nat.and_le_left hx64) (by omega)
     have HZ:=Hd (show Cz nu w hb cb ab sb b T (says P A) (Dm (fre nu (says P A)) k m) _ from⟨fr,hcv,hfr,hcb⟩)
     have HLD:=@Hd _ LD;have HX:=Hd hx
     have bl3:Bw nu k+m<=300:=by omega
     clear LD hp hcv hfr hcb hx bl g1 g2 g3 g4 g5 g6 em
     go_wp2_with fail
     refine region_tailP 19 (by kernel_rfl) (by kernel_rfl) ?_
     simp only[List.take_succ_cons,List.take_zero,List.drop_succ_cons,List.drop_zero]
     repeat (go_big_quiet_step (first | (go_at_call 59;exact Calls.quiet_of_same (uh HLD _))))
     refine wpQuiet_nil ?_
     rintro _ ⟨nq,rfl⟩
     clear HLD c0 h0 hck
     have HZ1:Hid (Cz nu w hb cb ab sb b T (says P A) (Dn (fre nu (says P A)) k m x) (wr.drewN nq)):=by
      obtain⟨fr,hcv,hfr,hcb⟩:=uh HZ
      rw[<-dn_word x (uh HX)] at hcv hfr
      exact⟨fr,hcv.still ((Fr.refl _ wr).drewN nq),hfr,hcb.dr ((Fr.refl _ wr).drewN nq)⟩
     clear HZ
     generalize wr.drewN nq=w1 at *
     rcases (show k<6\/k=6 by omega) with hk6 | hk6
     case' inl=>
      have ha3:((x &&& x / 2 &&& 6148914691236517205:Nat):Int)=0:=by rw[halves_zero x hx64 (uh HX) hlt hk6 (uh HS).inv];rfl
      have hk6':((k:Int)<6)=True:=by simp;omega
      have e22:((x / 2:Nat):Int)=(x:Int) / 2:=by omega
      rw[e22] at ha1
      have ha4:bits .and .u64 ((x &&& x / 2:Nat):Int) 6148914691236517205=0:=ha2.trans ha3
      clear ha2 ha3
      generalize x &&& x / 2=z at *
      go_wp2_with fail
     case' inr=>
      have hk6':((k:Int)<6)=False:=by simp;omega
      clear ha1 ha2 hk6
      go_wp2_with fail
     all_goals
      have g8':=gr_le (uh HH).hp.geo k
      obtain⟨Y,hY⟩:∃Y,2 ^ k=Y:=⟨_,rfl⟩
      have hYe:((2:Int) ^ k)=Y:=by rw[<-hY];simp
      have hY6:Y<=64:=by rw[<-hY];exact Nat.pow_le_pow_right (n:=2) (j:=6) (by omega) (by omega)
      have hw8:wrap64 (8 * (Y:Int))=8 * Y:=small_w64 (by omega)
      (try clear ha1);(try clear ha4)
      go_loopw [5] (fun i wr=>∃y:Nat,i = .int .u64 y/\y<18446744073709551616/\(∀j,y.testBit j=true->x.testBit j=true)/\Cz nu w hb cb ab sb b T (says P A) (Dn (fre nu (says P A)) k m y) wr) (fun i wr=>(intOf i).toNat)
      case atStart=>exact⟨x,rfl,hx64,fun _ h=>h,uh HZ1⟩
      case round=>
       clear HZ1
       obtain⟨y,rfl,hy64,hsub,hz⟩:=hrel
       by_cases hy0:y=0
       ·subst hy0
        rw[dn_done] at hz
        have HZ:=Hd hz
        clear hz
        go_wp2
        exact⟨⟨m+1,by omega,by go_num,uh HZ⟩,by simp[intOf];omega⟩
       ·obtain⟨fr,hcv,hfr,hcb⟩:=hz
        have hp:=(uh HH).cov (uh HC) hcb
        have TZ:=tz_ok y hy64 hy0 wr hp.hp.tab
        obtain⟨cb1,cb2⟩:=ctz_bit y hy64 hy0
        have hf:fre nu (says P A) k (64 * m+Lib.ctz 64 y)=true:=by
         unfold fre
         rw[show(64 * m+Lib.ctz 64 y) / 64=m by omega,show(64 * m+Lib.ctz 64 y) % 64=Lib.ctz 64 y by omega,uh HX,Int.toNat_natCast,hsub _ cb1,decide_eq_true (by omega)];rfl
        have hzi:=(uh HS).inv.inside k hk7 _ hf
        have hvle:∀v,v<nu->hv (Dn (fre nu (says P A)) k m y) (ask nu (says P A)) v<=1:=fun v hv'=>Nat.le_trans (hv_le (fun j c h=>Dn_le h) v) (Nat.le_of_eq ((uh HS).inv.cov v hv'))
        have LY:=c_lay hcv k (64 * m+Lib.ctz 64 y) hk7 hzi (fun v hv'=>Nat.le_trans (hvle v hv') (by omega))
        have hst:=dn_step y hy64 hy0 hf
        have hnt:=dn_not (nu:=nu) (f:=says P A) (k:=k) (i:=m) y hy64 hy0
        have hlow:=low_test y hy64 hy0
        have hlt2:=low_lt y hy0
        have ha5:=u64_and_nat y (y - 1) hy64 (by omega)
        rw[show((y - 1:Nat):Int)=(y:Int) - 1 by omega] at ha5
        have hy0':((y:Int) != 0)=true:=by simp;exact hy0
        have hsum:sumTo (hv (Dn (fre nu (says P A)) k m y) (ask nu (says P A))) nu<=nu:=by
         have:=sumTo_le (n:=nu) (g:=hv (Dn (fre nu (says P A)) k m y) (ask nu (says P A))) (h:=fun _=>1) hvle
         rwa [sumTo_one] at this
        have hfr4:fr<=8 * nu:=by omega
        have hz4:=block_lt hzi
        generalize Lib.ctz 64 y=cz at *
        rw[hY] at LY hz4
        have e3:(((64 * m+cz) * Y:Nat):Int)=(64 * (m:Int)+cz) * Y:=by simp
        have e4:(64 * (m:Int)+cz) * Y<=nu:=by rw[<-e3];omega
        have e5:0<=(64 * (m:Int)+cz) * Y:=by rw[<-e3];omega
        rw[e3] at LY
        have HLY:=Hd LY;have HX2:=Hd (ai hfr (ai hcb (ai hst (ai hnt (ai hlow (ai hlt2 (ai hsub hzi)))))))
        have hp9:y &&& (y - 1)<18446744073709551616:=by omega
        generalize hY9:y &&& (y - 1)=y9 at *
        have HY9:=Hd hY9
        clear LY hfr hcb hst hnt hlow hlt2 hsub hp hf hzi hvle hsum hcv e3 hY9 cb1
        go_wp2_with (first | (go_at_call 111;refine TZ.mono ?_;rintro e w' ⟨rfl,hh⟩;replace hh:=hh.symm;subst hh) | fail)
        refine(uh HLY).mono ?_
        clear HLY TZ
        rintro e w4 ⟨rfl,hcv4,hcb4⟩
        have c2:=hcv4.c2;have z1:=hcv4.z1 2
        have HX4:=Hd (ai hcv4 hcb4)
        clear hcv4 hcb4
        go_wp2_with fail
        refine region_tailP 9 (by kernel_rfl) (by kernel_rfl) ?_
        simp only[List.take_succ_cons,List.take_zero,List.drop_succ_cons,List.drop_zero]
        repeat (go_big_quiet_step (first | fail))
        refine wpQuiet_nil ?_
        rintro _ ⟨nq2,rfl⟩
        have c2':(w4.drewN nq2).cell? ⟨cb,2,none⟩=some (.int .i64 fr):=c2
        have z1':(w4.drewN nq2).frozen? ⟨cb,2,none⟩=false:=z1
        have X5:=((uh HX4).1.still ((Fr.refl _ w4).drewN nq2)).more (fr+8 * Y)
        rw[show((fr+8 * Y:Nat):Int)=(fr:Int)+8 * Y by omega] at X5
        have HX5:=Hd X5
        clear X5
        have HX6:=Hd ((uh HX4).2.dr ((Fr.refl _ w4).drewN nq2))
        clear HX4 c2 z1
        generalize w4.drewN nq2=w5 at *
        go_wp2
        obtain⟨hfr,hcb,hst,hnt,hlow,hlt2,hsub,hzi⟩:=uh HX2
        have hhv:∀v,hv (Dn (fre nu (says P A)) k m y9) (ask nu (says P A)) v=hv (Dn (fre nu (says P A)) k m y) (ask nu (says P A)) v+ind k (64 * m+cz) v:=fun v=>by
         rw[hst]
         have:=hv_setF (F:=Dn (fre nu (says P A)) k m y) (K:=ask nu (says P A)) (b:=64 * m+cz) hk7 true v
         rw[hnt] at this
         unfold ind
         split at this
         ·rename_i e;rw[if_pos e];simpa using this
         ·rename_i e;rw[if_neg e];simpa using this
        refine⟨⟨y9,rfl,by omega,fun j hj=>?_,fr+8 * Y,(uh HX5).1.same (fun v _=>hhv v),?_,(hcb.trans (uh HX6)).trans (uh HX5).2⟩,by simp[intOf];omega⟩
        ·have:=hlow j
         rw[hj] at this
         have h2:=this.symm
         simp only[Bool.and_eq_true] at h2
         exact hsub j h2.1
        ·rw[sumTo_congr (fun v _=>hhv v),sumTo_add,sum_block hzi,hY]
         omega
    ·have:m=gr nu k:=by omega
     subst this
     have HZ:=Hd hz
     clear hz
     go_wp2
     refine⟨⟨k+1,by omega,by go_num,?_⟩,by simp[intOf];omega⟩
     have hz:=uh HZ
     rw[dm_next] at hz
     exact hz
  ·have:k=7:=by omega
   subst this
   have HZ:=Hd hz
   clear hz
   go_wp2
   go_ret
   have hz:=uh HZ
   rw[dm_all] at hz
   exact⟨rfl,hz⟩
end
end

section
section
variable {nu sz:Nat} {w w' w1:World} {hb cb ab sb b:Nat} {T:Tay} {A:Ab} {P:List (Int×Int)} {g:Nat->Nat} {fr:Nat}
set_option maxRecDepth 20000 in
theorem c_whole (h:Hp nu sz w hb sb b T A P) (s:HpS nu (says P A)) (c:CovL nu w hb cb ab sb b T (hv (fre nu (says P A)) (ask nu (says P A))) fr) (hfr:fr+8 * inP nu (ask nu (says P A))=8 * sumTo (hv (fre nu (says P A)) (ask nu (says P A))) nu) :
  Calls Tryz.prog 67 #[ptr cb] w fun e w'=>e = .returned (.bool true)/\Dr w w':=by
 have hone:∀v,v<nu->hv (fre nu (says P A)) (ask nu (says P A)) v=1:=fun v hv'=>s.inv.cov v hv'
 have hsum:sumTo (hv (fre nu (says P A)) (ask nu (says P A))) nu=nu:=by
  rw[sumTo_congr hone,sumTo_one]
 have hf1:says P A 1=fr:=by rw[s.fr];omega
 have hfr4:fr<=8 * nu:=by omega
 obtain⟨g1,g2,g3,g4,g5,g6⟩:=h.hp.geo.b
 have c0:=c.c0;have c1:=c.c1;have c2:=c.c2;have h0:=h.hp.c0
 have LD:∀q,Calls Tryz.prog 59 #[ptr sb,.int .i64 1] (w.drewN q) _:=fun q=>h.reads q 1 (by omega)
 rw[hf1] at LD
 have HLD:=@Hd _ LD;have HC:=Hd c;have HO:=Hd hone
 have hn4:=g5.2
 clear LD c hone hsum hf1 s h hfr g1 g2 g3 g4 g5 g6
 go_enter Tryz.func67,Tryz.ntmps67
 go_wp2_with fail
 go_loopw [10] (fun i wr=>∃m:Nat,m<=nu/\i = .int .i64 m/\Dr w wr) (fun i wr=>nu - (intOf i).toNat)
 case atStart=>exact⟨0,by omega,rfl,Dr.refl w⟩
 case round=>
  obtain⟨m,hm,rfl,D⟩:=hrel
  have hc:=(uh HC).still D.still
  by_cases hlt:m<nu
  ·have cm:=hc.by_ m hlt
   rw[uh HO m hlt] at cm
   have HD:=Hd D
   clear D hc
   go_wp2
   exact⟨⟨m+1,by omega,by go_num,uh HD⟩,by simp[intOf];omega⟩
  ·have:m=nu:=by omega
   subst this
   have c0:=hc.c0;have c2:=hc.c2;have h0:=D.still.cell' h0 id
   obtain⟨q0,hq0⟩:=D
   have HLD:Hid (∀q,Calls Tryz.prog 59 #[ptr sb,.int .i64 1] (wr.drewN q) fun e w'=>e = .returned (u64 fr)/\w'=wr.drewN q):=by
    intro q
    have e:wr.drewN q=w.drewN (q0+q):=by rw[hq0];simp[World.drewN,Nat.add_assoc]
    rw[e];exact uh HLD (q0+q)
   have HQ:=Hd hq0
   clear hq0 hc
   go_wp2_with fail
   refine region_tailP 14 (by kernel_rfl) (by kernel_rfl) ?_
   simp only[List.take_succ_cons,List.take_zero,List.drop_succ_cons,List.drop_zero]
   repeat (go_big_quiet_step (first | (go_at_call 59;exact Calls.quiet_of_same (uh HLD _))))
   refine wpQuiet_nil ?_
   rintro _ ⟨nq,rfl⟩
   go_wp2
   go_ret
   exact⟨by simp,q0+nq,by rw[uh HQ];simp[World.drewN,Nat.add_assoc]⟩
set_option maxRecDepth 20000 in
theorem h_check (h:Hp nu sz w hb sb b T A P) (s:HpS nu (says P A)):Calls Tryz.prog 29 #[ptr hb] w fun e w'=>e = .returned (.int .i64 0)/\St w w':=by
 have h0:=h.hp.c0;have h1:=h.hp.c1
 obtain⟨g1,g2,g3,g4,g5,g6⟩:=h.hp.geo.b
 have m2:(Instr.makeSlice 45 (.int .i64 nu) (.int .i64 nu)).run Tryz.prog w = .ok (row w.heap.size nu) (w.alloc (.cells (zeroInts nu) 3)):=make_ints nu (by omega) w
 obtain⟨W1,hW1⟩:∃W1,w.alloc (.cells (zeroInts nu) 3)=W1:=⟨_,rfl⟩
 obtain⟨W,hW⟩:∃W,W1.alloc (.cells #[ptr hb,.slice (some ⟨w.heap.size,0,none⟩) nu nu,.int .i64 0] 115)=W:=⟨_,rfl⟩
 have z1:W1.heap.size=w.heap.size+1:=by rw[<-hW1];simp
 have f1:St w W1:=hW1▸(Fr.refl _ w).alloc _
 have f2:St W1 W:=hW▸(Fr.refl _ W1).alloc _
 have fW:St w W:=f1.trans' f2 nE
 have ba:W.heap[w.heap.size]? = some (.cells (zeroInts nu) 3 (0,0)):=by
  have e1:W1.heap[w.heap.size]? = some (.cells (zeroInts nu) 3 (0,0)):=hW1▸heap_alloc_new w _
  rw[f2.block w.heap.size (by omega) id];exact e1
 have bc:W.heap[w.heap.size+1]? = some (.cells #[ptr hb,.slice (some ⟨w.heap.size,0,none⟩) nu nu,.int .i64 0] 115 (0,0)):=by
  have:=heap_alloc_new W1 (.cells #[ptr hb,.slice (some ⟨w.heap.size,0,none⟩) nu nu,.int .i64 0] 115)
  rw[hW,z1] at this;exact this
 have nt:∀k,w.heap.size<=k->¬tfoot sb b T k:=fun k hk ht=>by have:=h.st.lt k ht;omega
 have l1:=h.lth;have l0:=h.lt0
 have cv0:CovL nu W hb (w.heap.size+1) w.heap.size sb b T (fun _=>0) 0:=
  { c0:=(by rw[cOo bc];rfl),c1:=(by rw[cOo bc];rfl),c2:=(by rw[cOo bc];rfl),by_:=(fun u hu=>by rw[cOo ba,zeroInts_get nu u hu];rfl),z1:=(fun o=>by unfold World.frozen?;rw[bc];simp),z2:=(fun o=>by unfold World.frozen?;rw[ba];simp),ne:=(by omega),n1:=nt _ (by omega),n2:=nt _ (by omega),h1:=⟨by omega,by omega⟩,h2:=⟨by omega,by omega⟩,hn:=⟨by omega,by omega⟩ }
 have hWp:=h.still fW
 have LD:Calls Tryz.prog 59 #[ptr sb,.int .i64 0] W _:=hWp.load 0 (by omega)
 rw[s.mrk] at LD
 have PC:=c_pieces hWp s cv0
 have h0W:=hWp.hp.c0
 have HS:=Hd s;have HWP:=Hd hWp;have HLD:=Hd LD;have HPC:=Hd PC;have HCV0:=Hd cv0;have HFW:=Hd fW
 rw[<-hW1] at hW
 rw[<-hW] at h0W
 have HW:=Hd hW
 clear h s hWp LD PC cv0 fW f1 f2 hW hW1 ba bc nt z1
 go_enter Tryz.func29,Tryz.ntmps29
 go_wp2_with fail
 rw[uh HW]
 refine(uh HLD).mono ?_
 clear HLD
 rintro e w' ⟨rfl,hh⟩
 replace hh:=hh.symm
 subst hh
 go_wp2_with fail
 refine(uh HPC).mono ?_
 clear HPC
 rintro e w2 ⟨rfl,hcv2,hcb2⟩
 have hp2:=(uh HWP).cov (uh HCV0) hcb2
 have BL:=c_blocks hp2 (uh HS) hcv2
 have HBL:=Hd BL;have HCV2:=Hd hcv2;have HCB2:=Hd hcb2;have HP2:=Hd hp2
 clear BL hcv2 hcb2 hp2
 go_wp2_with fail
 refine(uh HBL).mono ?_
 clear HBL
 rintro e w3 ⟨rfl,fr,hcv3,hfr,hcb3⟩
 have hp3:=(uh HP2).cov (uh HCV2) hcb3
 have WH:=c_whole hp3 (uh HS) hcv3 hfr
 have HWH:=Hd WH;have HCB3:=Hd hcb3
 clear WH hcv3 hcb3 hp3 hfr
 go_wp2_with fail
 refine(uh HWH).mono ?_
 clear HWH
 rintro e w4 ⟨rfl,D⟩
 have HD:=Hd D
 clear D
 go_wp2
 go_ret
 have hcb:Cb (w.heap.size+1) w.heap.size W w4:=((uh HCB2).trans (uh HCB3)).dr (uh HD).still
 exact⟨rfl,(uh HFW).trans' hcb (fun k hk=>by rcases hk with e | e <;> right <;> omega)⟩
end
end

section
structure HpU (w:World) (hb sb u:Nat) (B:Nat->Int) (a f:Int):Prop where
 c0:w.cell? ⟨hb,0,none⟩=some (ptr sb)
 c1:w.cell? ⟨hb,1,none⟩=some (.int .i64 u)
 cb:∀k,k<7->w.cell? ⟨hb,2+k,none⟩=some (.int .i64 (B k))
 c9:w.cell? ⟨hb,9,none⟩=some (.int .i64 a)
 c10:w.cell? ⟨hb,10,none⟩=some (.int .i64 f)
 zs:∀o,w.frozen? ⟨hb,o,none⟩=false
section
variable {nu sz:Nat} {w w':World} {hb sb u:Nat} {B:Nat->Int} {a f:Int}
theorem HpU.setB (h:HpU w hb sb u B a f) (k:Nat) (hk:k<7) (v:Int):HpU (w.setCell ⟨hb,2+k,none⟩ (.int .i64 v)) hb sb u (upd B k v) a f:=by
 have o:∀i,i≠2+k->(w.setCell ⟨hb,2+k,none⟩ (.int .i64 v)).cell? ⟨hb,i,none⟩=w.cell? ⟨hb,i,none⟩:=fun i hi=>World.cell?_setCell_other _ _ _ _ (by simp <;> omega)
 refine⟨by rw[o 0 (by omega)];exact h.c0,by rw[o 1 (by omega)];exact h.c1,fun j hj=>?_,by rw[o 9 (by omega)];exact h.c9,by rw[o 10 (by omega)];exact h.c10,fun i=>by rw[World.frozen?_setCell];exact h.zs i⟩
 by_cases e:j=k
 ·subst e;rw[upd_same];exact World.cell?_setCell_same _ _ _ (h.cb j hj)
 ·rw[o (2+j) (by omega),upd_other _ _ e];exact h.cb j hj
theorem HpU.setA (h:HpU w hb sb u B a f) (v:Int):HpU (w.setCell ⟨hb,9,none⟩ (.int .i64 v)) hb sb u B v f:=by
 have o:∀i,i≠9->(w.setCell ⟨hb,9,none⟩ (.int .i64 v)).cell? ⟨hb,i,none⟩=w.cell? ⟨hb,i,none⟩:=fun i hi=>World.cell?_setCell_other _ _ _ _ (by simp <;> omega)
 exact⟨by rw[o 0 (by omega)];exact h.c0,by rw[o 1 (by omega)];exact h.c1,fun j hj=>by rw[o _ (by omega)];exact h.cb j hj,World.cell?_setCell_same _ _ _ h.c9,by rw[o 10 (by omega)];exact h.c10,fun i=>by rw[World.frozen?_setCell];exact h.zs i⟩
theorem HpU.setF (h:HpU w hb sb u B a f) (v:Int):HpU (w.setCell ⟨hb,10,none⟩ (.int .i64 v)) hb sb u B a v:=by
 have o:∀i,i≠10->(w.setCell ⟨hb,10,none⟩ (.int .i64 v)).cell? ⟨hb,i,none⟩=w.cell? ⟨hb,i,none⟩:=fun i hi=>World.cell?_setCell_other _ _ _ _ (by simp <;> omega)
 exact⟨by rw[o 0 (by omega)];exact h.c0,by rw[o 1 (by omega)];exact h.c1,fun j hj=>by rw[o _ (by omega)];exact h.cb j hj,by rw[o 9 (by omega)];exact h.c9,World.cell?_setCell_same _ _ _ h.c10,fun i=>by rw[World.frozen?_setCell];exact h.zs i⟩
theorem HpU.setU (h:HpU w hb sb u B a f) (v:Nat):HpU (w.setCell ⟨hb,1,none⟩ (.int .i64 v)) hb sb v B a f:=by
 have o:∀i,i≠1->(w.setCell ⟨hb,1,none⟩ (.int .i64 v)).cell? ⟨hb,i,none⟩=w.cell? ⟨hb,i,none⟩:=fun i hi=>World.cell?_setCell_other _ _ _ _ (by simp <;> omega)
 exact⟨by rw[o 0 (by omega)];exact h.c0,World.cell?_setCell_same _ _ _ h.c1,fun j hj=>by rw[o _ (by omega)];exact h.cb j hj,by rw[o 9 (by omega)];exact h.c9,by rw[o 10 (by omega)];exact h.c10,fun i=>by rw[World.frozen?_setCell];exact h.zs i⟩
theorem HpU.still (h:HpU w hb sb u B a f) (hf:St w w'):HpU w' hb sb u B a f:=
 ⟨hf.cell' h.c0 id,hf.cell' h.c1 id,fun k hk=>hf.cell' (h.cb k hk) id,hf.cell' h.c9 id,hf.cell' h.c10 id,fun o=>by rw[World.frozen?_of_block (a:=⟨hb,o,none⟩) (hf.block hb (World.block_lt_of_cell? _ _ h.c0) id)];exact h.zs o⟩
set_option maxRecDepth 20000 in
theorem h_layOut (h:HpU w hb sb u B a f) (h2:u<=8000) :
  Calls Tryz.prog 121 #[ptr hb] w fun e w'=>e = .returned (.tuple #[])/\HpU w' hb sb u (fun k=>(Bw u k:Int)) (aw u) (fi u)/\Fr (fun k=>k=hb) w w':=by
 have HH:=Hd h
 clear h
 go_enter Tryz.func121,Tryz.ntmps121
 go_wp2_with fail
 go_loopw [4,2] (fun i p wr=>∃k:Nat,k<=7/\i = .int .i64 k/\p = .int .i64 (Bw u k)/\∃B',HpU wr hb sb u B' a f/\(∀j,j<k->B' j=Bw u j)/\Fr (fun k=>k=hb) w wr) (fun i p wr=>7 - (intOf i).toNat)
 case atStart=>exact⟨0,by omega,rfl,rfl,B,uh HH,fun j hj=>by omega,Fr.refl _ w⟩
 case round=>
  obtain⟨k,hk,rfl,rfl,B',hu,hB,hf⟩:=hrel
  by_cases hk7:k<7
  ·have b36:Bw u k<=300:=by have:=Bw_mono (nu:=u) hk7;have:=aw_le h2;unfold aw at this;omega
   have st:=hu.setB k hk7 (Bw u k)
   have ck:=hu.cb k hk7;have zk:=hu.zs (2+k)
   have hs:Bw u (k+1)=Bw u k+gr u k:=rfl
   have BK:=h_blocks hb k hk7 _ h2 st.c1
   have GR:=h_groups ((u / 2 ^ k:Nat):Int) 64 (Int.natCast_nonneg _) (by have:u / 2 ^ k<=u:=Nat.div_le_self _ _;omega) (by omega) (by omega) (wr.setCell ⟨hb,2+k,none⟩ (.int .i64 (Bw u k)))
   rw[gr_eq hk7] at GR
   obtain⟨n,hn⟩:∃n,u / 2 ^ k=n:=⟨_,rfl⟩
   rw[hn] at BK GR
   have g8:gr u k<=126:=by have:=gr_le' u k;omega
   have HX:=Hd (ai st (ai hB hf));have HHS:=Hd hs
   have hbk:∃bk,Bw u k=bk:=⟨_,rfl⟩
   clear hu st hB hf hn hs
   obtain⟨bk,hbk⟩:=hbk
   have HB0:=Hd hbk
   rw[hbk] at b36 BK GR HX HHS
   rw[hbk]
   clear hbk
   have hgr:∃gk,gr u k=gk:=⟨_,rfl⟩
   obtain⟨gk,hgk⟩:=hgr
   rw[hgk] at g8 GR HHS
   clear hgk
   go_wp2_with (first | (go_at_call 110;refine BK.mono ?_;rintro e w' ⟨rfl,hh⟩;replace hh:=hh.symm;subst hh) | (go_at_call 108;refine GR.mono ?_;rintro e w' ⟨rfl,hh⟩;replace hh:=hh.symm;subst hh) | fail)
   obtain⟨st,hB,hf⟩:=uh HX
   refine⟨⟨k+1,by omega,by go_num,by rw[uh HHS];simp,_,st,fun j hj=>?_,hf.setCell (.inl rfl) _⟩,by simp[intOf];omega⟩
   by_cases e:j=k
   ·subst e;rw[upd_same,uh HB0]
   ·rw[upd_other _ _ e];exact hB j (by omega)
  ·have:k=7:=by omega
   subst this
   obtain⟨a7,ha7⟩:∃a7,aw u=a7:=⟨_,rfl⟩
   have ha3:=aw_le h2
   have q7:Bw u 7=a7:=ha7
   rw[ha7] at ha3
   have st1:=hu.setA a7
   have G1:=h_groups u 4 (by omega) (by omega) (by omega) (by omega) (wr.setCell ⟨hb,9,none⟩ (.int .i64 a7))
   have e1:((u:Int)+4 - 1) / 4=((u+3) / 4:Nat):=by omega
   rw[e1] at G1
   have c9:=hu.c9;have z9:=hu.zs 9;have c1:=st1.c1
   obtain⟨n,hn⟩:∃n,(u+3) / 4=n:=⟨_,rfl⟩
   have hn5:n<=2001:=by omega
   rw[hn] at G1
   have G2:=h_groups ((a7:Int)+(n:Int)) 8 (by omega) (by omega) (by omega) (by omega) (wr.setCell ⟨hb,9,none⟩ (.int .i64 a7))
   have e2:((a7:Int)+(n:Int)+8 - 1) / 8=((a7+n+7) / 8:Nat):=by omega
   rw[e2] at G2
   obtain⟨m,hm⟩:∃m,(a7+n+7) / 8=m:=⟨_,rfl⟩
   have hm5:m<=400:=by omega
   rw[hm] at G2
   have st2:=st1.setF ((m:Int) * 8)
   have c10:=st1.c10;have z10:=st1.zs 10
   have hfst:fi u=m * 8:=by unfold fi qa;rw[ha7,hn,hm]
   have HX:=Hd (ai st2 (ai hB hf));have HFS:=Hd hfst;have HA7:=Hd ha7
   clear hu st1 st2 hB hf hn hm e1 e2 hfst ha7
   rw[q7]
   clear q7
   go_wp2_with fail
   refine G1.mono ?_
   rintro e w' ⟨rfl,hh⟩
   replace hh:=hh.symm
   subst hh
   clear G1
   go_wp2_with fail
   refine G2.mono ?_
   rintro e w' ⟨rfl,hh⟩
   replace hh:=hh.symm
   subst hh
   clear G2
   go_wp2
   go_end0
   obtain⟨st,hB,hf⟩:=uh HX
   refine⟨rfl,⟨st.c0,st.c1,fun k hk=>by rw[<-hB k hk];exact st.cb k hk,by rw[uh HA7];exact st.c9,?_,st.zs⟩,(hf.setCell (.inl rfl) _).setCell (.inl rfl) _⟩
   rw[uh HFS]
   have:=st.c10
   simpa using this
def unitsOf (w:World) (hb:Nat):Nat:=match w.cell? ⟨hb,1,none⟩ with | some (.int _ z)=>z.toNat | _=>0
theorem HpU.units (h:HpU w hb sb u B a f):unitsOf w hb=u:=by unfold unitsOf;rw[h.c1];simp
set_option maxRecDepth 20000 in
theorem h_laidOut (G:Geo nu sz) (c2:w.cell? ⟨sb,2,none⟩=some (.int .i64 sz)) :
  Calls Tryz.prog 76 #[ptr sb] w fun e w'=>e = .returned (ptr w.heap.size)/\HpU w' w.heap.size sb nu (fun k=>(Bw nu k:Int)) (aw nu) (fi nu)/\St w w'/\w.heap.size<w'.heap.size:=by
 have SZ:Calls Tryz.prog 75 #[ptr sb] w fun e w'=>e = .returned (.int .i64 sz)/\w'=w:=t_size (n:=sz) c2
 obtain⟨W,hW⟩:∃W,w.alloc (.cells #[ptr sb,.int .i64 ((sz:Int) / 8),.int .i64 0,.int .i64 0,.int .i64 0,.int .i64 0,.int .i64 0,.int .i64 0,.int .i64 0,.int .i64 0,.int .i64 0] 109)=W:=⟨_,rfl⟩
 have fW:St w W:=hW▸(Fr.refl _ w).alloc _
 have zW:W.heap.size=w.heap.size+1:=by rw[<-hW];simp
 have bW:W.heap[w.heap.size]? = some (.cells #[ptr sb,.int .i64 ((sz:Int) / 8),.int .i64 0,.int .i64 0,.int .i64 0,.int .i64 0,.int .i64 0,.int .i64 0,.int .i64 0,.int .i64 0,.int .i64 0] 109 (0,0)):=hW▸heap_alloc_new w _
 have hU:HpU W w.heap.size sb (sz / 8) (fun _=>0) 0 0:=by
  refine⟨by rw[cOo bW];rfl,by rw[cOo bW];simp,fun k hk=>?_,by rw[cOo bW];rfl,by rw[cOo bW];rfl,fun o=>by unfold World.frozen?;rw[bW];simp⟩
  rw[cOo bW]
  rcases lt7 hk with rfl | rfl | rfl | rfl | rfl | rfl | rfl <;> rfl
 obtain⟨g1,g2,g3,g4,g5,g6⟩:=G.b
 have LO:=h_layOut hU (by omega)
 have HLO:=Hd LO;have HFW:=Hd fW;have HW:=Hd hW;have HZW:=Hd zW
 have hsb:sb<w.heap.size:=World.block_lt_of_cell? _ _ c2
 have c2W:W.cell? ⟨sb,2,none⟩=some (.int .i64 sz):=fW.cell' c2 id
 clear LO fW hW bW hU zW
 go_enter Tryz.func76,Tryz.ntmps76
 go_wp2_with (first | (go_at_call 75;refine SZ.mono ?_;rintro e w' ⟨rfl,hh⟩;replace hh:=hh.symm;subst hh) | fail)
 rw[uh HW]
 refine(uh HLO).mono ?_
 clear HLO SZ
 rintro e w1 ⟨rfl,hu1,hf1⟩
 have HX1:=Hd (ai hu1 hf1)
 clear hu1 hf1
 go_wp2_with fail
 go_loopw [12] (fun p wr=>∃u,nu<=u/\u<=sz / 8/\HpU wr w.heap.size sb u (fun k=>(Bw u k:Int)) (aw u) (fi u)/\Fr (fun k=>k=w.heap.size) W wr) (fun p wr=>unitsOf wr w.heap.size)
 case atStart=>exact⟨sz / 8,by omega,by omega,(uh HX1).1,(uh HX1).2⟩
 case round=>
  clear HX1
  obtain⟨u,hu1,hu2,hu,hf⟩:=hrel
  have AL:∀q,Calls Tryz.prog 122 #[ptr w.heap.size] (wr.drewN q) _:=fun q=>h_all w.heap.size u (by omega) (wr.drewN q) hu.c1
  have c2r:wr.cell? ⟨sb,2,none⟩=some (.int .i64 sz):=hf.cell' c2W (fun e=>by have e:sb=w.heap.size:=e;omega)
  have SZ:∀q,Calls Tryz.prog 75 #[ptr sb] (wr.drewN q) fun e w'=>e = .returned (.int .i64 sz)/\w'=wr.drewN q:=fun q=>t_size (n:=sz) c2r
  have c10:=hu.c10
  have f5:=fi_top (nu:=u) (by omega)
  have hcnd:(sz:Int)<(fi u:Int)+u * 8 ↔ nu<u:=by
   constructor
   ·intro hh
    refine Classical.byContradiction fun hn=>?_
    have e:u=nu:=by omega
    subst e
    omega
   ·intro hh
    have:=G.stop u hh hu2
    omega
  have HAL:=@Hd _ AL;have HSZ:=@Hd _ SZ;have HX:=Hd (ai hu hf)
  clear AL SZ
  by_cases hlt:nu<u
  ·have hc':((sz:Int)<(fi u:Int)+u * 8)=True:=by rw[hcnd];simp[hlt]
   have c1:=hu.c1;have z1:=hu.zs 1
   have LO:∀q,Calls Tryz.prog 121 #[ptr w.heap.size] ((wr.drewN q).setCell ⟨w.heap.size,1,none⟩ (.int .i64 ((u:Int) - 1))) fun e w'=>e = .returned (.tuple #[])/\HpU w' w.heap.size sb (u - 1) (fun k=>(Bw (u - 1) k:Int)) (aw (u - 1)) (fi (u - 1))/\Fr (fun k=>k=w.heap.size) ((wr.drewN q).setCell ⟨w.heap.size,1,none⟩ (.int .i64 ((u:Int) - 1))) w':=fun q=>by
    have:=(hu.still ((Fr.refl _ wr).drewN q)).setU (u - 1)
    rw[show((u - 1:Nat):Int)=(u:Int) - 1 by omega] at this
    exact h_layOut this (by omega)
   have HLO:=@Hd _ LO
   have HUN:=Hd hu.units;have HF:=Hd hf
   clear hu hf LO hcnd HX
   generalize hfu:fi u=fu at *
   go_wp2_with fail
   refine region_tailP 9 (by kernel_rfl) (by kernel_rfl) ?_
   simp only[List.take_succ_cons,List.take_zero,List.drop_succ_cons,List.drop_zero]
   repeat (go_big_quiet_step (first | (go_at_call 122;exact Calls.quiet_of_same (uh HAL _)) | (go_at_call 75;exact Calls.quiet_of_same (uh HSZ _))))
   refine wpQuiet_nil ?_
   rintro _ ⟨nq,rfl⟩
   have c1':(wr.drewN nq).cell? ⟨w.heap.size,1,none⟩=some (.int .i64 u):=c1
   have z1':(wr.drewN nq).frozen? ⟨w.heap.size,1,none⟩=false:=z1
   clear HAL HSZ c1 z1 c10 c2r hfu
   go_wp2_with fail
   refine(uh HLO nq).mono ?_
   clear HLO
   rintro e w3 ⟨rfl,hu3,hf3⟩
   have HX3:=Hd (ai hu3 hf3)
   clear hu3 hf3 c1' z1'
   go_wp2
   obtain⟨hu3,hf3⟩:=uh HX3
   refine⟨⟨u - 1,by omega,by omega,hu3,?_⟩,?_⟩
   ·exact(((uh HF).drewN nq).setCell (.inl rfl) _).trans hf3
   ·rw[hu3.units,uh HUN];omega
  ·have e:nu=u:=by omega
   subst e
   have hc':((sz:Int)<(fi nu:Int)+(nu:Nat) * 8)=False:=by rw[hcnd];simp
   clear hu hf hcnd
   go_wp2_with fail
   refine region_tailP 9 (by kernel_rfl) (by kernel_rfl) ?_
   simp only[List.take_succ_cons,List.take_zero,List.drop_succ_cons,List.drop_zero]
   repeat (go_big_quiet_step (first | (go_at_call 122;exact Calls.quiet_of_same (uh HAL _)) | (go_at_call 75;exact Calls.quiet_of_same (uh HSZ _))))
   refine wpQuiet_nil ?_
   rintro _ ⟨nq,rfl⟩
   clear HAL HSZ
   go_wp2
   go_ret
   obtain⟨hu,hf⟩:=uh HX
   have hf':=hf.drewN nq
   refine⟨rfl,?_,(uh HFW).trans' hf' (fun k hk=>.inr (by omega)),by have:=hf'.size;have:=uh HZW;omega⟩
   exact hu.still ((Fr.refl _ wr).drewN nq)
end
end

section
structure OnxX (X:Nat->Prop) (w0:World) (sb b:Nat) (T0:Tay) (w:World) (T:Tay) (n:Nat) (A:Ab) (P:List (Int×Int)) (dd:Bool):Prop where
 st:StL w sb b T n A P dd
 fr:Fr (fun k=>tfoot sb b T0 k\/X k) w0 w
 sub:∀k,tfoot sb b T k->tfoot sb b T0 k\/w0.heap.size<=k
section
variable {X:Nat->Prop} {w w' w0:World} {sb b:Nat} {T T0 T':Tay} {n N:Nat} {A A':Ab} {P P':List (Int×Int)} {dd dd':Bool} {free:Prop} {s:Int} {f base:Nat->Int}
theorem OnxX.of (h:Onx w0 sb b T0 w T n A P dd):OnxX X w0 sb b T0 w T n A P dd:=⟨h.st,h.fr.mono (fun _ hk=>.inl (.inl hk)),h.sub⟩
theorem OnxX.trans {w1:World} {T1:Tay} {A1:Ab} {P1:List (Int×Int)} {dd1:Bool} (h:OnxX X w0 sb b T0 w T n A P dd) (k:Onx w sb b T w1 T1 n A1 P1 dd1):OnxX X w0 sb b T0 w1 T1 n A1 P1 dd1:=
 ⟨k.st,h.fr.trans' k.fr (fun j hj=>(h.sub j hj).imp .inl id),fun j hj=>(k.sub j hj).elim (h.sub j) (fun x=>.inr (Nat.le_trans h.fr.size x))⟩
theorem OnxX.after {w1:World} (h:OnxX X w1 sb b T0 w T n A P dd) (hf:St w0 w1):OnxX X w0 sb b T0 w T n A P dd:=
 ⟨h.st,(hf.mono (G:=fun k=>tfoot sb b T0 k\/X k) (fun _ hk=>hk.elim)).trans h.fr,fun k hk=>(h.sub k hk).imp id (fun x=>Nat.le_trans hf.size x)⟩
theorem OnxX.quiet (h:OnxX X w0 sb b T0 w T n A P dd) (hf:St w w'):OnxX X w0 sb b T0 w' T n A P dd:=⟨h.st.still hf,h.fr.trans' hf (fun _ hk=>hk.elim),h.sub⟩
theorem OnxX.var (h:OnxX X w0 sb b T0 w T n A P dd) {F:Nat->Prop} (hf:Fr F w w') (h1:∀k,F k->X k) (h2:∀k,F k->¬tfoot sb b T k):OnxX X w0 sb b T0 w' T n A P dd:=
 ⟨h.st.kept hf (fun k hk hF=>h2 k hF hk),h.fr.trans' hf (fun k hk=>.inl (.inr (h1 k hk))),h.sub⟩
theorem OnxX.turn (h:OnxX X w0 sb b T0 w T n A P dd) {F:Nat->Prop} (hf:Fr F w w') (h1:∀k,F k->¬tfoot sb b T k) (h2:∀k,F k->w0.heap.size<=k):OnxX X w0 sb b T0 w' T n A P dd:=
 ⟨h.st.kept hf (fun k hk hF=>h1 k hF hk),h.fr.trans' hf (fun k hk=>.inr (h2 k hk)),h.sub⟩
theorem OnxX.other (h:OnxX X w0 sb b T0 w T n A P dd) {k:Nat} (hk:k<w0.heap.size) (hn:¬tfoot sb b T0 k):¬tfoot sb b T k:=fun hf=>by
 rcases h.sub k hf with e | e
 ·exact hn e
 ·omega
theorem OnxX.boxed {w2 w3:World} (h:StL w sb b T n A P dd) (f0:St w0 w) (o:OnxX X (w.alloc box) sb b T w2 T' n A' P' dd') (hf:Fr (fun k=>k=w.heap.size) w2 w3):OnxX X w0 sb b T w3 T' n A' P' dd':=by
 have o1:=o.after (f0.alloc box)
 refine o1.turn hf (fun k hk ht=>?_) (fun k hk=>by have:=f0.size;omega)
 rcases o.sub k ht with e | e
 ·have:=h.lt k e;omega
 ·have:(w.alloc box).heap.size=w.heap.size+1:=by simp
  omega
def ChangeX (X:Nat->Prop) (w:World) (sb b:Nat) (T:Tay) (n:Nat) (A:Ab) (fv:Value) (R:How->List (Int×Int)->World->Prop):Prop:=
 ∀w1,St w w1->Acts fv w1 fun h w2=>(h = .well\/∃i,h = .errno i)/\∃T' P',OnxX X w1 sb b T w2 T' n A P' false/\R h P' w2
def Stays (X:Nat->Prop) (R:How->List (Int×Int)->World->Prop):Prop:=∀(h:How) (P:List (Int×Int)) (w w':World) (F:Nat->Prop),R h P w->Fr F w w'->(∀k,X k->¬F k)->R h P w'
def DidX (X:Nat->Prop) (w:World) (sb b:Nat) (T:Tay) (n N:Nat) (free:Prop) (A:Ab) (s:Int) (base:Nat->Int) (R:How->List (Int×Int)->World->Prop) (e:Ending) (w':World):Prop:=
 (∃P',R .well P' w'/\e = .returned (.int .i64 0)/\∃T' A',OnxX X w sb b T w' T' n A' [] false/\Done N free (s+30729) base P' A')\/
 (∃P',R .well P' w'/\e = .returned (.int .i64 50)/\∃T' A',OnxX X w sb b T w' T' n A' P' true/\Gone N free (s+30729) base P' A')\/
 (∃i P',R (.errno i) P' w'/\e = .returned (.int .i64 i)/\∃T',OnxX X w sb b T w' T' n A [] false)
theorem t_doX {g:Nat} {fi ca:Array Value} {R:How->List (Int×Int)->World->Prop} (h:StL w sb b T n A P false) (c:Calm N free A s f) (hc:Clean 0 12304 base f) (hX:∀k,X k->k<w.heap.size/\¬tfoot sb b T k) (hR:Stays X R)
  (hf:ChangeX X w sb b T n A (.func (.func g) fi ca) R) (hs:s+30729<4294967296) :
  Calls Tryz.prog 9 #[ptr sb,.func (.func g) fi ca] w (DidX X w sb b T n N free A s base R):=by
 obtain⟨W,hW⟩:∃W,w.alloc (.cells #[.func (.func g) fi ca,.func (.func 41) #[ptr sb] #[]] 1)=W:=⟨_,rfl⟩
 have fW:St w W:=hW▸(Fr.refl _ w).alloc _
 have zW:W.heap.size=w.heap.size+1:=by rw[<-hW];simp
 have hb:W.heap[w.heap.size]? = some (.cells #[.func (.func g) fi ca,.func (.func 41) #[ptr sb] #[]] 1):=hW▸heap_alloc_new w _
 have hWs:=h.still fW
 have nT:¬(tfoot sb b T w.heap.size\/X w.heap.size):=fun e=>by
  rcases e with e | e
  ·have:=h.lt _ e;omega
  ·have:=(hX _ e).1;omega
 have xl:∀k,X k->k<W.heap.size:=fun k hk=>by have:=(hX k hk).1;omega
 have E:=each_two (lb:=w.heap.size) (f:=.func (.func g) fi ca) (g:=.func (.func 41) #[ptr sb] #[]) (w:=W)
  (I1:=fun w'=>∃T' P',OnxX X W sb b T w' T' n A P' false/\R .well P' w')
  (I2:=fun w'=>∃P',R .well P' w'/\∃T' A',OnxX X W sb b T w' T' n A' [] false/\Done N free (s+30729) base P' A')
  (S:=fun h w'=>(∃i P',h = .errno i/\R (.errno i) P' w'/\∃T',OnxX X W sb b T w' T' n A P' false)\/(∃P',h = .lost/\R .well P' w'/\∃T' A',OnxX X W sb b T w' T' n A' P' true/\Gone N free (s+30729) base P' A'))
  (cOo hb 0)
  (try_fr (F:=fun k=>tfoot sb b T k\/X k) (fun k hk=>hk.elim (hWs.lt k) (xl k)) ((hf (W.alloc box) (fW.alloc box)).mono (by
   rintro k w2 ⟨hk,T',P',o,r⟩
   refine⟨o.fr,fun w3 f3=>?_⟩
   have o3:=OnxX.boxed hWs (Fr.refl _ W) o f3
   have r3:R k P' w3:=hR _ _ _ _ _ r f3 (fun j hj e=>by have:=xl j hj;omega)
   rcases hk with rfl | ⟨i,rfl⟩
   ·exact .inl ⟨rfl,(o3.fr.cell' (cOo hb 1) nT),T',P',o3,r3⟩
   ·exact .inr ⟨rfl,.inl ⟨i,P',rfl,r3,T',o3⟩⟩)))
  (by
   rintro w1 ⟨T1,P1,o1,r1⟩
   have few:=o1.st.few
   have nX:∀k,X k->¬tfoot sb b T1 k:=fun k hk=>o1.other (xl k hk) (hX k hk).2
   have xl1:∀k,X k->k<w1.heap.size:=fun k hk=>Nat.lt_of_lt_of_le (xl k hk) o1.fr.size
   refine try_store o1.st (acts_of (fun _ _=>by kernel_rfl) ((t_commit (o1.st.still ((Fr.refl _ w1).alloc box)) c hc (by omega)).mono ?_))
   rintro e w2 (⟨rfl,T',A',o,d⟩ | ⟨rfl,T',A',o,d⟩)
   ·refine⟨.well,rfl,o.fr,fun w3 f3=>.inl ⟨rfl,P1,?_,T',A',o1.trans (Onx.boxed o1.st (Fr.refl _ w1) o f3),d.more (by omega)⟩⟩
    exact hR _ _ _ _ _ r1 (Onx.boxed o1.st (Fr.refl _ w1) o f3).fr nX
   ·refine⟨.lost,How.ended_one _ _,o.fr,fun w3 f3=>.inr ⟨rfl,.inr ⟨P1,rfl,?_,T',A',o1.trans (Onx.boxed o1.st (Fr.refl _ w1) o f3),d.more (by omega)⟩⟩⟩
    exact hR _ _ _ _ _ r1 (Onx.boxed o1.st (Fr.refl _ w1) o f3).fr nX)
 have c5:=h.c5
 have h1:=mf
 have HE:=Hd E;have HW:=Hd hW;have HFW:=Hd fW;have HXL:=Hd xl;have HHX:=Hd hX;have HR:=@Hd _ hR
 clear E hW fW zW hb hWs nT h c hc hf xl hX hR
 unfold DidX
 go_enter Tryz.func9,Tryz.ntmps9
 go_wp2_with fail
 rw[uh HW]
 refine(uh HE).mono ?_
 clear HE
 rintro e w2 ⟨k,⟨rfl,P',r,x⟩ | ⟨h,rfl,x⟩⟩
 ·have K:=settle_nil (sb:=sb) w2
  have HX:=Hd x;have HRR:=Hd r
  clear x r
  go_wp2_with fail
  refine K.mono ?_
  rintro e w3 ⟨rfl,hh⟩
  replace hh:=hh.symm
  subst hh
  clear K
  go_wp2
  go_ret
  obtain⟨T',A',o,d⟩:=uh HX
  exact .inl ⟨P',uh HRR,rfl,T',A',o.after (uh HFW),d⟩
 ·rcases x with ⟨i,P',rfl,r,T',o⟩ | ⟨P',rfl,r,T',A',o,d⟩
  ·have K:=Hd (settle_errno o.st i)
   have HX:=Hd (ai r o)
   clear r o
   simp only[How.v]
   go_wp2_with fail
   refine(uh K).mono ?_
   rintro e w3 ⟨rfl,T3,-,o3⟩
   have HO3:=Hd o3
   clear K o3
   go_wp2
   go_ret
   obtain⟨r,o⟩:=uh HX
   have nX:∀k,X k->¬tfoot sb b T' k:=fun k hk=>o.other (uh HXL k hk) (uh HHX k hk).2
   exact .inr (.inr ⟨i,P',uh HR _ _ _ _ _ r (uh HO3).fr nX,rfl,T3,(o.trans (uh HO3)).after (uh HFW)⟩)
  ·have K:=Hd (settle_lost o.st)
   have HX:=Hd (ai r (ai o d))
   clear r o d
   simp only[How.v]
   go_wp2_with fail
   refine(uh K).mono ?_
   rintro e w3 ⟨rfl,T3,-,o3⟩
   have HO3:=Hd o3
   clear K o3
   go_wp2
   go_ret
   obtain⟨r,o,d⟩:=uh HX
   have nX:∀k,X k->¬tfoot sb b T' k:=fun k hk=>o.other (uh HXL k hk) (uh HHX k hk).2
   exact .inr (.inl ⟨P',uh HR _ _ _ _ _ r (uh HO3).fr nX,rfl,T3,A',(o.trans (uh HO3)).after (uh HFW),d⟩)
end
end
end Go.Proofs.YtbiopjmpdhcjgaaGreatDoor
