/- Joined: GHq GHa. -/
import Derived.Test.YtbiopjmpdhcjgaaGreatDoorS04
import Derived.Test.YtbiopjmpdhcjgaaGreatDoorS06
namespace Go.Proofs.YtbiopjmpdhcjgaaGreatDoor
open Go.RowKit
set_option maxHeartbeats 4000000

section
def Words64 (nu:Nat) (f:Nat->Int):Prop:=∀i,i<fi nu->0<=f i/\f i<18446744073709551616
abbrev errnoQ (i:Int):List PanicEntry:=[{ v:=.iface 28 (.int .i64 i),recovered:=false }]
section
variable {nu sz:Nat} {w:World} {hb sb:Nat} {f:Nat->Int}
theorem and_bit (x j:Nat) (hx:x<18446744073709551616):bits .and .u64 ((x:Int) / 2 ^ j) 1=((x / 2 ^ j % 2:Nat):Int):=by
 have e:((x:Int) / 2 ^ j)=((x / 2 ^ j:Nat):Int):=by simp
 rw[e,show(1:Int)=((1:Nat):Int) from rfl,u64_and_nat _ _ (Nat.lt_of_le_of_lt (Nat.div_le_self _ _) hx) (by omega),nat_mask1]
theorem h_isFree (h:HpL nu sz w hb sb) (rd:Rds sz w sb f) (wd:Words64 nu f) (k b:Nat) (hk:k<7) (hb':b<64 * gr nu k) :
  Calls Tryz.prog 173 #[ptr hb,.int .i64 k,.int .i64 b] w fun e w'=>e = .returned (.bool (decide (b<nu / 2 ^ k) && fre nu f k b))/\∃q,w'=w.drewN q:=by
 have c0:=h.c0;have ck:=h.cb k hk
 obtain⟨g1,g2,g3,g4,g5,g6⟩:=h.geo.b
 have BK:∀q,Calls Tryz.prog 110 #[ptr hb,.int .i64 k] (w.drewN q) _:=fun q=>h_blocks hb k hk (w.drewN q) (by omega) h.c1
 have bl:=Bw_lt hb'
 obtain⟨r0,r1⟩:=wd (Bw nu k+b / 64) (by omega)
 have LD:=fun q=>rd q (Bw nu k+b / 64) (by omega)
 obtain⟨x,hx⟩:∃x:Nat,f (Bw nu k+b / 64)=x:=⟨(f (Bw nu k+b / 64)).toNat,by omega⟩
 have hfr:fre nu f k b=decide (x / 2 ^ (b % 64) % 2=1):=by
  unfold fre
  rw[decide_eq_true hb',Bool.true_and,hx,Int.toNat_natCast,Nat.testBit_eq_decide_div_mod_eq]
 have AB:=and_bit x (b % 64) (by omega)
 have hb5:b<=4100:=by have:=gr_le' nu k;omega
 have EB:((x:Int) / 2 ^ (b % 64) % 2 != 0)=decide (x / 2 ^ (b % 64) % 2=1):=by
  have e:((x:Int) / 2 ^ (b % 64) % 2)=((x / 2 ^ (b % 64) % 2:Nat):Int):=by simp
  rw[e]
  rcases Nat.mod_two_eq_zero_or_one (x / 2 ^ (b % 64)) with e | e <;> rw[e] <;> rfl
 have EB:=Hd EB
 rw[hfr]
 have e2:((Bw nu k+b / 64:Nat):Int)=(Bw nu k:Int)+(b:Int) / 64:=by omega
 simp only[hx,e2] at LD
 have bl3:Bw nu k+b / 64<=300:=by omega
 clear bl g1 g2 g3 g4 g6 hb'
 generalize Bw nu k=B at *
 have hn4:nu / 2 ^ k<=4000:=Nat.le_trans (Nat.div_le_self _ _) g5.2
 clear g5
 generalize nu / 2 ^ k=n at *
 have HLD:=@Hd _ LD
 have HBK:=@Hd _ BK
 clear LD h rd BK hfr wd
 go_enter Tryz.func173,Tryz.ntmps173
 by_cases hlt:b<n
 ·have hlt':((b:Int)<n)=True:=by simp;omega
  go_wp2_with fail
  refine region_tailP 26 (by kernel_rfl) (by kernel_rfl) ?_
  simp only[List.take_succ_cons,List.take_zero,List.drop_succ_cons,List.drop_zero]
  repeat (go_big_quiet_step (first | (go_at_call 59;exact Calls.quiet_of_same (uh HLD _)) | (go_at_call 110;exact Calls.quiet_of_same (uh HBK _))))
  refine wpQuiet_nil ?_
  rintro _ ⟨nq,rfl⟩
  clear HLD HBK
  go_wp2
  go_ret
  exact⟨by rw[decide_eq_true hlt,Bool.true_and];rfl,nq,rfl⟩
 ·have hlt':((b:Int)<n)=False:=by simp;omega
  go_wp2_with fail
  refine region_tailP 26 (by kernel_rfl) (by kernel_rfl) ?_
  simp only[List.take_succ_cons,List.take_zero,List.drop_succ_cons,List.drop_zero]
  repeat (go_big_quiet_step (first | (go_at_call 59;exact Calls.quiet_of_same (uh HLD _)) | (go_at_call 110;exact Calls.quiet_of_same (uh HBK _))))
  refine wpQuiet_nil ?_
  rintro _ ⟨nq,rfl⟩
  clear HLD HBK
  go_wp2
  go_ret
  exact⟨by rw[decide_eq_false hlt,Bool.false_and];rfl,nq,rfl⟩
theorem gr_eq {k:Nat} (hk:k<7):(((nu / 2 ^ k:Nat):Int)+64 - 1) / 64=gr nu k:=by
 rw[gr_div hk]
 generalize nu / 2 ^ k=x
 omega
theorem gr_le (g:Geo nu sz) (k:Nat):gr nu k<=63:=by have:=gr_le' nu k;have:=g.hi;omega
theorem fre_zero {k i:Nat} (h:∀j,j<i->f (Bw nu k+j)=0) {b:Nat} (hb':b / 64<i):fre nu f k b=false:=by
 unfold fre
 rw[h _ hb']
 simp
theorem h_firstFree (h:HpL nu sz w hb sb) (rd:Rds sz w sb f) (wd:Words64 nu f) (k:Nat) (hk:k<7) (hin:∀b,fre nu f k b=true->b<nu / 2 ^ k) :
  Calls Tryz.prog 202 #[ptr hb,.int .i64 k] w fun e w'=>((∃b:Nat,e = .returned (.tuple #[.int .i64 b,.bool true])/\fre nu f k b=true)\/(e = .returned (.tuple #[.int .i64 0,.bool false])/\∀b,fre nu f k b=false))/\Dr w w':=by
 obtain⟨g1,g2,g3,g4,g5,g6⟩:=h.geo.b
 have BK:=h_blocks hb k hk w (by omega) h.c1
 have GR:=h_groups ((nu / 2 ^ k:Nat):Int) 64 (Int.natCast_nonneg _) (by have:nu / 2 ^ k<=nu:=Nat.div_le_self _ _;omega) (by omega) (by omega) w
 rw[gr_eq hk] at GR
 have g8:=gr_le h.geo k
 have HH:=Hd h;have HRD:=Hd rd;have HWD:=Hd wd;have HIN:=Hd hin
 have hn5:nu / 2 ^ k<=4000:=Nat.le_trans (Nat.div_le_self _ _) g5.2
 clear h rd wd hin
 go_enter Tryz.func202,Tryz.ntmps202
 go_wp2_with (first | (go_at_call 110;refine BK.mono ?_;rintro e w' ⟨rfl,hh⟩;replace hh:=hh.symm;subst hh) | (go_at_call 108;refine GR.mono ?_;rintro e w' ⟨rfl,hh⟩;replace hh:=hh.symm;subst hh))
 clear BK GR
 go_loopw [12] (fun i wr=>∃m:Nat,m<=gr nu k/\i = .int .i64 m/\(∀j,j<m->f (Bw nu k+j)=0)/\Dr w wr) (fun i wr=>gr nu k - (intOf i).toNat)
 case atStart=>exact⟨0,by omega,rfl,fun j hj=>by omega,Dr.refl w⟩
 case round=>
  obtain⟨m,hm,rfl,hz,hdr⟩:=hrel
  by_cases hlt:m<gr nu k
  ·have bl:=Bw_lt (nu:=nu) (k:=k) (b:=64 * m) (by omega)
   have em:64 * m / 64=m:=by omega
   rw[em] at bl
   obtain⟨r0,r1⟩:=uh HWD (Bw nu k+m) (by omega)
   have LD:=fun q=>(uh HRD).dr hdr q (Bw nu k+m) (by omega)
   have c0:=((uh HH).dr hdr).c0;have ck:=((uh HH).dr hdr).cb k hk
   obtain⟨x,hx⟩:∃x:Nat,f (Bw nu k+m)=x:=⟨(f (Bw nu k+m)).toNat,by omega⟩
   have e2:((Bw nu k+m:Nat):Int)=(Bw nu k:Int)+(m:Int):=by omega
   simp only[hx,e2] at LD
   have HLD:=@Hd _ LD
   have hx64:x<18446744073709551616:=by omega
   have HZ:=Hd hz;have HDR:=Hd hdr;have HX:=Hd hx
   have bl3:Bw nu k+m<=300:=by omega
   have hn4:=g5.2
   clear LD hz hdr hx g1 g2 g3 g4 g5 g6 bl em e2
   generalize hB:Bw nu k=B at *
   have HB:=Hd hB
   clear hB
   go_wp2_with fail
   refine region_tailP 13 (by kernel_rfl) (by kernel_rfl) ?_
   simp only[List.take_succ_cons,List.take_zero,List.drop_succ_cons,List.drop_zero]
   repeat (go_big_quiet_step (first | (go_at_call 59;exact Calls.quiet_of_same (uh HLD _))))
   refine wpQuiet_nil ?_
   rintro _ ⟨nq,rfl⟩
   clear HLD c0 ck
   have HDR2:=Hd ((uh HDR).trans ⟨nq,rfl⟩)
   by_cases hx0:x=0
   ·subst hx0
    go_wp2
    refine⟨⟨m+1,by omega,by go_num,fun j hj=>?_,uh HDR2⟩,by simp[intOf];omega⟩
    by_cases e:j=m
    ·subst e;exact uh HX
    ·exact uh HZ j (by omega)
   ·have hx0':((x:Int) != 0)=true:=by simp;omega
    have TZ:=tz_ok x hx64 hx0 (wr.drewN nq) ((uh HH).dr (uh HDR2)).tab
    obtain⟨cb1,cb2⟩:=ctz_bit x hx64 hx0
    have hfr:fre nu f k (64 * m+Lib.ctz 64 x)=true:=by
     unfold fre
     have e1:(64 * m+Lib.ctz 64 x) / 64=m:=by omega
     have e2:(64 * m+Lib.ctz 64 x) % 64=Lib.ctz 64 x:=by omega
     rw[e1,e2,uh HB,uh HX,Int.toNat_natCast,cb1,decide_eq_true (by omega)];rfl
    have hlt2:=uh HIN _ hfr
    have BK:Calls Tryz.prog 110 #[ptr hb,.int .i64 k] (wr.drewN nq) _:=h_blocks hb k hk _ (by omega) ((uh HH).dr (uh HDR2)).c1
    have HFR:=Hd hfr
    clear hfr cb1 HX HB HZ hx0
    generalize Lib.ctz 64 x=c at *
    have e47:((nu / 2 ^ k:Nat):Int)=nu / 2 ^ k:=by simp
    have hlt3:64 * (m:Int)+c<nu / 2 ^ k:=by rw[<-e47];omega
    clear e47
    go_wp2_with (first | (go_at_call 110;refine BK.mono ?_;rintro e w' ⟨rfl,hh⟩;replace hh:=hh.symm;subst hh) | (go_at_call 111;refine TZ.mono ?_;rintro e w' ⟨rfl,hh⟩;replace hh:=hh.symm;subst hh))
    go_ret2
    exact⟨.inl ⟨64 * m+c,by simp,uh HFR⟩,uh HDR2⟩
  ·have:m=gr nu k:=by omega
   subst this
   have HZ:=Hd hz;have HDR:=Hd hdr
   clear hz hdr
   go_wp2
   go_ret2
   refine⟨.inr ⟨rfl,fun b=>?_⟩,uh HDR⟩
   by_cases hb2:b<64 * gr nu k
   ·exact fre_zero (uh HZ) (by omega)
   ·unfold fre;simp[hb2]
end
end

section
section
variable {nu sz:Nat} {w:World} {hb sb:Nat} {f:Nat->Int}
theorem h_piece (h:HpL nu sz w hb sb) (rd:Rds sz w sb f) (wd:Words64 nu f) (u:Nat) (hu:u<nu) :
  Calls Tryz.prog 134 #[ptr hb,.int .i64 (fi nu+u * 8)] w fun e w'=>((begs nu (ask nu f) u=true/\e = .returned (.tuple #[.int .i64 u,.int .i64 (ask nu f u)]))\/(begs nu (ask nu f) u=false/\e = .panicked (errnoQ 1)))/\Dr w w':=by
 have c1:=h.c1;have c10:=h.c10
 obtain⟨g1,g2,g3,g4,g5,g6⟩:=h.geo.b
 have AL:∀q,Calls Tryz.prog 122 #[ptr hb] (w.drewN q) fun e w'=>e = .returned (.int .i64 (nu * 8))/\w'=w.drewN q:=fun q=>h_all hb nu (by omega) (w.drewN q) c1
 have HAL:=@Hd _ AL
 obtain⟨r0,r1⟩:=wd (aw nu+u / 4) (by omega)
 have e1:(((fi nu:Int)+(u:Int) * 8)<fi nu)=False:=by simp;omega
 have e2:((fi nu:Int)+(nu:Int) * 8<=(fi nu:Int)+(u:Int) * 8)=False:=by simp;omega
 have f8:=fi_8 nu
 have e3:((fi nu:Int) % 8 != 0)=false:=by simp;omega
 have e4:((fi nu:Int)+(u:Int) * 8 - fi nu) / 8=u:=by omega
 have HH:=Hd h;have HRD:=Hd rd;have HR:=Hd (ai r0 r1)
 have hq4:u<4 * qa nu:=by omega
 have hF:=g2.2;have hn4:=g5.2
 clear AL h rd wd r0 r1 g1 g2 g3 g4 g5 g6 f8
 go_enter Tryz.func134,Tryz.ntmps134
 go_wp2_with fail
 refine region_tailP 21 (by kernel_rfl) (by kernel_rfl) ?_
 simp only[List.take_succ_cons,List.take_zero,List.drop_succ_cons,List.drop_zero]
 repeat (go_big_quiet_step (first | (go_at_call 122;exact Calls.quiet_of_same (uh HAL _))))
 refine wpQuiet_nil ?_
 rintro _ ⟨nq,rfl⟩
 clear HAL e1 e2 e3
 have D1:Dr w (w.drewN nq):=⟨nq,rfl⟩
 have BG:=h_begins ((uh HH).dr D1) ((uh HRD).dr D1) u hq4 (uh HR).1 (uh HR).2
 have HBG:=Hd BG
 have c10':=((uh HH).dr D1).c10
 generalize w.drewN nq=w1 at *
 clear BG c1 c10
 go_wp2_with fail
 refine(uh HBG).mono ?_
 clear HBG
 rintro e w2 ⟨rfl,D2⟩
 have D12:=D1.trans D2
 have AK:=h_asked ((uh HH).dr D12) ((uh HRD).dr D12) u hq4 (uh HR).1 (uh HR).2
 have HAK:=Hd AK;have HD:=Hd D12
 clear AK D12 D1 D2 HH HRD HR c10'
 cases hbg:begs nu (ask nu f) u
 ·go_wp2
  exact⟨rfl,.inr ⟨hbg,rfl⟩,uh HD⟩
 ·go_wp2_with fail
  refine(uh HAK).mono ?_
  clear HAK
  rintro e w3 ⟨rfl,D3⟩
  have HD3:=Hd ((uh HD).trans D3)
  clear D3 HD
  go_wp2
  go_ret2
  exact⟨.inl ⟨hbg,rfl⟩,uh HD3⟩
theorem h_size (h:HpL nu sz w hb sb) (rd:Rds sz w sb f) (wd:Words64 nu f) (u:Nat) (hu:u<nu) (hbg:begs nu (ask nu f) u=true) :
  Calls Tryz.prog 113 #[ptr hb,.int .i64 (fi nu+u * 8)] w fun e w'=>e = .returned (.int .i64 (ask nu f u))/\Dr w w':=by
 have HK:=Hd (h_piece h rd wd u hu)
 clear h rd wd
 go_enter Tryz.func113,Tryz.ntmps113
 go_wp2_with fail
 refine(uh HK).mono ?_
 clear HK
 rintro e w1 ⟨⟨_,rfl⟩ | ⟨hb',_⟩,D⟩
 ·have HD:=Hd D
  clear D
  go_wp2
  go_ret
  exact⟨rfl,uh HD⟩
 ·rw[hbg] at hb';cases hb'
end
end
end Go.Proofs.YtbiopjmpdhcjgaaGreatDoor
