/- Joined: GHn GLh Rb Rc GHs. -/
import Derived.Maps.AppendAt
import Derived.Deep.RegionHeld
import Derived.Test.YtbiopjmpdhcjgaaGreatDoorZ05
import Derived.Test.YtbiopjmpdhcjgaaGreatDoorZ12
namespace Go.Proofs.YtbiopjmpdhcjgaaGreatDoor
open Go.RowKit
set_option maxHeartbeats 4000000

section
section
variable {nu sz:Nat} {w w':World} {hb sb b:Nat} {T:Tay} {A:Ab} {P:List (Int×Int)}
set_option maxRecDepth 20000 in
theorem h_blank (h:Hp nu sz w hb sb b T A P) (hz:∀i,i<fi nu->says P A i=0):Calls Tryz.prog 78 #[ptr hb] w fun e w'=>e = .returned (.bool true)/\w'=w:=by
 have c0:=h.hp.c0;have c10:=h.hp.c10
 obtain⟨g1,g2,g3,g4,g5,g6⟩:=h.hp.geo.b
 have LD:∀i:Nat,i<fi nu->Calls Tryz.prog 59 #[ptr sb,.int .i64 i] w fun e w'=>e = .returned (u64 0)/\w'=w:=fun i hi=>by
  have:=h.load i (by omega)
  rw[hz i hi] at this;exact this
 have HLD:=@Hd _ LD
 have hF:=g2.2
 clear LD h hz g1 g2 g3 g4 g5 g6
 go_enter Tryz.func78,Tryz.ntmps78
 go_wp2_with fail
 go_loopw [8] (fun i wr=>∃m:Nat,m<=fi nu/\i = .int .i64 m/\Hid (wr=w)) (fun i wr=>fi nu - (intOf i).toNat)
 case atStart=>exact⟨0,by omega,rfl,rfl⟩
 case round=>
  obtain⟨m,hm,rfl,hw⟩:=hrel
  have hw':wr=w:=hw
  subst hw'
  by_cases hlt:m<fi nu
  ·have LDm:=uh HLD m hlt
   go_wp2_with (go_at_call 59;refine LDm.mono ?_;rintro e w' ⟨rfl,hh⟩;replace hh:=hh.symm;subst hh)
   exact⟨⟨m+1,by omega,by go_num,hw⟩,by simp[intOf];omega⟩
  ·have:m=fi nu:=by omega
   subst this
   go_wp2
   go_ret
   exact⟨rfl,rfl⟩
structure Upto (nu:Nat) (F:Nat->Nat->Bool) (u:Nat):Prop where
 inv:Inv nu F (fun _=>0) (fun v=>if v<u then 0 else 1)
 le:u<=nu
 al:∃j,j<=6/\u % 2 ^ j=0/\(j=6\/nu - u<2 ^ j)
theorem upto_0 (nu:Nat):Upto nu (fun _ _=>false) 0:=by
 refine⟨⟨fun u _=>?_,fun _ _ _ h=>(by simp at h),fun _ _ _ h=>(by simp at h),fun u h=>absurd rfl h⟩,by omega,6,by omega,by simp,.inl rfl⟩
 simp[hv,sum7,pc]
theorem bl_aux:∀(f x:Nat),x<2 ^ f->x≠0->2 ^ (Lib.bitLenAux f x - 1)<=x/\x<2 ^ Lib.bitLenAux f x/\1<=Lib.bitLenAux f x
 | 0,x,h,h0=>by simp at h;omega
 | f+1,x,h,h0=>by
  unfold Lib.bitLenAux
  rw[if_neg h0]
  by_cases e:x / 2=0
  ·have:Lib.bitLenAux f (x / 2)=0:=by rw[e];cases f <;> simp[Lib.bitLenAux]
   rw[this]
   simp
   omega
  ·obtain⟨a,b,c⟩:=bl_aux f (x / 2) (by rw[Nat.pow_succ] at h;omega) e
   obtain⟨y,hy⟩:∃y,Lib.bitLenAux f (x / 2)=y+1:=⟨_,(Nat.sub_add_cancel c).symm⟩
   rw[hy] at a b ⊢
   simp only[Nat.add_sub_cancel] at a
   rw[show 1+(y+1) - 1=y+1 by omega,show 1+(y+1)=y+1+1 by omega,Nat.pow_succ 2 (y+1),Nat.pow_succ]
   rw[Nat.pow_succ] at b
   omega
theorem bl_of {m:Nat} (h:0<m) (h2:m<=4000):2 ^ (Lib.bitLen m - 1)<=m/\m<2 ^ Lib.bitLen m/\1<=Lib.bitLen m/\Lib.bitLen m<=12:=by
 obtain⟨a,b,c⟩:=bl_aux 64 m (by omega) (by omega)
 exact⟨a,b,c,Lib.bitLen_le m 12 (by omega) (by omega)⟩
theorem Upto.step {nu:Nat} {F:Nat->Nat->Bool} {u k:Nat} (h:Upto nu F u) (hlt:u<nu) (hn4:nu<=4000) (hk:k=min 6 (Lib.bitLen (nu - u) - 1)):k<7/\u / 2 ^ k<nu / 2 ^ k/\u / 2 ^ k * 2 ^ k=u/\Upto nu (setF F k (u / 2 ^ k) true) (u+2 ^ k):=by
 obtain⟨b1,b2,b3,-⟩:=bl_of (show 0<nu - u by omega) (by omega)
 obtain⟨j,j1,j2,j3⟩:=h.al
 have k6:k<=6:=by omega
 have p1:=two_pos k
 have hp:2 ^ k<=nu - u:=by
  have:2 ^ k<=2 ^ (Lib.bitLen (nu - u) - 1):=Nat.pow_le_pow_right (by omega) (by omega)
  omega
 have hkj:k<j\/(k=6/\j=6):=by
  rcases j3 with j3 | j3
  ·omega
  ·refine .inl (Classical.byContradiction fun hn=>?_)
   have:2 ^ j<=2 ^ k:=Nat.pow_le_pow_right (by omega) (by omega)
   omega
 have hmul:∀i,i<=j->u % 2 ^ i=0:=fun i hi=>Nat.mod_eq_zero_of_dvd (Nat.dvd_trans (Nat.pow_dvd_pow 2 hi) (Nat.dvd_of_mod_eq_zero j2))
 have hu:u / 2 ^ k * 2 ^ k=u:=Nat.div_mul_cancel (Nat.dvd_of_mod_eq_zero (hmul k (by omega)))
 have hb:u / 2 ^ k<nu / 2 ^ k:=by
  rw[Nat.lt_div_iff_mul_lt p1,hu];omega
 refine⟨by omega,hb,hu,⟨h.inv.set (by omega) hb (fun v _=>?_) (fun v _ hv=>?_) ?_,by omega,?_⟩⟩
 ·rw[ind_iff,hu]
  by_cases e1:v<u
  ·rw[if_pos e1,if_pos (by omega),if_neg (by omega)]
  ·rw[if_neg e1]
   by_cases e2:v<u+2 ^ k
   ·rw[if_pos e2,if_pos (by omega)]
   ·rw[if_neg e2,if_neg (by omega)]
 ·rw[Nat.div_eq_iff p1,hu] at hv
  rw[if_pos (by omega)]
 ·by_cases e:k=6
  ·exact .inl e
  ·right
   cases hf:F k (bud (u / 2 ^ k))
   ·rfl
   ·exfalso
    have h1:=h.inv.inside k (by omega) _ hf
    have h2:=hmul (k+1) (by omega)
    have h3:u / 2 ^ k % 2=0:=by
     rw[Nat.pow_succ] at h2
     have:=Nat.mod_mul_right_div_self u (2 ^ k) 2
     rw[h2] at this
     simpa using this.symm
    have h4:bud (u / 2 ^ k)=u / 2 ^ k+1:=by unfold bud;rw[if_pos h3]
    rw[h4] at h1
    have h5:=block_lt h1
    rw[Nat.add_mul,hu,Nat.one_mul] at h5
    have h6:nu - u<2 ^ (k+1):=by
     have e2:Lib.bitLen (nu - u)=k+1:=by omega
     rw[<-e2];exact b2
    rw[Nat.pow_succ] at h6
    omega
 ·by_cases e:k=6
  ·refine⟨6,by omega,?_,.inl rfl⟩
   have h1:=hmul 6 (by omega)
   rw[e,Nat.add_mod_right];exact h1
  ·refine⟨k,k6,?_,.inr ?_⟩
   ·rw[Nat.add_mod_right];exact hmul k (by omega)
   ·have e2:Lib.bitLen (nu - u)=k+1:=by omega
    rw[e2,Nat.pow_succ] at b2
    omega
theorem Upto.done {nu:Nat} {F:Nat->Nat->Bool} (h:Upto nu F nu):Inv nu F (fun _=>0) (fun _=>0):=
 ⟨fun u hu=>by have:=h.inv.cov u hu;rw[if_pos hu] at this;exact this,h.inv.half,h.inv.inside,h.inv.asks⟩
structure Began (nu:Nat) (f g:Nat->Int):Prop where
 st:HpS nu g
 ak:ask nu g=fun _=>0
 root:∀i,2<=i->i<18->g i=0
theorem ask_zero {nu:Nat} {f:Nat->Int} (hz:∀i,i<fi nu->f i=0):ask nu f=fun _=>0:=by
 funext u
 have fg:=fi_ge nu
 by_cases hu:u<4 * qa nu
 ·rw[ask_of hu,hz _ (by omega)];simp[dig]
 ·rw[ask_no hu]
theorem fre_zeros {nu:Nat} {f:Nat->Int} (hz:∀i,i<fi nu->f i=0):fre nu f=fun _ _=>false:=by
 funext k c
 unfold fre
 by_cases hb:c<64 * gr nu k
 ·have:=Bw_lt hb
  have fg:=fi_ge nu
  rw[hz _ (by omega)];simp
 ·simp[hb]
theorem inP_none {nu:Nat}:inP nu (fun _=>0)=0:=sumTo_zero fun u _=>by unfold cv sum7 pc;simp
theorem began_of {nu:Nat} {f g2 g:Nat->Int} (hz:∀i,i<fi nu->f i=0) (e2:g2=upd (upd f 0 7522525887014645809) 1 (8 * nu:Nat)) (b:Bits nu g2 g) (hf:Upto nu (fre nu g) nu):Began nu f g:=by
 have fg:=fi_ge nu;have ag:=aw_ge nu
 have hak:ask nu g=fun _=>0:=by rw[b.ak,e2,ask_upd _ (.inl (by omega)),ask_upd _ (.inl (by omega))];exact ask_zero hz
 refine⟨⟨b.wd,?_,by rw[hak];exact hf.done,?_⟩,hak,fun i h2 h18=>?_⟩
 ·rw[b.out 0 (.inl (by omega)),e2,upd_other _ _ (by omega),upd_same]
 ·rw[b.out 1 (.inl (by omega)),e2,upd_same,hak,inP_none];rfl
 ·rw[b.out i (.inl h18),e2,upd_other _ _ (by omega),upd_other _ _ (by omega)];exact hz i (by omega)
set_option maxRecDepth 20000 in
theorem h_begin (h:Hp nu sz w hb sb b T A P) (hm:P.length+4100<=6144) (hz:∀i,i<fi nu->says P A i=0):Calls Tryz.prog 79 #[ptr hb] w fun e w'=>e = .returned (.tuple #[])/\∃g,To sz w sb b T A w' g (P.length+4100)/\Began nu (says P A) g:=by
 have c0:=h.hp.c0;have c1:=h.hp.c1
 obtain⟨g1,g2,g3,g4,g5,g6⟩:=h.hp.geo.b
 have P0:Calls Tryz.prog 123 #[ptr sb,.int .i64 0,.int .u64 7522525887014645809] w _:=h.put (by omega) 0 (by omega) 7522525887014645809
 have HP0:=Hd P0;have HH:=Hd h;have HZ:=Hd hz
 clear P0 h hz
 go_enter Tryz.func79,Tryz.ntmps79
 go_wp2_with fail
 refine(uh HP0).mono ?_
 clear HP0
 rintro e w1 ⟨rfl,T1,P1,o1,eg1,el1⟩
 have h1:=(uh HH).call o1
 have c0':=h1.hp.c0;have c1':=h1.hp.c1
 have AL:∀q,Calls Tryz.prog 122 #[ptr hb] (w1.drewN q) fun e w'=>e = .returned (.int .i64 (nu * 8))/\w'=w1.drewN q:=fun q=>h_all hb nu (by omega) (w1.drewN q) c1'
 have PU:∀q,Calls Tryz.prog 123 #[ptr sb,.int .i64 1,.int .u64 ((nu:Int) * 8)] (w1.drewN q) _:=fun q=>(h1.still ((Fr.refl _ w1).drewN q)).put (by omega) 1 (by omega) ((nu:Int) * 8)
 have hw8:IntKind.u64.wrap ((nu:Int) * 8)=(nu:Int) * 8:=by rw[IntKind.wrap_u64];omega
 have HAL:=@Hd _ AL;have HPU:=@Hd _ PU;have HH1:=Hd h1;have HO1:=Hd o1;have HE1:=Hd eg1
 clear AL PU h1 o1 eg1 c0 c1
 go_wp2_with fail
 refine region_tailP 7 (by kernel_rfl) (by kernel_rfl) ?_
 simp only[List.take_succ_cons,List.take_zero,List.drop_succ_cons,List.drop_zero]
 repeat (go_big_quiet_step (first | (go_at_call 122;exact Calls.quiet_of_same (uh HAL _))))
 refine wpQuiet_nil ?_
 rintro _ ⟨nq,rfl⟩
 clear HAL
 go_wp2_with fail
 refine(uh HPU nq).mono ?_
 clear HPU
 rintro e w2 ⟨rfl,T2,P2,o2,eg2,el2⟩
 have o2':=o2.after ((Fr.refl (fun _=>False) w1).drewN nq)
 have h2:=(uh HH1).call o2'
 have eg2':says P2 A=upd (upd (says P A) 0 7522525887014645809) 1 (8 * nu:Nat):=by rw[eg2,uh HE1,show((8 * nu:Nat):Int)=(nu:Int) * 8 by omega]
 have z2:Words64 nu (says P2 A):=by
  rw[eg2']
  refine words_upd (words_upd (fun i hi=>?_) 0 7522525887014645809 (by omega)) 1 (8 * nu) (by omega)
  rw[uh HZ i hi];omega
 have f2:Upto nu (fre nu (says P2 A)) 0:=by
  rw[eg2',fre_upd _ (.inl (by omega)),fre_upd _ (.inl (by omega)),fre_zeros (uh HZ)];exact upto_0 nu
 have HH2:=Hd h2;have HO2:=Hd o2';have HE2:=Hd eg2';have HX2:=Hd (ai z2 f2)
 clear o2 o2' h2 eg2 eg2' c0' c1' z2 f2
 go_wp2_with fail
 go_loopw [2] (fun i wr=>∃u:Nat,i = .int .i64 u/\∃T' P',Onx w2 sb b T2 wr T' sz A P' false/\P'.length<=P2.length+u/\Bits nu (says P2 A) (says P' A)/\Upto nu (fre nu (says P' A)) u) (fun i wr=>nu - (intOf i).toNat)
 case atStart=>exact⟨0,rfl,T2,P2,Onx.start (uh HH2).st,by omega,⟨(uh HX2).1,rfl,fun _ _=>rfl⟩,(uh HX2).2⟩
 case round=>
  clear HX2
  obtain⟨u,rfl,T',P',o,el,bt,fs⟩:=hrel
  have hle:=fs.le
  have h3:=(uh HH2).call o
  have c1:=h3.hp.c1
  by_cases hlt:u<nu
  ·obtain⟨k,hk⟩:∃k,k=min 6 (Lib.bitLen (nu - u) - 1):=⟨_,rfl⟩
   obtain⟨t2,t3,t4,t5⟩:=fs.step hlt (by omega) hk
   obtain⟨-,-,t7,t8⟩:=bl_of (show 0<nu - u by omega) (by omega)
   obtain⟨c,hc⟩:∃c,u / 2 ^ k=c:=⟨_,rfl⟩
   have t6:=hc
   rw[hc] at t3 t5
   have SF:=h_setFree h3 bt.wd (by omega) k c (gr_ge t2 t3) true
   have BL:Calls Tryz.prog 115 #[.int .u64 ((nu:Int) - (u:Int))] wr _:=Tryz.bits_Len ((nu:Int) - (u:Int)) wr (by omega) (by omega)
   rw[show((nu:Int) - (u:Int)).toNat=nu - u by omega] at BL
   obtain⟨L,hL⟩:∃L,Lib.bitLen (nu - u)=L:=⟨_,rfl⟩
   rw[hL] at BL t7 t8 hk
   obtain⟨Y,hY⟩:∃Y,2 ^ k=Y:=⟨_,rfl⟩
   have hYe:((2:Int) ^ k)=Y:=by rw[<-hY];simp
   have hY6:Y<=64:=by rw[<-hY];exact Nat.pow_le_pow_right (n:=2) (j:=6) (by omega) (by omega)
   have hw1:wrap64 (Y:Int)=Y:=small_w64 (by omega)
   have hY0:0<Y:=by rw[<-hY];exact two_pos k
   rw[hY] at t6
   have huc:(u:Int) / Y=c:=by rw[<-t6];omega
   have hmin:min 6 ((L:Int) - 1)=k:=by omega
   have HSF:=Hd SF;rw[hY] at t5;have HX:=Hd (ai o (ai bt t5));have HH3:=Hd h3
   have hnu:((u:Int)<nu)=True:=by simp;omega
   have hn4:=g5.2
   have hu4:u<=4000:=by omega
   have hL12:L<=12:=t8
   have hL1:1<=L:=t7
   clear SF o bt fs h3 t4 t5 t6 t7 t8 hL hc t3 hk hle g1 g2 g3 g4 g5 g6
   go_wp2_with (first | (go_at_call 115;refine BL.mono ?_;rintro e w' ⟨rfl,hh⟩;replace hh:=hh.symm;subst hh) | fail)
   refine(uh HSF).mono ?_
   clear HSF BL
   rintro e w4 ⟨rfl,g4,⟨T4,P4,o4,eg4,el4⟩,b4,f4⟩
   have HX4:=Hd (ai o4 (ai eg4 (ai b4 f4)))
   clear o4 eg4 b4 f4
   have HEL:=Hd (ai el4 (ai el (ai el1 (ai el2 hm))))
   clear el el1 el2 el4 hm hw8 hnu hL12 hL1 hmin huc hY c1
   go_wp2
   obtain⟨el4,el,el1,el2,hm⟩:=uh HEL
   obtain⟨o4,eg4,b4,f4⟩:=uh HX4
   obtain⟨o,bt,t5⟩:=uh HX
   rw[<-eg4] at b4 f4
   refine⟨⟨u+Y,by go_num,T4,P4,o.trans o4,by omega,bt.trans b4,?_⟩,by simp[intOf];omega⟩
   rw[f4];exact t5
  ·have eu:u=nu:=by omega
   subst eu
   have HX:=Hd (ai o (ai bt fs))
   clear o bt fs h3
   go_wp2
   go_end0
   obtain⟨o,bt,fs⟩:=uh HX
   exact⟨rfl,_,⟨T',P',((uh HO1).trans (uh HO2)).trans o,rfl,by omega⟩,began_of (uh HZ) (uh HE2) bt fs⟩
end
def rb (base:Nat->Int):Nat->Int:=fun i=>base (12400+i)
section
variable {nu sz:Nat} {w w' w0:World} {X:Nat->Prop} {hb sb b:Nat} {T:Tay} {A:Ab} {P:List (Int×Int)} {N:Nat} {free:Prop} {s:Int} {f base:Nat->Int}
theorem says_base (c:Calm N free A s f) (k:Clean 0 12304 base f) (P:List (Int×Int)):says P A=rb (homed P base):=by
 funext i
 show homed P A.now (12400+i)=homed P base (12400+i)
 unfold homed
 split
 ·rfl
 ·rw[c.now,k.out _ (.inr (by omega))]
structure HpC (nu sz:Nat) (w0:World) (X:Nat->Prop) (w:World) (hb sb b:Nat) (T:Tay) (A:Ab) (N:Nat) (free:Prop) (s:Int) (base:Nat->Int):Prop where
 hd:Hold w0 X w sb b sz T A [] false
 cl:∃f,Calm N free A s f/\Clean 0 12304 base f
 hp:HpL nu sz w hb sb
 xh:X hb
 l0:0<w0.heap.size
theorem HpC.toHp (h:HpC nu sz w0 X w hb sb b T A N free s base):Hp nu sz w hb sb b T A []:=by
 obtain⟨f,c,k⟩:=h.cl
 exact⟨h.hd.st,h.hp,h.hd.ap hb h.xh,fun ht=>by have:=h.hd.new 0 ht;have:=h.l0;omega,c.dead⟩
theorem HpC.says (h:HpC nu sz w0 X w hb sb b T A N free s base) (P:List (Int×Int)):says P A=rb (homed P base):=by
 obtain⟨f,c,k⟩:=h.cl
 exact says_base c k P
theorem h_openC_new {bx:Nat} (h:Hp nu sz w hb sb b T A P) (hm:P.length+4100<=6144) (hz:∀i,i<fi nu->says P A i=0) (bc:w.cell? ⟨bx,0,none⟩=some (ptr hb)):Calls Tryz.prog 77 #[ptr bx] w fun e w'=>e = .returned (.tuple #[])/\∃g,To sz w sb b T A w' g (P.length+4100)/\Began nu (says P A) g:=by
 have BL:=h_blank h hz
 have BG:=h_begin h hm hz
 have HBL:=Hd BL;have HBG:=Hd BG
 clear BL BG h hz
 go_enter Tryz.func77,Tryz.ntmps77
 go_wp2_with fail
 refine(uh HBL).mono ?_
 rintro e w1 ⟨rfl,hh⟩
 replace hh:=hh.symm
 subst hh
 clear HBL
 go_wp2_with fail
 refine(uh HBG).mono ?_
 clear HBG
 rintro e w1 ⟨rfl,x⟩
 have HX:=Hd x
 clear x
 go_wp2
 go_end0
 exact⟨rfl,uh HX⟩
theorem HpU.hpl (h:HpU w hb sb nu (fun k=>(Bw nu k:Int)) (aw nu) (fi nu)) (G:Geo nu sz) (tab:TabL w):HpL nu sz w hb sb:=⟨G,h.c0,h.c1,h.cb,h.c9,h.c10,tab⟩
set_option maxRecDepth 20000 in
theorem h_open_by {R:List (Int×Int)->Prop} (G:Geo nu sz) (st:StL w sb b T sz A [] false) (c:Calm N free A s f) (k:Clean 0 12304 base f) (tab:TabL w) (n0:¬tfoot sb b T 0) (hs:s+30729<4294967296)
  (hclo:∀(w1:World) (hb bx:Nat),Hp nu sz w1 hb sb b T A []->w1.cell? ⟨bx,0,none⟩=some (ptr hb)->Calls Tryz.prog 77 #[ptr bx] w1 fun e w'=>e = .returned (.tuple #[])/\∃T' P',Onx w1 sb b T w' T' sz A P' false/\R P') :
  Calls Tryz.prog 39 #[ptr sb] w fun e w'=>(∃hb P' T' A',e = .returned (.tuple #[ptr hb,.int .i64 0])/\w.heap.size<=hb/\HpL nu sz w' hb sb/\R P'/\Onx w sb b T w' T' sz A' [] false/\¬tfoot sb b T' hb/\Done N free (s+30729) base P' A')\/
   (∃P' T' A',e = .returned (.tuple #[.pointer none,.int .i64 50])/\R P'/\Onx w sb b T w' T' sz A' P' true/\Gone N free (s+30729) base P' A'):=by
 have SZ:Calls Tryz.prog 75 #[ptr sb] w fun e w'=>e = .returned (.int .i64 sz)/\w'=w:=t_size (n:=sz) st.c2
 obtain⟨g1,g2,g3,g4,g5,g6⟩:=G.b
 have hsz:((sz:Int)<1024)=False:=by simp;omega
 have LO:=h_laidOut (w:=w) (sb:=sb) G st.c2
 have e1:=eq_nil_stor
 have HLO:=Hd LO;have HST:=Hd st;have HCL:=@Hd _ hclo;have HCK:=Hd (ai c k);have HTB:=Hd tab;have HN0:=Hd n0
 clear LO st c k hclo tab n0
 go_enter Tryz.func39,Tryz.ntmps39
 go_wp2_with (first | (go_at_call 75;refine SZ.mono ?_;rintro e w' ⟨rfl,hh⟩;replace hh:=hh.symm;subst hh) | fail)
 refine(uh HLO).mono ?_
 clear HLO SZ
 rintro e w1 ⟨rfl,hu,f1,l1⟩
 obtain⟨W,hW⟩:∃W,w1.alloc (.cells #[ptr w.heap.size] 24)=W:=⟨_,rfl⟩
 have fW:St w1 W:=hW▸(Fr.refl _ w1).alloc _
 have bx:Box W w1.heap.size (ptr w.heap.size):=hW▸Box.new w1 (ptr w.heap.size) 24
 have f0W:St w W:=f1.trans' fW nE
 have tabW:TabL W:=fun j hj=>f0W.cell' (uh HTB j hj) id
 have stW:=(uh HST).still f0W
 have huW:=(hu.still fW).hpl G tabW
 have nh:¬tfoot sb b T w.heap.size:=fun ht=>by have:=(uh HST).lt _ ht;omega
 have D:=t_do (R:=fun h P'=>h = .well/\R P') stW (uh HCK).1 (uh HCK).2 (g:=77) (fi:=#[]) (ca:=#[ptr w1.heap.size]) (fun w2 f2=>acts_of (fun _ _=>by kernel_rfl) ((uh HCL w2 w.heap.size w1.heap.size ⟨stW.still f2,huW.kept f2 id id,nh,uh HN0,(uh HCK).1.dead⟩ (f2.cell' bx.c id)).mono (by
  rintro e w3 ⟨rfl,T',P',o,r⟩
  exact⟨.well,rfl,.inl rfl,T',P',o,rfl,r⟩))) hs
 have bc:=bx.c
 rw[<-hW] at bc
 have HD:=Hd D;have HX:=Hd (ai huW (ai f0W nh));have HW:=Hd hW;have HBX:=Hd bx
 have ltb:w1.heap.size<W.heap.size:=bx.lt
 have nb:¬tfoot sb b T w1.heap.size:=fun ht=>by have:=(uh HST).lt _ ht;have:=f1.size;omega
 clear D huW f0W nh stW tabW fW hW bx hu f1
 go_wp2_with fail
 rw[uh HW]
 unfold Did at HD
 refine(uh HD).mono ?_
 clear HD
 rintro e w3 (⟨P',⟨_,r⟩,rfl,T',A',o,d⟩ | ⟨P',⟨_,r⟩,rfl,T',A',o,d⟩ | ⟨i,P',⟨e,_⟩,_⟩ | ⟨y,P',⟨e,_⟩,_⟩)
 ·have bc3:w3.cell? ⟨w1.heap.size,0,none⟩=some (ptr w.heap.size):=o.fr.cell' (uh HBX).c nb
  have HO:=Hd (ai r (ai o d))
  clear r o d bc
  go_wp2
  go_ret2
  obtain⟨r,o,d⟩:=uh HO
  obtain⟨huW,f0W,nh⟩:=uh HX
  have lh:w.heap.size<W.heap.size:=by omega
  have o':=o.after f0W
  exact .inl ⟨w.heap.size,P',T',A',rfl,Nat.le_refl _,huW.kept o.fr nh (uh HN0),r,o',o.other lh nh,d⟩
 ·have HO:=Hd (ai r (ai o d))
  clear r o d bc
  go_wp2
  go_ret2
  obtain⟨r,o,d⟩:=uh HO
  exact .inr ⟨P',T',A',rfl,r,o.after (uh HX).2.1,d⟩
 ·injection e with e;cases e
 ·injection e with e;cases e
end
end

section
section
variable {nu sz:Nat} {w w' w0:World} {X V:Nat->Prop} {hb sb b:Nat} {T:Tay} {A:Ab} {N:Nat} {free:Prop} {s:Int} {base:Nat->Int}
theorem HpC.still (h:HpC nu sz w0 X w hb sb b T A N free s base) (hf:St w w'):HpC nu sz w0 X w' hb sb b T A N free s base:=
 ⟨h.hd.still hf,h.cl,h.hp.kept hf id id,h.xh,h.l0⟩
theorem HpC.more (h:HpC nu sz w0 X w hb sb b T A N free s base) (o:Obj):HpC nu sz w0 (fun k=>X k\/k=w.heap.size) (w.alloc o) hb sb b T A N free s base:=
 ⟨h.hd.more o,h.cl,h.hp.kept ((Fr.refl (fun _=>False) w).alloc o) id id,.inl h.xh,h.l0⟩
theorem HpC.var (h:HpC nu sz w0 X w hb sb b T A N free s base) {F:Nat->Prop} (hf:Fr F w w') (hF:∀k,F k->X k) (hn:¬F hb):HpC nu sz w0 X w' hb sb b T A N free s base:=
 ⟨h.hd.var hf hF,h.cl,h.hp.kept hf hn (fun e=>by have:=(h.hd.xl 0 (hF 0 e)).1;have:=h.l0;omega),h.xh,h.l0⟩
theorem HpC.sub {Y:Nat->Prop} (h:HpC nu sz w0 X w hb sb b T A N free s base) (hX:∀k,Y k->X k) (hy:Y hb):HpC nu sz w0 Y w hb sb b T A N free s base:=⟨h.hd.sub hX,h.cl,h.hp,hy,h.l0⟩
theorem HpC.slow (h:HpC nu sz w0 X w hb sb b T A N free s base) {t:Int} (ht:s<=t):HpC nu sz w0 X w hb sb b T A N free t base:=by
 obtain⟨f,c,k⟩:=h.cl
 exact { h with cl:=⟨f,c.more ht,k⟩ }
def DidH (nu sz:Nat) (w0:World) (X V:Nat->Prop) (w:World) (hb sb b:Nat) (T:Tay) (A:Ab) (N:Nat) (s:Int) (base:Nat->Int) (R:How->List (Int×Int)->World->Prop) (e:Ending) (w':World):Prop:=
 Fr (fun k=>tfoot sb b T k\/V k) w w'/\((∃P' T' A',R .well P' w'/\e = .returned (.int .i64 0)/\HpC nu sz w0 X w' hb sb b T' A' N True (s+30729) (homed P' base))\/
 (∃i P' T',R (.errno i) P' w'/\e = .returned (.int .i64 i)/\HpC nu sz w0 X w' hb sb b T' A N True s base))
theorem HpC.do_ {g:Nat} {fi ca:Array Value} {R:How->List (Int×Int)->World->Prop} (h:HpC nu sz w0 X w hb sb b T A N True s base) (hV:∀k,V k->X k) (hn:¬V hb) (hR:Stays V R)
  (hf:ChangeX V w sb b T sz A (.func (.func g) fi ca) R) (hs:s+30729<4294967296) :
  Calls Tryz.prog 9 #[ptr sb,.func (.func g) fi ca] w (DidH nu sz w0 X V w hb sb b T A N s base R):=by
 obtain⟨f,c,k⟩:=h.cl
 refine(t_doX h.hd.st c k (fun k hk=>⟨(h.hd.xl k (hV k hk)).2,h.hd.ap k (hV k hk)⟩) hR hf hs).mono ?_
 have key:∀{w':World} {T':Tay} {A':Ab},OnxX V w sb b T w' T' sz A' [] false->Hold w0 X w' sb b sz T' A' [] false/\HpL nu sz w' hb sb:=by
  intro w' T' A' o
  refine⟨⟨o.st,h.hd.fr.trans' o.fr (fun k hk=>.inr (hk.elim (h.hd.new k) (fun x=>(h.hd.xl k (hV k x)).1))),fun k hk=>(o.sub k hk).elim (h.hd.new k) (fun x=>Nat.le_trans h.hd.fr.size x),fun k hk=>o.other (h.hd.xl k hk).2 (h.hd.ap k hk),fun k hk=>⟨(h.hd.xl k hk).1,Nat.lt_of_lt_of_le (h.hd.xl k hk).2 o.fr.size⟩⟩,?_⟩
  refine h.hp.kept o.fr (fun e=>e.elim (h.hd.ap hb h.xh) hn) (fun e=>?_)
  have l0:=h.l0
  rcases e with e | e
  ·have:=h.hd.new 0 e;omega
  ·have:=(h.hd.xl 0 (hV 0 e)).1;omega
 rintro e w' (⟨P',r,rfl,T',A',o,f',c',k'⟩ | ⟨_,_,_,_,_,_,hg,_⟩ | ⟨i,P',r,rfl,T',o⟩)
 ·exact⟨o.fr,.inl ⟨P',T',A',r,rfl,(key o).1,⟨f',c',k'⟩,(key o).2,h.xh,h.l0⟩⟩
 ·exact absurd trivial hg
 ·exact⟨o.fr,.inr ⟨i,P',T',r,rfl,(key o).1,⟨f,c,k⟩,(key o).2,h.xh,h.l0⟩⟩
structure NewH (nu:Nat) (g:Nat->Int):Prop where
 st:HpS nu g
 ak:ask nu g=fun _=>0
 root:∀i,2<=i->i<18->g i=0
theorem eq_nil_heap (b:Nat) (w:World):(binOp .eql 24 (ptr b) (.pointer none)).run Tryz.prog w = .ok (.bool false) w:=by kernel_rfl
end
end

section
structure Prt where
 at_:Int
 fr:Bool
 n:Nat
 nx:Int
section
variable {w w':World} {lo:Nat} {v:Value} {l:List Prt}
end
theorem wpList_append_run {P:Program} {w:World} {ops:Array Oper} {rest:List Oper} {o:Oper} {a:Act} {Q:Exit->Act->World->Prop} (hgd:o.guard=none) (s x:Operand) (t:TypeId)
  (ho:o.op = .call { callee:=.builtin .append,args:=#[s,x],argTypes:=#[t,t] }) (vs vx:Value) (hs:a.eval s=vs) (hx:a.eval x=vx) (v':Value) (w':World) (hr:(Builtin.append_ #[t,t] o.type #[vs,vx]).run P w = .ok v' w')
  (h:wpList P ops Q rest (a.put o.dst v') w'):wpList P ops Q (o :: rest) a w:=by
 refine wpList_plain hgd fun K hK=>?_
 unfold Oper.wp execOp
 simp only[ho,resolve,invoke,builtin,Sem.run_bind,Sem.run_pure,Result.andThen_ok,List.map_toArray,List.map_cons,List.map_nil,hs,hx,hr]
 exact hK _ _ h
end

section
theorem onlyE_raw {f:Value} {w:World} {R:How->World->Prop} (K:Calls Tryz.prog 80 #[f] w fun e w'=>∃h,e = .returned (.tuple #[h.v,.bool h.is])/\R h w') (hk:∀h w',R h w'->h = .well\/∃i,h = .errno i) :
  Calls Tryz.prog 95 #[f] w fun e w'=>(e = .returned (.tuple #[.int .i64 0,.bool false])/\R .well w')\/∃i,e = .returned (.tuple #[.int .i64 i,.bool true])/\R (.errno i) w':=by
 have HK:=Hd K;clear K
 have a3:=taE_errno
 go_enter Tryz.func95,Tryz.ntmps95
 go_wp2_with fail
 refine(uh HK).mono ?_
 rintro e w1 ⟨h,rfl,hR⟩
 have hK:=hk _ _ hR
 have HR:=Hd hR;clear hR HK hk
 rcases hK with rfl | ⟨i,rfl⟩
 ·simp only[How.v,How.is]
  go_wp2
  go_ret2
  exact .inl ⟨rfl,uh HR⟩
 ·simp only[How.v,How.is]
  go_wp2
  go_ret2
  exact .inr ⟨i,rfl,uh HR⟩
theorem g_errno {f:Value} {w:World} {R:How->World->Prop} (K:Calls Tryz.prog 80 #[f] w fun e w'=>∃h,e = .returned (.tuple #[h.v,.bool h.is])/\R h w') (hk:∀h w',R h w'->h = .well\/∃i,h = .errno i) :
  Calls Tryz.prog 50 #[f] w fun e w'=>(e = .returned (.int .i64 0)/\R .well w')\/∃i,e = .returned (.int .i64 i)/\R (.errno i) w':=by
 have HK:=Hd (onlyE_raw K hk);clear K hk
 go_enter Tryz.func50,Tryz.ntmps50
 go_wp2_with fail
 refine(uh HK).mono ?_
 clear HK
 rintro e w1 (⟨rfl,h⟩ | ⟨i,rfl,h⟩)
 ·have HR:=Hd h
  clear h
  go_wp2
  go_ret
  exact .inl ⟨rfl,uh HR⟩
 ·have HR:=Hd h
  clear h
  go_wp2
  go_ret
  exact .inr ⟨i,rfl,uh HR⟩
section
variable {nu sz:Nat} {w w' w0:World} {hb sb b:Nat} {T:Tay} {A:Ab} {P:List (Int×Int)}
theorem well_errnoG {i:Int} (h:How.well=How.errno i):False:=by injection h with h;cases h
end
end

section
def plU (K:Nat->Nat):Nat->List Nat
 | 0=>[]
 | n+1=>plU K n ++ (if K n=0 then [] else [n])
def plP (nu:Nat) (K:Nat->Nat) (n:Nat):List Nat:=(plU K n).map fun u=>fi nu+u * 8
section
variable {nu sz:Nat} {K:Nat->Nat}
theorem plU_zero {n:Nat} (h:K n=0):plU K (n+1)=plU K n:=by simp[plU,h]
theorem plU_one {n:Nat} (h:K n≠0):plU K (n+1)=plU K n ++ [n]:=by simp[plU,h]
theorem plU_past {nu:Nat} (h:∀u,K u≠0->u<nu) {n:Nat} (hn:nu<=n):plU K n=plU K nu:=by
 obtain⟨d,rfl⟩:∃d,n=nu+d:=⟨n - nu,by omega⟩
 clear hn
 induction d with
 | zero=>rfl
 | succ d ih=>rw[<-Nat.add_assoc,plU_zero (Classical.byContradiction fun e=>by have:=h _ e;omega),ih]
theorem plU_len (n:Nat):(plU K n).length=sumTo (fun u=>if K u=0 then 0 else 1) n:=by
 induction n with
 | zero=>rfl
 | succ n ih=>
  simp only[plU,sumTo,List.length_append,ih]
  split <;> simp
theorem plU_mem {n u:Nat}:u∈plU K n ↔ u<n/\K u≠0:=by
 induction n with
 | zero=>simp[plU]
 | succ n ih=>
  simp only[plU,List.mem_append,ih]
  by_cases h:K n=0
  ·simp only[h,if_true,List.not_mem_nil,or_false]
   constructor
   ·rintro⟨h1,h2⟩;exact⟨by omega,h2⟩
   ·rintro⟨h1,h2⟩;exact⟨Nat.lt_of_le_of_ne (by omega) (fun e=>h2 (e▸h)),h2⟩
  ·simp only[h,if_false,List.mem_singleton]
   constructor
   ·rintro(⟨h1,h2⟩ | rfl)
    ·exact⟨by omega,h2⟩
    ·exact⟨by omega,h⟩
   ·rintro⟨h1,h2⟩
    by_cases e:u=n
    ·exact .inr e
    ·exact .inl ⟨by omega,h2⟩
theorem plU_rise (n:Nat):(plU K n).Pairwise (· < ·):=by
 induction n with
 | zero=>simp[plU]
 | succ n ih=>
  simp only[plU]
  rw[List.pairwise_append]
  refine⟨ih,by split <;> simp,fun a ha c hc=>?_⟩
  split at hc
  ·simp at hc
  ·simp at hc
   subst hc
   exact(plU_mem.1 ha).1
theorem plP_len (n:Nat):(plP nu K n).length=sumTo (fun u=>if K u=0 then 0 else 1) n:=by simp[plP,plU_len]
theorem plP_one {n:Nat} (h:K n≠0):plP nu K (n+1)=plP nu K n ++ [fi nu+n * 8]:=by simp[plP,plU_one h]
theorem plP_zero {n:Nat} (h:K n=0):plP nu K (n+1)=plP nu K n:=by simp[plP,plU_zero h]
theorem plP_le (n:Nat):(plP nu K n).length<=n:=by
 rw[plP_len]
 have:sumTo (fun u=>if K u=0 then 0 else 1) n<=sumTo (fun _=>1) n:=sumTo_le fun u _=>by split <;> omega
 rwa [sumTo_one] at this
end
theorem ask_word {nu:Nat} {f:Nat->Int} {q j:Nat} (h:f (aw nu+q)=0) (hj:j<4) (hq:q<qa nu):ask nu f (4 * q+j)=0:=by
 rw[ask_of (by omega),show(4 * q+j) / 4=q by omega,h]
 simp[dig]
section
variable {nu sz:Nat} {w w':World} {hb sb b:Nat} {T:Tay} {A:Ab} {P:List (Int×Int)}
set_option maxRecDepth 20000 in
theorem h_pieces (h:Hp nu sz w hb sb b T A P) (s:HpS nu (says P A)):Calls Tryz.prog 21 #[ptr hb] w fun e w'=>∃v,e = .returned v/\w'.ownsRow w.heap.size 3 1 v (cnt nu (ask nu (says P A))) (natVals (plP nu (ask nu (says P A)) nu))/\St w w':=by
 have hi:=info3
 obtain⟨i0,hi0⟩:∃i,Tryz.prog.info? 3=some i:=by
  cases h:Tryz.prog.info? 3 with
  | none=>rw[h] at hi;simp at hi
  | some i=>exact⟨i,rfl⟩
 rw[hi0] at hi
 simp only[Option.map_some,Option.some.injEq,Prod.mk.injEq] at hi
 have HI:=Hd (ai hi0 hi)
 clear hi hi0
 obtain⟨g1,g2,g3,g4,g5,g6⟩:=h.hp.geo.b
 have HH:=Hd h;have HS:=Hd s
 clear h s
 go_enter Tryz.func21,Tryz.ntmps21
 go_wp2_with fail
 go_loopw [3,4] (fun v i wr=>∃q:Nat,q<=qa nu/\i = .int .i64 (4 * q)/\wr.ownsRow w.heap.size 3 1 v (plP nu (ask nu (says P A)) (4 * q)).length (natVals (plP nu (ask nu (says P A)) (4 * q)))/\St w wr) (fun v i wr=>5000 - (intOf i).toNat)
 case atStart=>exact⟨0,by omega,rfl,World.ownsRow_nil _ _ _ _,Fr.refl _ _⟩
 case round=>
  obtain⟨q,hq,rfl,own,hf⟩:=hrel
  have hp:=(uh HH).still hf
  have c1:=hp.hp.c1
  have s:=uh HS
  by_cases hlt:q<qa nu
  ·obtain⟨r0,r1⟩:=s.wd (aw nu+q) (by omega)
   have c0:=hp.hp.c0;have c9:=hp.hp.c9
   have LD:=fun p=>hp.reads p (aw nu+q) (by omega)
   have e4:(4 * (q:Int)) / 4=q:=by omega
   have hc4:(4 * (q:Int)<nu)=True:=by simp;omega
   have e2:((aw nu+q:Nat):Int)=(aw nu:Int)+(q:Int):=by omega
   obtain⟨x,hx⟩:∃x:Nat,says P A (aw nu+q)=x:=⟨(says P A (aw nu+q)).toNat,by omega⟩
   simp only[hx,e2] at LD
   have HLD:=@Hd _ LD;have HX:=Hd (ai own (ai hf hx))
   clear LD own hf hp s hx r0 r1
   by_cases hx0:x=0
   ·have hx0':((x:Int) == 0)=true:=by simp;exact hx0
    go_wp2_with fail
    refine region_tailP 12 (by kernel_rfl) (by kernel_rfl) ?_
    simp only[List.take_succ_cons,List.take_zero,List.drop_succ_cons,List.drop_zero]
    repeat (go_big_quiet_step (first | (go_at_call 59;exact Calls.quiet_of_same (uh HLD _))))
    refine wpQuiet_nil ?_
    rintro _ ⟨nq,rfl⟩
    clear HLD
    go_wp2
    obtain⟨own,hf,hx⟩:=uh HX
    have z:says P A (aw nu+q)=0:=by rw[hx,hx0];rfl
    have pz:plP nu (ask nu (says P A)) (4 * (q+1))=plP nu (ask nu (says P A)) (4 * q):=by
     rw[show 4 * (q+1)=4 * q+3+1 by omega,plP_zero (ask_word z (by omega) hlt),plP_zero (n:=4 * q+2) (ask_word z (by omega) hlt),plP_zero (n:=4 * q+1) (ask_word z (by omega) hlt),plP_zero (n:=4 * q) (ask_word z (j:=0) (by omega) hlt)]
    refine⟨⟨q+1,by omega,by go_num,?_,hf.drewN nq⟩,by simp[intOf];omega⟩
    rw[pz]
    exact owns_same own (fun k hk=>rfl)
   ·have hx0':((x:Int) == 0)=false:=by simp;exact hx0
    go_wp2_with fail
    refine region_tailP 12 (by kernel_rfl) (by kernel_rfl) ?_
    simp only[List.take_succ_cons,List.take_zero,List.drop_succ_cons,List.drop_zero]
    repeat (go_big_quiet_step (first | (go_at_call 59;exact Calls.quiet_of_same (uh HLD _))))
    refine wpQuiet_nil ?_
    rintro _ ⟨nq,rfl⟩
    clear HLD c0 c9
    obtain⟨M,hM⟩:∃M,min (4 * q+4) nu=M:=⟨_,rfl⟩
    have hmin:min (4 * (q:Int)+4) nu=M:=by omega
    have hM1:4 * q<=M/\M<=nu/\M<=4 * q+4:=by omega
    go_wp2_with fail
    clear e4 e2 hx0' hx0
    go_loopw [3,5] (fun v i wr=>∃m:Nat,4 * q<=m/\m<=M/\i = .int .i64 m/\wr.ownsRow w.heap.size 3 1 v (plP nu (ask nu (says P A)) m).length (natVals (plP nu (ask nu (says P A)) m))/\St w wr) (fun v i wr=>5000 - (intOf i).toNat)
    case atStart=>exact⟨4 * q,by omega,by omega,by simp,owns_same (uh HX).1 (fun k hk=>rfl),(uh HX).2.1.drewN nq⟩
    case round=>
     clear HX c1
     obtain⟨m,hm1,hm2,rfl,own,hf⟩:=hrel
     have hp:=(uh HH).still hf
     have c1:=hp.hp.c1
     have s:=uh HS
     by_cases hlt2:m<M
     ·obtain⟨r0,r1⟩:=s.wd (aw nu+m / 4) (by omega)
      have BG:=h_begins hp.hp hp.reads m (by omega) r0 r1
      have HBG:=Hd BG;have HX:=Hd (ai own hf);have HP:=Hd hp
      clear BG own hf hp r0 r1
      go_wp2_with fail
      refine(uh HBG).mono ?_
      clear HBG
      rintro e w2 ⟨rfl,D⟩
      have D:Dr _ w2:=D
      by_cases hk:ask nu (says P A) m=0
      ·have hbg:begs nu (ask nu (says P A)) m=false:=by unfold begs;simp[hk]
       rw[hbg]
       have HD:=Hd D
       clear D s
       go_wp2
       obtain⟨own,hf⟩:=uh HX
       have hfd:=(uh HD).still
       refine⟨⟨m+1,by omega,by omega,by go_num,?_,hf.trans' hfd nE⟩,by simp[intOf];omega⟩
       rw[plP_zero hk]
       exact owns_same own fun k hk=>hfd.block k (own.lt k hk).2 id
      ·rw[begs_of s.inv hk]
       have hfd:=D.still
       obtain⟨own,hf⟩:=uh HX
       have own2:w2.ownsRow w.heap.size 3 1 u3 _ _:=owns_same own fun k hk=>hfd.block k (own.lt k hk).2 id
       have PL:=h_place hb m (by omega) w2 (by omega) ((uh HP).still hfd).hp.c10
       have pll:=plP_le (nu:=nu) (K:=ask nu (says P A)) m
       have HOW:=Hd own2;have HF2:=Hd (hf.trans' hfd nE);have HK:=Hd hk
       have lw:=hf.size
       have lw2:=hfd.size
       generalize hgl:(plP nu (ask nu (says P A)) m).length=len at HOW pll
       generalize hgv:natVals (plP nu (ask nu (says P A)) m)=vals at HOW
       have HGL:=Hd hgl;have HGV:=Hd hgv
       clear hgl hgv own2 own hf hfd D s hk
       go_wp2_with (first | (go_at_call 61;refine PL.mono ?_;rintro e w' ⟨rfl,hh⟩;replace hh:=hh.symm;subst hh) | (at_builtin;refine wpList_append_own_at _ rfl _ _ 45 rfl w.heap.size 3 i0 (.int .i64 0) 1 8 Tryz.underlying45 (uh HI).1 (uh HI).2.1 (uh HI).2.2.1 (uh HI).2.2.2 rfl (by decide) _ len vals rfl ((uh HOW).alloc _) _ 1 1 [.int .i64 ((fi nu:Int)+(m:Int) * 8)] rfl rfl ?c1 ?c2 ?c3 ?c4 ?c5 ?_) | fail)
       case c1=>exact cell_one_new _ _ _
       case c2=>intro q hq;simp at hq;subst hq;rfl
       case c3=>unfold maxLen;omega
       case c4=>omega
       case c5=>simp <;> omega
       intro v' w6 hown hgrow hnil hloc
       have HG:=Hd (ai hown hgrow)
       clear hown hgrow hnil hloc
       go_wp2
       obtain⟨hown,hgrow⟩:=uh HG
       have hk:=uh HK
       refine⟨⟨m+1,by omega,by omega,by go_num,?_,?_⟩,by simp[intOf];omega⟩
       ·rw[plP_one hk]
        have:=hown
        rw[<-uh HGL,<-uh HGV] at this
        simpa [natVals] using this
       ·exact((uh HF2).alloc _).grown hgrow (fun k hk=>.inr ((uh HOW).lt k hk).1)
     ·have:m=M:=by omega
      subst this
      have HX:=Hd (ai own hf)
      clear own hf hp s
      go_wp2
      obtain⟨own,hf⟩:=uh HX
      refine⟨⟨q+1,by omega,by go_num,?_,hf⟩,by simp[intOf];omega⟩
      have hpast:plU (ask nu (says P A)) m=plU (ask nu (says P A)) (4 * (q+1)):=by
       by_cases e:m=4 * (q+1)
       ·rw[e]
       ·have hm:m=nu:=by omega
        rw[hm]
        exact(plU_past (fun u hu=>((uh HS).inv.asks u hu).1) (by omega)).symm
      unfold plP at own ⊢
      rw[<-hpast];exact own
  ·have hqq:q=qa nu:=by omega
   subst hqq
   have HX:=Hd (ai own hf)
   clear own hf hp s
   go_wp2
   go_ret
   obtain⟨own,hf⟩:=uh HX
   refine⟨_,rfl,?_,hf⟩
   have hpast:plP nu (ask nu (says P A)) (4 * qa nu)=plP nu (ask nu (says P A)) nu:=by
    unfold plP
    rw[plU_past (fun u hu=>((uh HS).inv.asks u hu).1) (by omega)]
   rw[hpast,plP_len] at own
   exact own
end
end
end Go.Proofs.YtbiopjmpdhcjgaaGreatDoor
