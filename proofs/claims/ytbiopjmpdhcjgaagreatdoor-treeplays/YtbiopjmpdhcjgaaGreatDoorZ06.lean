/- Joined: GCov GWrd GHf GHr GHq GHa. -/
import Derived.Laws.BitsAllLaws
import Derived.Test.YtbiopjmpdhcjgaaGreatDoorShelf
import Derived.Lib.TrailingZeros
import Derived.Laws.Bits64b
import Derived.Test.YtbiopjmpdhcjgaaGreatDoorZ00
import Derived.Test.YtbiopjmpdhcjgaaGreatDoorZ02
import Derived.Test.YtbiopjmpdhcjgaaGreatDoorZ04
import Derived.Test.YtbiopjmpdhcjgaaGreatDoorZ05
namespace Go.Proofs.YtbiopjmpdhcjgaaGreatDoor
open Go.RowKit
set_option maxHeartbeats 4000000

section
def sumTo (g:Nat->Nat):Nat->Nat
 | 0=>0
 | n+1=>sumTo g n+g n
theorem sumTo_congr {g h:Nat->Nat} {n:Nat} (e:∀u,u<n->g u=h u):sumTo g n=sumTo h n:=by
 induction n with
 | zero=>rfl
 | succ n ih=>unfold sumTo;rw[ih (fun u hu=>e u (by omega)),e n (by omega)]
theorem sumTo_add (g h:Nat->Nat) (n:Nat):sumTo (fun u=>g u+h u) n=sumTo g n+sumTo h n:=by
 induction n with
 | zero=>rfl
 | succ n ih=>simp only[sumTo,ih];omega
theorem sumTo_le {g h:Nat->Nat} {n:Nat} (e:∀u,u<n->g u<=h u):sumTo g n<=sumTo h n:=by
 induction n with
 | zero=>exact Nat.le_refl _
 | succ n ih=>simp only[sumTo];have:=ih (fun u hu=>e u (by omega));have:=e n (by omega);omega
theorem sumTo_one (n:Nat):sumTo (fun _=>1) n=n:=by
 induction n with
 | zero=>rfl
 | succ n ih=>simp only[sumTo,ih]
theorem sumTo_zero {g:Nat->Nat} {n:Nat} (e:∀u,u<n->g u=0):sumTo g n=0:=by
 induction n with
 | zero=>rfl
 | succ n ih=>simp only[sumTo];rw[ih (fun u hu=>e u (by omega)),e n (by omega)]
theorem sumTo_point {g:Nat->Nat} {n u:Nat} (hu:u<n) (e:∀v,v<n->v≠u->g v=0):sumTo g n=g u:=by
 induction n with
 | zero=>omega
 | succ n ih=>
  simp only[sumTo]
  by_cases h:u=n
  ·subst h
   rw[sumTo_zero (fun v hv=>e v (by omega) (by omega))];omega
  ·rw[ih (by omega) (fun v hv hne=>e v (by omega) hne),e n (by omega) (fun x=>h x.symm)];omega
theorem ind_iff (k b u:Nat):ind k b u=if b * 2 ^ k<=u/\u<b * 2 ^ k+2 ^ k then 1 else 0:=by
 unfold ind
 have hp:=two_pos k
 by_cases h:u / 2 ^ k=b
 ·rw[if_pos h,if_pos]
  rw[Nat.div_eq_iff hp] at h
  have h1:b * 2 ^ k<=u:=h.1
  have h2:=h.2
  omega
 ·rw[if_neg h,if_neg]
  rintro⟨h1,h2⟩
  refine h ?_
  rw[Nat.div_eq_iff hp]
  exact⟨h1,by omega⟩
theorem sumTo_ind (k b n:Nat):sumTo (ind k b) n=min (n - b * 2 ^ k) (2 ^ k):=by
 induction n with
 | zero=>simp[sumTo]
 | succ n ih=>
  simp only[sumTo,ih]
  rw[ind_iff]
  generalize b * 2 ^ k=x
  have:=two_pos k
  generalize 2 ^ k=y at *
  split <;> omega
theorem sum_block {nu k b:Nat} (hb:b<nu / 2 ^ k):sumTo (ind k b) nu=2 ^ k:=by
 rw[sumTo_ind]
 have:=block_lt hb
 omega
def cv (K:Nat->Nat) (u:Nat):Nat:=sum7 fun k=>(pc K k (u / 2 ^ k)).toNat
def inP (nu:Nat) (K:Nat->Nat):Nat:=sumTo (cv K) nu
def cnt (nu:Nat) (K:Nat->Nat):Nat:=sumTo (fun u=>if K u=0 then 0 else 1) nu
theorem sum7_add (g h:Nat->Nat):sum7 (fun k=>g k+h k)=sum7 g+sum7 h:=by simp only[sum7];omega
theorem hv_cv (F:Nat->Nat->Bool) (K:Nat->Nat) (u:Nat):hv F K u=sum7 (fun k=>(F k (u / 2 ^ k)).toNat)+cv K u:=by
 unfold hv cv
 exact sum7_add (fun k=>(F k (u / 2 ^ k)).toNat) (fun k=>(pc K k (u / 2 ^ k)).toNat)
section
variable {nu:Nat} {F:Nat->Nat->Bool} {K:Nat->Nat} {hole:Nat->Nat} {k b u x:Nat}
theorem Inv.room (h:Inv nu F K hole):inP nu K<=nu:=by
 have:inP nu K<=sumTo (fun _=>1) nu:=sumTo_le fun u hu=>by have:=h.cov u hu;rw[hv_cv] at this;omega
 rwa [sumTo_one] at this
theorem cv_lay (hb:b<nu / 2 ^ k) (hx:lv x=k) (h0:x≠0) (hK:K (b * 2 ^ k)=0) (u:Nat):cv (setK K (b * 2 ^ k) x) u=cv K u+ind k b u:=by
 have hk:k<7:=by have:=lv_le x;omega
 have pc0:∀j c,c * 2 ^ j=b * 2 ^ k->pc K j c=false:=fun j c e=>by unfold pc;rw[e,hK];simp
 unfold ind
 by_cases e:u / 2 ^ k=b
 ·have h1:=sum7_one (g:=fun k'=>(pc (setK K (b * 2 ^ k) x) k' (u / 2 ^ k')).toNat) (h:=fun k'=>(pc K k' (u / 2 ^ k')).toNat) hk (fun j hj=>by
   rw[pc_setK hx h0]
   split
   ·rename_i e';rw[pc0 _ _ e'];simp[hj]
   ·rfl)
  simp only[e,pc_setK hx h0,if_true,pc0 k b rfl,decide_true,Bool.toNat_true,Bool.toNat_false] at h1
  rw[if_pos e]
  unfold cv
  simp only[pc_setK hx h0]
  omega
 ·rw[if_neg e,Nat.add_zero]
  refine sum7_congr fun j _=>?_
  rw[pc_setK hx h0]
  split
  ·rename_i e'
   rw[pc0 _ _ e']
   by_cases hj:j=k
   ·subst hj
    exact absurd (Nat.eq_of_mul_eq_mul_right (two_pos j) e') e
   ·simp[hj]
  ·rfl
theorem inP_lay (hb:b<nu / 2 ^ k) (hx:lv x=k) (h0:x≠0) (hK:K (b * 2 ^ k)=0):inP nu (setK K (b * 2 ^ k) x)=inP nu K+2 ^ k:=by
 unfold inP
 rw[sumTo_congr (fun u _=>cv_lay hb hx h0 hK u),sumTo_add,sum_block hb]
theorem setK_back (K:Nat->Nat) (u:Nat):setK (setK K u 0) u (K u)=K:=by
 funext v
 unfold setK
 split
 ·rename_i e;rw[e]
 ·rfl
theorem inP_lift (h:Inv nu F K (fun _=>0)) (hu:K u≠0):inP nu (setK K u 0)+2 ^ lv (K u)=inP nu K:=by
 obtain⟨_,h2,h3⟩:=h.lift hu
 have:=inP_lay (K:=setK K u 0) (x:=K u) h2 rfl hu (by rw[h3];simp[setK])
 rw[h3,setK_back] at this
 exact this.symm
theorem cnt_set (hu:u<nu) (x:Nat):cnt nu (setK K u x)+(if K u=0 then 0 else 1)=cnt nu K+(if x=0 then 0 else 1):=by
 unfold cnt
 have h1:=sumTo_add (fun v=>if setK K u x v=0 then 0 else 1) (fun v=>if v=u then (if K u=0 then 0 else 1) else 0) nu
 have h2:=sumTo_add (fun v=>if K v=0 then 0 else 1) (fun v=>if v=u then (if x=0 then 0 else 1) else 0) nu
 rw[sumTo_point (g:=fun v=>if v=u then (if K u=0 then 0 else 1) else 0) hu (fun v _ hv=>by simp[hv])] at h1
 rw[sumTo_point (g:=fun v=>if v=u then (if x=0 then 0 else 1) else 0) hu (fun v _ hv=>by simp[hv])] at h2
 simp only[if_true] at h1 h2
 rw[<-h1,<-h2]
 refine sumTo_congr fun v _=>?_
 by_cases e:v=u
 ·subst e;simp[setK];omega
 ·simp[setK,e]
end
end

section
def gr (nu k:Nat):Nat:=if k<7 then (nu / 2 ^ k+63) / 64 else 0
def Bw (nu:Nat):Nat->Nat
 | 0=>18
 | k+1=>Bw nu k+gr nu k
def aw (nu:Nat):Nat:=Bw nu 7
def qa (nu:Nat):Nat:=(nu+3) / 4
def fi (nu:Nat):Nat:=(aw nu+qa nu+7) / 8 * 8
structure Geo (nu sz:Nat):Prop where
 lo:128<=nu
 hi:nu<=4000
 room:fi nu+8 * nu<=sz
 top:sz<=40000
 stop:∀u,nu<u->u<=sz / 8->sz<fi u+8 * u
theorem gr_div {nu k:Nat} (hk:k<7):gr nu k=(nu / 2 ^ k+63) / 64:=if_pos hk
theorem gr_le' (nu k:Nat):gr nu k<=(nu+63) / 64:=by
 unfold gr
 split
 ·have:nu / 2 ^ k<=nu:=Nat.div_le_self _ _
  omega
 ·omega
theorem Bw_ge (nu k:Nat):18<=Bw nu k:=by
 induction k with
 | zero=>exact Nat.le_refl _
 | succ k ih=>unfold Bw;omega
theorem Bw_mono {nu j k:Nat} (h:j<k):Bw nu j+gr nu j<=Bw nu k:=by
 induction k with
 | zero=>omega
 | succ k ih=>
  show _<=Bw nu k+gr nu k
  by_cases e:j=k
  ·subst e;exact Nat.le_refl _
  ·have:=ih (by omega);omega
theorem aw_eq (nu:Nat):aw nu=18+(nu+63) / 64+(nu / 2+63) / 64+(nu / 4+63) / 64+(nu / 8+63) / 64+(nu / 16+63) / 64+(nu / 32+63) / 64+(nu / 64+63) / 64:=by
 simp[aw,Bw,gr]
theorem aw_le {nu:Nat} (h:nu<=8000):aw nu<=300:=by rw[aw_eq];omega
theorem aw_ge (nu:Nat):18<=aw nu:=Bw_ge nu 7
theorem fi_ge (nu:Nat):aw nu+qa nu<=fi nu:=by unfold fi;omega
theorem fi_le (nu:Nat):fi nu<=aw nu+qa nu+7:=by unfold fi;omega
theorem fi_8 (nu:Nat):fi nu % 8=0:=by unfold fi;omega
theorem fi_top {nu:Nat} (h:nu<=8000):fi nu<=2400:=by have:=fi_le nu;have:=aw_le h;unfold qa at *;omega
theorem qa_ge (nu:Nat):nu<=4 * qa nu/\4 * qa nu<nu+4:=by unfold qa;omega
theorem Geo.b {nu sz:Nat} (g:Geo nu sz):(18<=aw nu/\aw nu<=300)/\(aw nu+qa nu<=fi nu/\fi nu<=2400)/\(nu<=4 * qa nu/\4 * qa nu<nu+4)/\fi nu+8 * nu<=sz/\(128<=nu/\nu<=4000)/\sz<=40000:=by
 have h:=g.hi
 have a:=aw_ge nu
 have b:=aw_le (nu:=nu) (by omega)
 have c:=fi_ge nu
 have d:=fi_top (nu:=nu) (by omega)
 have e:=qa_ge nu
 exact⟨⟨a,b⟩,⟨c,d⟩,e,g.room,⟨g.lo,h⟩,g.top⟩
theorem Bw_up {u v:Nat} (h:u<=v) (k:Nat):Bw u k<=Bw v k:=by
 induction k with
 | zero=>exact Nat.le_refl _
 | succ k ih=>
  refine Nat.add_le_add ih ?_
  unfold gr
  split
  ·exact Nat.div_le_div_right (Nat.add_le_add_right (Nat.div_le_div_right h) _)
  ·exact Nat.le_refl _
theorem fi_mono {u v:Nat} (h:u<=v):fi u<=fi v:=by
 have h1:aw u<=aw v:=Bw_up h 7
 unfold fi qa
 generalize aw u=a at *
 generalize aw v=b at *
 omega
theorem geo24:Geo 1467 12176:=⟨by omega,by omega,by decide,by omega,fun u h1 h2=>by have:=fi_mono (u:=1468) (v:=u) (by omega);have e:fi 1468=440:=(by decide);omega⟩
def fre (nu:Nat) (f:Nat->Int) (k b:Nat):Bool:=decide (b<64 * gr nu k) && (f (Bw nu k+b / 64)).toNat.testBit (b % 64)
def dig (x i:Nat):Nat:=x / 2 ^ (16 * i) % 65536
def ask (nu:Nat) (f:Nat->Int) (u:Nat):Nat:=if u<4 * qa nu then dig (f (aw nu+u / 4)).toNat (u % 4) else 0
section
variable {nu:Nat}
theorem gr_ge {k b:Nat} (hk:k<7) (hb:b<nu / 2 ^ k):b<64 * gr nu k:=by
 rw[gr_div hk];omega
theorem gr_lt {k b:Nat} (h:b<64 * gr nu k):k<7:=by
 refine Classical.byContradiction fun hk=>?_
 rw[gr,if_neg hk] at h
 omega
end
def bitTo (x j:Nat) (v:Bool):Nat:=(x &&& (18446744073709551615 - 2 ^ j)) ||| (if v then 2 ^ j else 0)
theorem bitTo_test (x j:Nat) (v:Bool) (hj:j<64) (i:Nat) (hi:i<64):(bitTo x j v).testBit i=if i=j then v else x.testBit i:=by
 unfold bitTo
 have e:18446744073709551615 - 2 ^ j=2 ^ 64 - (2 ^ j+1):=by omega
 have hlt:2 ^ j<2 ^ 64:=Nat.pow_lt_pow_right (by omega) hj
 rw[Nat.testBit_or,Nat.testBit_and,e,Nat.testBit_two_pow_sub_succ hlt,Nat.testBit_two_pow]
 by_cases h:i=j
 ·subst h
  cases v
  ·simp
  ·simp
 ·rw[if_neg h]
  cases v
  ·simp[hi,Ne.symm h]
  ·simp[hi,Ne.symm h]
theorem bitTo_lt (x j:Nat) (v:Bool) (hx:x<18446744073709551616) (hj:j<64):bitTo x j v<18446744073709551616:=by
 have hlt:2 ^ j<2 ^ 64:=Nat.pow_lt_pow_right (by omega) hj
 unfold bitTo
 refine Nat.or_lt_two_pow (n:=64) (Nat.lt_of_le_of_lt Nat.and_le_left hx) ?_
 split
 ·exact hlt
 ·decide
section
variable {nu:Nat}
theorem fre_set {f:Nat->Int} {k b:Nat} (hb:b<64 * gr nu k) (v:Bool):fre nu (upd f (Bw nu k+b / 64) (bitTo (f (Bw nu k+b / 64)).toNat (b % 64) v:Nat))=setF (fre nu f) k b v:=by
 funext j c
 unfold setF fre
 by_cases hc:c<64 * gr nu j
 ·have key:Bw nu j+c / 64=Bw nu k+b / 64 ↔ j=k/\c / 64=b / 64:=by
   rcases Nat.lt_trichotomy j k with h | h | h
   ·have:=Bw_mono (nu:=nu) h;omega
   ·subst h;omega
   ·have:=Bw_mono (nu:=nu) h;omega
  by_cases e:Bw nu j+c / 64=Bw nu k+b / 64
  ·obtain⟨rfl,e2⟩:=key.1 e
   rw[e,upd_same]
   simp only[Int.toNat_natCast,decide_eq_true hc,Bool.true_and]
   rw[bitTo_test _ _ _ (Nat.mod_lt _ (by omega)) _ (Nat.mod_lt _ (by omega))]
   by_cases e3:c % 64=b % 64
   ·have:c=b:=by omega
    simp[this]
   ·have:c≠b:=fun x=>e3 (by rw[x])
    simp[e3,this]
  ·rw[upd_other _ _ e,if_neg]
   rintro⟨rfl,rfl⟩;exact e rfl
 ·rw[if_neg (by rintro⟨rfl,rfl⟩;exact hc hb)]
  simp[hc]
theorem Bw_lt {k b:Nat} (hb:b<64 * gr nu k):18<=Bw nu k+b / 64/\Bw nu k+b / 64<aw nu:=by
 have h1:=Bw_ge nu k
 have h2:=Bw_mono (nu:=nu) (gr_lt hb)
 unfold aw
 omega
end
def digTo (x i y:Nat):Nat:=(x &&& (18446744073709551615 - 65535 * 2 ^ (16 * i))) ||| (y * 2 ^ (16 * i))
theorem dig_test (x i j:Nat):(dig x i).testBit j=(decide (j<16) && x.testBit (16 * i+j)):=by
 unfold dig
 rw[show(65536:Nat)=2 ^ 16 from rfl,Nat.testBit_mod_two_pow,Nat.testBit_div_two_pow,Nat.add_comm]
theorem mask_test (i n:Nat) (hi:i<4) (hn:n<64):(18446744073709551615 - 65535 * 2 ^ (16 * i)).testBit n = ! (decide (16 * i<=n) && decide (n<16 * i+16)):=by
 have e:18446744073709551615 - 65535 * 2 ^ (16 * i)=2 ^ 64 - (65535 * 2 ^ (16 * i)+1):=by omega
 have hlt:65535 * 2 ^ (16 * i)<2 ^ 64:=by
  rcases (show i=0\/i=1\/i=2\/i=3 by omega) with rfl | rfl | rfl | rfl <;> decide
 rw[e,Nat.testBit_two_pow_sub_succ hlt,Nat.testBit_mul_two_pow,show(65535:Nat)=2 ^ 16 - 1 from rfl,Nat.testBit_two_pow_sub_one]
 by_cases h1:16 * i<=n <;> by_cases h2:n<16 * i+16
 ·have:n - 16 * i<16:=by omega
  simp[hn,h1,h2,this]
 ·have:¬n - 16 * i<16:=by omega
  simp[hn,h1,h2,this]
 ·simp[hn,h1]
 ·simp[hn,h1]
theorem digTo_dig (x i y j:Nat) (hi:i<4) (hj:j<4) (hy:y<65536):dig (digTo x i y) j=if j=i then y else dig x j:=by
 refine Nat.eq_of_testBit_eq fun n=>?_
 rw[dig_test]
 by_cases hn:n<16
 ·unfold digTo
  rw[Nat.testBit_or,Nat.testBit_and,mask_test i _ hi (by omega),Nat.testBit_mul_two_pow]
  by_cases e:j=i
  ·subst e
   rw[if_pos rfl]
   simp[hn]
  ·rw[if_neg e,dig_test]
   have h1:¬(16 * i<=16 * j+n/\16 * j+n<16 * i+16):=by omega
   have h2:(decide (16 * i<=16 * j+n) && decide (16 * j+n<16 * i+16))=false:=by
    rw[<-Bool.decide_and];exact decide_eq_false h1
   rw[h2]
   have h3:(decide (16 * j+n ≥ 16 * i) && y.testBit (16 * j+n - 16 * i))=false:=by
    by_cases h:16 * j+n ≥ 16 * i
    ·rw[Nat.testBit_lt_two_pow (Nat.lt_of_lt_of_le hy (Nat.pow_le_pow_right (n:=2) (by omega) (show 16<=16 * j+n - 16 * i by omega)))];simp
    ·simp[h]
   rw[h3]
   simp[hn]
 ·have h1:(if j=i then y else dig x j).testBit n=false:=by
   split
   ·exact Nat.testBit_lt_two_pow (Nat.lt_of_lt_of_le hy (Nat.pow_le_pow_right (n:=2) (by omega) (show 16<=n by omega)))
   ·rw[dig_test];simp[hn]
  rw[h1];simp[hn]
theorem digTo_lt (x i y:Nat) (hx:x<18446744073709551616) (hi:i<4) (hy:y<65536):digTo x i y<18446744073709551616:=by
 unfold digTo
 refine Nat.or_lt_two_pow (n:=64) (Nat.lt_of_le_of_lt Nat.and_le_left hx) ?_
 rcases (show i=0\/i=1\/i=2\/i=3 by omega) with rfl | rfl | rfl | rfl <;> simp <;> omega
section
variable {nu:Nat}
theorem ask_of {f:Nat->Int} {u:Nat} (hu:u<4 * qa nu):ask nu f u=dig (f (aw nu+u / 4)).toNat (u % 4):=if_pos hu
theorem ask_no {f:Nat->Int} {u:Nat} (hu:¬u<4 * qa nu):ask nu f u=0:=if_neg hu
theorem ask_set {f:Nat->Int} {u y:Nat} (hu:u<4 * qa nu) (hy:y<65536):ask nu (upd f (aw nu+u / 4) (digTo (f (aw nu+u / 4)).toNat (u % 4) y:Nat))=setK (ask nu f) u y:=by
 funext v
 by_cases hv:v<4 * qa nu
 ·rw[ask_of hv]
  by_cases e:v / 4=u / 4
  ·rw[e,upd_same,Int.toNat_natCast,digTo_dig _ _ _ _ (Nat.mod_lt _ (by omega)) (Nat.mod_lt _ (by omega)) hy]
   by_cases e2:v % 4=u % 4
   ·rw[if_pos e2];unfold setK;rw[if_pos (by omega)]
   ·rw[if_neg e2];unfold setK;rw[if_neg (fun x=>e2 (by rw[x])),ask_of hv,e]
  ·rw[upd_other _ _ (by omega)];unfold setK;rw[if_neg (fun x=>e (by rw[x])),ask_of hv]
 ·rw[ask_no hv];unfold setK;rw[if_neg (by omega),ask_no hv]
theorem ask_upd {f:Nat->Int} {i:Nat} (v:Int) (hi:i<aw nu\/aw nu+qa nu<=i):ask nu (upd f i v)=ask nu f:=by
 funext u
 by_cases hu:u<4 * qa nu
 ·rw[ask_of hu,ask_of hu,upd_other _ _ (by omega)]
 ·rw[ask_no hu,ask_no hu]
theorem fre_upd {f:Nat->Int} {i:Nat} (v:Int) (hi:i<18\/aw nu<=i):fre nu (upd f i v)=fre nu f:=by
 funext k b
 unfold fre
 by_cases hb:b<64 * gr nu k
 ·have:=Bw_lt hb
  rw[upd_other _ _ (by omega)]
 ·simp[hb]
theorem ask_lt (f:Nat->Int) (u:Nat):ask nu f u<65536:=by
 unfold ask dig
 split
 ·exact Nat.mod_lt _ (by omega)
 ·omega
end
end
theorem h_groups (n s:Int) (h0:0<=n) (h1:n<=65536) (h2:1<=s) (h3:s<=64) (w:World):Calls Tryz.prog 108 #[.int .i64 n,.int .i64 s] w fun e w'=>e = .returned (.int .i64 ((n+s - 1) / s))/\w'=w:=by
 have hs:(s == 0)=false:=by simp;omega
 have hq:Int.tdiv (n+s - 1) s=(n+s - 1) / s:=Int.tdiv_eq_ediv_of_nonneg (by omega)
 have b1:0<=(n+s - 1) / s:=Int.ediv_nonneg (by omega) (by omega)
 have b2:(n+s - 1) / s<=70000:=Int.le_trans (Int.ediv_le_self _ (by omega)) (by omega)
 go_enter Tryz.func108,Tryz.ntmps108
 go_wp2
 go_ret
 exact⟨rfl,rfl⟩
theorem h_blocks {nu:Nat} (hb:Nat) (k:Nat) (hk:k<7) (w:World) (_hn:nu<=8000) (c1:w.cell? ⟨hb,1,none⟩=some (.int .i64 nu)):Calls Tryz.prog 110 #[ptr hb,.int .i64 k] w fun e w'=>e = .returned (.int .i64 (nu / 2 ^ k:Nat))/\w'=w:=by
 have e1:((nu / 2 ^ k:Nat):Int)=nu / 2 ^ k:=by simp
 rw[e1]
 go_enter Tryz.func110,Tryz.ntmps110
 go_wp2
 go_ret
 exact⟨rfl,rfl⟩
theorem h_place {F:Nat} (hb:Nat) (u:Nat) (hu:u<=8000) (w:World) (hF:F<=3000) (c1:w.cell? ⟨hb,10,none⟩=some (.int .i64 F)):Calls Tryz.prog 61 #[ptr hb,.int .i64 u] w fun e w'=>e = .returned (.int .i64 (F+u * 8))/\w'=w:=by
 go_enter Tryz.func61,Tryz.ntmps61
 go_wp2
 go_ret
 exact⟨rfl,rfl⟩
theorem h_all (hb:Nat) (u:Nat) (hu:u<=8000) (w:World) (c1:w.cell? ⟨hb,1,none⟩=some (.int .i64 u)):Calls Tryz.prog 122 #[ptr hb] w fun e w'=>e = .returned (.int .i64 (u * 8))/\w'=w:=by
 go_enter Tryz.func122,Tryz.ntmps122
 go_wp2
 go_ret
 exact⟨rfl,rfl⟩
theorem lv_bit:∀x:Fin 512,Lib.bitLen (x.val / 8)=lv (x.val+1):=by decide +kernel
theorem h_level (x:Nat) (h1:1<=x) (h2:x<=512) (w:World):Calls Tryz.prog 107 #[.int .i64 x] w fun e w'=>e = .returned (.int .i64 (lv x))/\w'=w:=by
 have K:Calls Tryz.prog 115 #[.int .u64 (((x:Int) - 1) / 8)] w _:=Tryz.bits_Len _ w (by omega) (by omega)
 have hl:=lv_bit ⟨x - 1,by omega⟩
 have e1:(((x:Int) - 1) / 8).toNat=(x - 1) / 8:=by omega
 have e2:x - 1+1=x:=by omega
 simp only[e2] at hl
 rw[e1,hl] at K
 go_enter Tryz.func107,Tryz.ntmps107
 go_wp2_with (go_at_call 115;refine K.mono ?_;rintro e w' ⟨rfl,hh⟩;replace hh:=hh.symm;subst hh)
 go_ret
 exact⟨rfl,rfl⟩
theorem tz_key (x a:Nat) (hx:x<18446744073709551616) (hx0:x≠0) (hlow:x &&& (18446744073709551616 - x)=a) :
  IntKind.u64.wrap (bits BinOp.and IntKind.u64 (x:Int) (IntKind.u64.wrap (-(x:Int))) * 285870213051353865) / 288230376151711744=((a * 285870213051353865 % 18446744073709551616 / 288230376151711744:Nat):Int):=by
 have e1:IntKind.u64.wrap (-(x:Int))=((18446744073709551616 - x:Nat):Int):=by rw[IntKind.wrap_u64];omega
 rw[e1,u64_and_nat x _ hx (by omega),hlow,IntKind.wrap_u64]
 omega
theorem tz_core (x k idx:Nat) (w:World) (hx0:((x:Int) == 0)=false)
  (key:IntKind.u64.wrap (bits BinOp.and IntKind.u64 (x:Int) (IntKind.u64.wrap (-(x:Int))) * 285870213051353865) / 288230376151711744=(idx:Int))
  (hi:idx<64) (hk:k<64) (hcell:w.cell? ⟨0,idx,none⟩=some (.int .u8 k)) :
  Calls Tryz.prog 111 #[.int .u64 x] w fun e w'=>e = .returned (.int .i64 k)/\w'=w:=by
 go_enter Tryz.func111,Tryz.ntmps111
 go_wp2_with (simp only[key])
 go_ret
 exact⟨rfl,rfl⟩
def TabL (w:World):Prop:=∀j,j<64->w.cell? ⟨0,j,none⟩=some (.int .u8 (Lib.deBruijn64tab.getD j 0:Nat))
theorem tz_ok (x:Nat) (hx:x<18446744073709551616) (hx0:x≠0) (w:World) (hT:TabL w) :
  Calls Tryz.prog 111 #[.int .u64 x] w fun e w'=>e = .returned (.int .i64 (Lib.ctz 64 x))/\w'=w:=by
 obtain⟨hlow,hk⟩:=Lib.lowest_bit 64 x hx0 hx
 obtain⟨hi,htab⟩:=Lib.deBruijn64_at _ hk
 have hcell:=hT _ hi
 rw[htab] at hcell
 exact tz_core x _ _ w (by simp;omega) (tz_key x _ hx hx0 hlow) hi hk hcell
theorem ctz_bit (x:Nat) (hx:x<18446744073709551616) (hx0:x≠0):x.testBit (Lib.ctz 64 x)=true/\Lib.ctz 64 x<64:=by
 obtain⟨m,h1,h2⟩:=Lib.ctzFrom_spec 64 x (by omega) hx
 have e:Lib.ctz 64 x=Lib.ctzFrom 64 x:=if_neg hx0
 rw[e]
 refine⟨?_,h2⟩
 generalize Lib.ctzFrom 64 x=c at *
 rw[h1,Nat.mul_comm,Nat.testBit_mul_two_pow]
 simp

section
structure HpL (nu sz:Nat) (w:World) (hb sb:Nat):Prop where
 geo:Geo nu sz
 c0:w.cell? ⟨hb,0,none⟩=some (ptr sb)
 c1:w.cell? ⟨hb,1,none⟩=some (.int .i64 nu)
 cb:∀k,k<7->w.cell? ⟨hb,2+k,none⟩=some (.int .i64 (Bw nu k:Nat))
 c9:w.cell? ⟨hb,9,none⟩=some (.int .i64 (aw nu))
 c10:w.cell? ⟨hb,10,none⟩=some (.int .i64 (fi nu))
 tab:TabL w
theorem HpL.kept {nu sz:Nat} {w w':World} {hb sb:Nat} (h:HpL nu sz w hb sb) {F:Nat->Prop} (hf:Fr F w w') (n1:¬F hb) (n2:¬F 0):HpL nu sz w' hb sb where
 geo:=h.geo
 c0:=hf.cell' h.c0 n1
 c1:=hf.cell' h.c1 n1
 cb:=fun k hk=>hf.cell' (h.cb k hk) n1
 c9:=hf.cell' h.c9 n1
 c10:=hf.cell' h.c10 n1
 tab:=fun j hj=>hf.cell' (h.tab j hj) n2

def Rds (sz:Nat) (w:World) (sb:Nat) (f:Nat->Int):Prop:=∀(q:Nat) (i:Nat),i<sz->Calls Tryz.prog 59 #[ptr sb,.int .i64 i] (w.drewN q) fun e w'=>e = .returned (u64 (f i))/\w'=w.drewN q
theorem HpL.drew {nu sz:Nat} {w:World} {hb sb:Nat} (h:HpL nu sz w hb sb) (q:Nat):HpL nu sz (w.drewN q) hb sb:=h.kept ((Fr.refl (fun _=>False) w).drewN q) id id
section
variable {nu sz:Nat} {w:World} {hb sb:Nat} {f:Nat->Int}
theorem Rds.drew (h:Rds sz w sb f) (q:Nat):Rds sz (w.drewN q) sb f:=fun p i hi=>by
 have e:(w.drewN q).drewN p=w.drewN (q+p):=by simp[World.drewN,Nat.add_assoc]
 rw[e]
 exact h (q+p) i hi
def Dr (w wr:World):Prop:=∃q,wr=w.drewN q
theorem Dr.refl (w:World):Dr w w:=⟨0,rfl⟩
theorem Dr.trans {w1 w2:World} (h:Dr w w1) (k:Dr w1 w2):Dr w w2:=by
 obtain⟨q,rfl⟩:=h
 obtain⟨p,rfl⟩:=k
 exact⟨q+p,by simp[World.drewN,Nat.add_assoc]⟩
theorem Dr.still {w1:World} (h:Dr w w1):Fr (fun _=>False) w w1:=by obtain⟨q,rfl⟩:=h;exact(Fr.refl _ w).drewN q
theorem HpL.dr {w1:World} (h:HpL nu sz w hb sb) (k:Dr w w1):HpL nu sz w1 hb sb:=by obtain⟨q,rfl⟩:=k;exact h.drew q
theorem Rds.dr {w1:World} (h:Rds sz w sb f) (k:Dr w w1):Rds sz w1 sb f:=by obtain⟨q,rfl⟩:=k;exact h.drew q
theorem small_w64 {x:Int} (h:-9223372036854775808<=x/\x<9223372036854775808):wrap64 x=x:=by unfold wrap64;omega
theorem shr_dig (x i:Nat) (_hi:i<4) (hx:x<18446744073709551616):bits .and .u64 ((x:Int) / 2 ^ (i * 16)) 65535=(dig x i:Int):=by
 have e:((x:Int) / 2 ^ (i * 16))=((x / 2 ^ (16 * i):Nat):Int):=by rw[Nat.mul_comm];simp
 rw[e,show(65535:Int)=((65535:Nat):Int) from rfl,u64_and_nat _ _ (Nat.lt_of_le_of_lt (Nat.div_le_self _ _) hx) (by omega),nat_mask16]
 rfl
theorem h_asked (h:HpL nu sz w hb sb) (rd:Rds sz w sb f) (u:Nat) (hu:u<4 * qa nu) (r0:0<=f (aw nu+u / 4)) (r1:f (aw nu+u / 4)<18446744073709551616) :
  Calls Tryz.prog 106 #[ptr hb,.int .i64 u] w fun e w'=>e = .returned (.int .i64 (ask nu f u))/\∃q,w'=w.drewN q:=by
 have c0:=h.c0;have c9:=h.c9
 obtain⟨g1,g2,g3,g4,g5,g6⟩:=h.geo.b
 have LD:=fun q=>rd q (aw nu+u / 4) (by omega)
 obtain⟨x,hx⟩:∃x:Nat,f (aw nu+u / 4)=x:=⟨(f (aw nu+u / 4)).toNat,by omega⟩
 have e1:ask nu f u=dig x (u % 4):=by rw[ask_of hu,hx];rfl
 have SD:=shr_dig x (u % 4) (by omega) (by omega)
 rw[e1]
 have e2:((aw nu+u / 4:Nat):Int)=(aw nu:Int)+(u:Int) / 4:=by omega
 simp only[hx,e2] at LD
 have HLD:=@Hd _ LD
 have HSD:=Hd SD
 have hu8:u<=8000:=by omega
 have ha3:=g1.2
 clear LD h rd SD e1 e2 hx r0 r1 hu g1 g2 g3 g4 g5 g6
 generalize aw nu=a at *
 go_enter Tryz.func106,Tryz.ntmps106
 go_wp2_with fail
 refine region_tailP 18 (by kernel_rfl) (by kernel_rfl) ?_
 simp only[List.take_succ_cons,List.take_zero,List.drop_succ_cons,List.drop_zero]
 repeat (go_big_quiet_step (first | (go_at_call 59;exact Calls.quiet_of_same (uh HLD _))))
 refine wpQuiet_nil ?_
 rintro _ ⟨nq,rfl⟩
 rw[uh HSD,small_w64 (by have:dig x (u % 4)<65536:=Nat.mod_lt _ (by omega);omega)]
 go_wp2
 go_ret
 exact⟨rfl,nq,rfl⟩
def begs (nu:Nat) (K:Nat->Nat) (u:Nat):Bool:=decide (K u≠0/\K u<=512/\u % 2 ^ lv (K u)=0/\u+2 ^ lv (K u)<=nu)
theorem h_begins (h:HpL nu sz w hb sb) (rd:Rds sz w sb f) (u:Nat) (hu:u<4 * qa nu) (r0:0<=f (aw nu+u / 4)) (r1:f (aw nu+u / 4)<18446744073709551616) :
  Calls Tryz.prog 60 #[ptr hb,.int .i64 u] w fun e w'=>e = .returned (.bool (begs nu (ask nu f) u))/\∃q,w'=w.drewN q:=by
 have K:=h_asked h rd u hu r0 r1
 have HK:=Hd K
 have c1:=h.c1
 obtain⟨g1,g2,g3,g4,g5,g6⟩:=h.geo.b
 have hu8:u<=8000:=by omega
 have hn8:=g5.2
 unfold begs
 generalize ask nu f u=x at *
 clear K h rd r0 r1 hu g1 g2 g3 g4 g5 g6
 go_enter Tryz.func60,Tryz.ntmps60
 go_wp2_with fail
 refine(uh HK).mono ?_
 clear HK
 rintro e w1 ⟨rfl,q,rfl⟩
 by_cases h1:x=0
 ·subst h1
  go_wp2
  go_ret
  exact⟨rfl,q,rfl⟩
 ·by_cases h2:x<=512
  ·have L:=h_level x (by omega) h2 (w.drewN q)
   have hl:=lv_le x
   have p1:=two_pos (lv x)
   have p2:2 ^ lv x<=2 ^ 6:=Nat.pow_le_pow_right (by omega) hl
   have hw:wrap64 (2 ^ lv x)=((2 ^ lv x:Nat):Int):=by
    have e:((2 ^ lv x:Nat):Int)=2 ^ lv x:=by simp
    rw[<-e]
    exact small_w64 (by omega)
   have c1':(w.drewN q).cell? ⟨hb,1,none⟩=some (.int .i64 nu):=c1
   generalize hm:2 ^ lv x=m at *
   by_cases d1:u % m=0
   ·have d1':(u:Int) % m=0:=by omega
    by_cases d2:u+m<=nu
    ·go_wp2_with (go_at_call 107;refine L.mono ?_;rintro e w' ⟨rfl,hh⟩;replace hh:=hh.symm;subst hh)
     go_ret
     exact⟨by simp[hm,h1,h2,d1,d2];omega,q,rfl⟩
    ·go_wp2_with (go_at_call 107;refine L.mono ?_;rintro e w' ⟨rfl,hh⟩;replace hh:=hh.symm;subst hh)
     go_ret
     exact⟨by simp[hm,d2];omega,q,rfl⟩
   ·have d1':((u:Int) % m == 0)=false:=by simp;omega
    go_wp2_with (go_at_call 107;refine L.mono ?_;rintro e w' ⟨rfl,hh⟩;replace hh:=hh.symm;subst hh)
    go_ret
    exact⟨by simp[hm,d1],q,rfl⟩
  ·go_wp2
   go_ret
   exact⟨by simp[h2],q,rfl⟩
end
end

section
def Words64 (nu:Nat) (f:Nat->Int):Prop:=∀i,i<fi nu->0<=f i/\f i<18446744073709551616
abbrev errnoQ (i:Int):List PanicEntry:=[{ v:=.iface 28 (.int .i64 i),recovered:=false }]
section
variable {nu sz:Nat} {w:World} {hb sb:Nat} {f:Nat->Int}
theorem and_bit (x j:Nat) (hx:x<18446744073709551616):bits .and .u64 ((x:Int) / 2 ^ j) 1=((x / 2 ^ j % 2:Nat):Int):=by
 have e:((x:Int) / 2 ^ j)=((x / 2 ^ j:Nat):Int):=by simp
 rw[e,show(1:Int)=((1:Nat):Int) from rfl,u64_and_nat _ _ (Nat.lt_of_le_of_lt (Nat.div_le_self _ _) hx) (by omega),nat_mask1]
theorem h_isFree (h:HpL nu sz w hb sb) (rd:Rds sz w sb f) (wd:Words64 nu f) (k b:Nat) (hk:k<7) (hb':b<64 * gr nu k) :
  Calls Tryz.prog 173 #[ptr hb,.int .i64 k,.int .i64 b] w fun e w'=>e = .returned (.bool (decide (b<nu / 2 ^ k) && fre nu f k b))/\∃q,w'=w.drewN q:=by
 have c0:=h.c0;have ck:=h.cb k hk
 obtain⟨g1,g2,g3,g4,g5,g6⟩:=h.geo.b
 have BK:∀q,Calls Tryz.prog 110 #[ptr hb,.int .i64 k] (w.drewN q) _:=fun q=>h_blocks hb k hk (w.drewN q) (by omega) h.c1
 have bl:=Bw_lt hb'
 obtain⟨r0,r1⟩:=wd (Bw nu k+b / 64) (by omega)
 have LD:=fun q=>rd q (Bw nu k+b / 64) (by omega)
 obtain⟨x,hx⟩:∃x:Nat,f (Bw nu k+b / 64)=x:=⟨(f (Bw nu k+b / 64)).toNat,by omega⟩
 have hfr:fre nu f k b=decide (x / 2 ^ (b % 64) % 2=1):=by
  unfold fre
  rw[decide_eq_true hb',Bool.true_and,hx,Int.toNat_natCast,Nat.testBit_eq_decide_div_mod_eq]
 have AB:=and_bit x (b % 64) (by omega)
 have hb5:b<=4100:=by have:=gr_le' nu k;omega
 have EB:((x:Int) / 2 ^ (b % 64) % 2 != 0)=decide (x / 2 ^ (b % 64) % 2=1):=by
  have e:((x:Int) / 2 ^ (b % 64) % 2)=((x / 2 ^ (b % 64) % 2:Nat):Int):=by simp
  rw[e]
  rcases Nat.mod_two_eq_zero_or_one (x / 2 ^ (b % 64)) with e | e <;> rw[e] <;> rfl
 have EB:=Hd EB
 rw[hfr]
 have e2:((Bw nu k+b / 64:Nat):Int)=(Bw nu k:Int)+(b:Int) / 64:=by omega
 simp only[hx,e2] at LD
 have bl3:Bw nu k+b / 64<=300:=by omega
 clear bl g1 g2 g3 g4 g6 hb'
 generalize Bw nu k=B at *
 have hn4:nu / 2 ^ k<=4000:=Nat.le_trans (Nat.div_le_self _ _) g5.2
 clear g5
 generalize nu / 2 ^ k=n at *
 have HLD:=@Hd _ LD
 have HBK:=@Hd _ BK
 clear LD h rd BK hfr wd
 go_enter Tryz.func173,Tryz.ntmps173
 by_cases hlt:b<n
 ·have hlt':((b:Int)<n)=True:=by simp;omega
  go_wp2_with fail
  refine region_tailP 26 (by kernel_rfl) (by kernel_rfl) ?_
  simp only[List.take_succ_cons,List.take_zero,List.drop_succ_cons,List.drop_zero]
  repeat (go_big_quiet_step (first | (go_at_call 59;exact Calls.quiet_of_same (uh HLD _)) | (go_at_call 110;exact Calls.quiet_of_same (uh HBK _))))
  refine wpQuiet_nil ?_
  rintro _ ⟨nq,rfl⟩
  clear HLD HBK
  go_wp2
  go_ret
  exact⟨by rw[decide_eq_true hlt,Bool.true_and];rfl,nq,rfl⟩
 ·have hlt':((b:Int)<n)=False:=by simp;omega
  go_wp2_with fail
  refine region_tailP 26 (by kernel_rfl) (by kernel_rfl) ?_
  simp only[List.take_succ_cons,List.take_zero,List.drop_succ_cons,List.drop_zero]
  repeat (go_big_quiet_step (first | (go_at_call 59;exact Calls.quiet_of_same (uh HLD _)) | (go_at_call 110;exact Calls.quiet_of_same (uh HBK _))))
  refine wpQuiet_nil ?_
  rintro _ ⟨nq,rfl⟩
  clear HLD HBK
  go_wp2
  go_ret
  exact⟨by rw[decide_eq_false hlt,Bool.false_and];rfl,nq,rfl⟩
theorem gr_eq {k:Nat} (hk:k<7):(((nu / 2 ^ k:Nat):Int)+64 - 1) / 64=gr nu k:=by
 rw[gr_div hk]
 generalize nu / 2 ^ k=x
 omega
theorem gr_le (g:Geo nu sz) (k:Nat):gr nu k<=63:=by have:=gr_le' nu k;have:=g.hi;omega
theorem fre_zero {k i:Nat} (h:∀j,j<i->f (Bw nu k+j)=0) {b:Nat} (hb':b / 64<i):fre nu f k b=false:=by
 unfold fre
 rw[h _ hb']
 simp
theorem h_firstFree (h:HpL nu sz w hb sb) (rd:Rds sz w sb f) (wd:Words64 nu f) (k:Nat) (hk:k<7) (hin:∀b,fre nu f k b=true->b<nu / 2 ^ k) :
  Calls Tryz.prog 202 #[ptr hb,.int .i64 k] w fun e w'=>((∃b:Nat,e = .returned (.tuple #[.int .i64 b,.bool true])/\fre nu f k b=true)\/(e = .returned (.tuple #[.int .i64 0,.bool false])/\∀b,fre nu f k b=false))/\Dr w w':=by
 obtain⟨g1,g2,g3,g4,g5,g6⟩:=h.geo.b
 have BK:=h_blocks hb k hk w (by omega) h.c1
 have GR:=h_groups ((nu / 2 ^ k:Nat):Int) 64 (Int.natCast_nonneg _) (by have:nu / 2 ^ k<=nu:=Nat.div_le_self _ _;omega) (by omega) (by omega) w
 rw[gr_eq hk] at GR
 have g8:=gr_le h.geo k
 have HH:=Hd h;have HRD:=Hd rd;have HWD:=Hd wd;have HIN:=Hd hin
 have hn5:nu / 2 ^ k<=4000:=Nat.le_trans (Nat.div_le_self _ _) g5.2
 clear h rd wd hin
 go_enter Tryz.func202,Tryz.ntmps202
 go_wp2_with (first | (go_at_call 110;refine BK.mono ?_;rintro e w' ⟨rfl,hh⟩;replace hh:=hh.symm;subst hh) | (go_at_call 108;refine GR.mono ?_;rintro e w' ⟨rfl,hh⟩;replace hh:=hh.symm;subst hh))
 clear BK GR
 go_loopw [12] (fun i wr=>∃m:Nat,m<=gr nu k/\i = .int .i64 m/\(∀j,j<m->f (Bw nu k+j)=0)/\Dr w wr) (fun i wr=>gr nu k - (intOf i).toNat)
 case atStart=>exact⟨0,by omega,rfl,fun j hj=>by omega,Dr.refl w⟩
 case round=>
  obtain⟨m,hm,rfl,hz,hdr⟩:=hrel
  by_cases hlt:m<gr nu k
  ·have bl:=Bw_lt (nu:=nu) (k:=k) (b:=64 * m) (by omega)
   have em:64 * m / 64=m:=by omega
   rw[em] at bl
   obtain⟨r0,r1⟩:=uh HWD (Bw nu k+m) (by omega)
   have LD:=fun q=>(uh HRD).dr hdr q (Bw nu k+m) (by omega)
   have c0:=((uh HH).dr hdr).c0;have ck:=((uh HH).dr hdr).cb k hk
   obtain⟨x,hx⟩:∃x:Nat,f (Bw nu k+m)=x:=⟨(f (Bw nu k+m)).toNat,by omega⟩
   have e2:((Bw nu k+m:Nat):Int)=(Bw nu k:Int)+(m:Int):=by omega
   simp only[hx,e2] at LD
   have HLD:=@Hd _ LD
   have hx64:x<18446744073709551616:=by omega
   have HZ:=Hd hz;have HDR:=Hd hdr;have HX:=Hd hx
   have bl3:Bw nu k+m<=300:=by omega
   have hn4:=g5.2
   clear LD hz hdr hx g1 g2 g3 g4 g5 g6 bl em e2
   generalize hB:Bw nu k=B at *
   have HB:=Hd hB
   clear hB
   go_wp2_with fail
   refine region_tailP 13 (by kernel_rfl) (by kernel_rfl) ?_
   simp only[List.take_succ_cons,List.take_zero,List.drop_succ_cons,List.drop_zero]
   repeat (go_big_quiet_step (first | (go_at_call 59;exact Calls.quiet_of_same (uh HLD _))))
   refine wpQuiet_nil ?_
   rintro _ ⟨nq,rfl⟩
   clear HLD c0 ck
   have HDR2:=Hd ((uh HDR).trans ⟨nq,rfl⟩)
   by_cases hx0:x=0
   ·subst hx0
    go_wp2
    refine⟨⟨m+1,by omega,by go_num,fun j hj=>?_,uh HDR2⟩,by simp[intOf];omega⟩
    by_cases e:j=m
    ·subst e;exact uh HX
    ·exact uh HZ j (by omega)
   ·have hx0':((x:Int) != 0)=true:=by simp;omega
    have TZ:=tz_ok x hx64 hx0 (wr.drewN nq) ((uh HH).dr (uh HDR2)).tab
    obtain⟨cb1,cb2⟩:=ctz_bit x hx64 hx0
    have hfr:fre nu f k (64 * m+Lib.ctz 64 x)=true:=by
     unfold fre
     have e1:(64 * m+Lib.ctz 64 x) / 64=m:=by omega
     have e2:(64 * m+Lib.ctz 64 x) % 64=Lib.ctz 64 x:=by omega
     rw[e1,e2,uh HB,uh HX,Int.toNat_natCast,cb1,decide_eq_true (by omega)];rfl
    have hlt2:=uh HIN _ hfr
    have BK:Calls Tryz.prog 110 #[ptr hb,.int .i64 k] (wr.drewN nq) _:=h_blocks hb k hk _ (by omega) ((uh HH).dr (uh HDR2)).c1
    have HFR:=Hd hfr
    clear hfr cb1 HX HB HZ hx0
    generalize Lib.ctz 64 x=c at *
    have e47:((nu / 2 ^ k:Nat):Int)=nu / 2 ^ k:=by simp
    have hlt3:64 * (m:Int)+c<nu / 2 ^ k:=by rw[<-e47];omega
    clear e47
    go_wp2_with (first | (go_at_call 110;refine BK.mono ?_;rintro e w' ⟨rfl,hh⟩;replace hh:=hh.symm;subst hh) | (go_at_call 111;refine TZ.mono ?_;rintro e w' ⟨rfl,hh⟩;replace hh:=hh.symm;subst hh))
    go_ret2
    exact⟨.inl ⟨64 * m+c,by simp,uh HFR⟩,uh HDR2⟩
  ·have:m=gr nu k:=by omega
   subst this
   have HZ:=Hd hz;have HDR:=Hd hdr
   clear hz hdr
   go_wp2
   go_ret2
   refine⟨.inr ⟨rfl,fun b=>?_⟩,uh HDR⟩
   by_cases hb2:b<64 * gr nu k
   ·exact fre_zero (uh HZ) (by omega)
   ·unfold fre;simp[hb2]
end
end

section
section
variable {nu sz:Nat} {w:World} {hb sb:Nat} {f:Nat->Int}
theorem h_piece (h:HpL nu sz w hb sb) (rd:Rds sz w sb f) (wd:Words64 nu f) (u:Nat) (hu:u<nu) :
  Calls Tryz.prog 134 #[ptr hb,.int .i64 (fi nu+u * 8)] w fun e w'=>((begs nu (ask nu f) u=true/\e = .returned (.tuple #[.int .i64 u,.int .i64 (ask nu f u)]))\/(begs nu (ask nu f) u=false/\e = .panicked (errnoQ 1)))/\Dr w w':=by
 have c1:=h.c1;have c10:=h.c10
 obtain⟨g1,g2,g3,g4,g5,g6⟩:=h.geo.b
 have AL:∀q,Calls Tryz.prog 122 #[ptr hb] (w.drewN q) fun e w'=>e = .returned (.int .i64 (nu * 8))/\w'=w.drewN q:=fun q=>h_all hb nu (by omega) (w.drewN q) c1
 have HAL:=@Hd _ AL
 obtain⟨r0,r1⟩:=wd (aw nu+u / 4) (by omega)
 have e1:(((fi nu:Int)+(u:Int) * 8)<fi nu)=False:=by simp;omega
 have e2:((fi nu:Int)+(nu:Int) * 8<=(fi nu:Int)+(u:Int) * 8)=False:=by simp;omega
 have f8:=fi_8 nu
 have e3:((fi nu:Int) % 8 != 0)=false:=by simp;omega
 have e4:((fi nu:Int)+(u:Int) * 8 - fi nu) / 8=u:=by omega
 have HH:=Hd h;have HRD:=Hd rd;have HR:=Hd (ai r0 r1)
 have hq4:u<4 * qa nu:=by omega
 have hF:=g2.2;have hn4:=g5.2
 clear AL h rd wd r0 r1 g1 g2 g3 g4 g5 g6 f8
 go_enter Tryz.func134,Tryz.ntmps134
 go_wp2_with fail
 refine region_tailP 21 (by kernel_rfl) (by kernel_rfl) ?_
 simp only[List.take_succ_cons,List.take_zero,List.drop_succ_cons,List.drop_zero]
 repeat (go_big_quiet_step (first | (go_at_call 122;exact Calls.quiet_of_same (uh HAL _))))
 refine wpQuiet_nil ?_
 rintro _ ⟨nq,rfl⟩
 clear HAL e1 e2 e3
 have D1:Dr w (w.drewN nq):=⟨nq,rfl⟩
 have BG:=h_begins ((uh HH).dr D1) ((uh HRD).dr D1) u hq4 (uh HR).1 (uh HR).2
 have HBG:=Hd BG
 have c10':=((uh HH).dr D1).c10
 generalize w.drewN nq=w1 at *
 clear BG c1 c10
 go_wp2_with fail
 refine(uh HBG).mono ?_
 clear HBG
 rintro e w2 ⟨rfl,D2⟩
 have D12:=D1.trans D2
 have AK:=h_asked ((uh HH).dr D12) ((uh HRD).dr D12) u hq4 (uh HR).1 (uh HR).2
 have HAK:=Hd AK;have HD:=Hd D12
 clear AK D12 D1 D2 HH HRD HR c10'
 cases hbg:begs nu (ask nu f) u
 ·go_wp2
  exact⟨rfl,.inr ⟨hbg,rfl⟩,uh HD⟩
 ·go_wp2_with fail
  refine(uh HAK).mono ?_
  clear HAK
  rintro e w3 ⟨rfl,D3⟩
  have HD3:=Hd ((uh HD).trans D3)
  clear D3 HD
  go_wp2
  go_ret2
  exact⟨.inl ⟨hbg,rfl⟩,uh HD3⟩
theorem h_size (h:HpL nu sz w hb sb) (rd:Rds sz w sb f) (wd:Words64 nu f) (u:Nat) (hu:u<nu) (hbg:begs nu (ask nu f) u=true) :
  Calls Tryz.prog 113 #[ptr hb,.int .i64 (fi nu+u * 8)] w fun e w'=>e = .returned (.int .i64 (ask nu f u))/\Dr w w':=by
 have HK:=Hd (h_piece h rd wd u hu)
 clear h rd wd
 go_enter Tryz.func113,Tryz.ntmps113
 go_wp2_with fail
 refine(uh HK).mono ?_
 clear HK
 rintro e w1 ⟨⟨_,rfl⟩ | ⟨hb',_⟩,D⟩
 ·have HD:=Hd D
  clear D
  go_wp2
  go_ret
  exact⟨rfl,uh HD⟩
 ·rw[hbg] at hb';cases hb'
end
end
end Go.Proofs.YtbiopjmpdhcjgaaGreatDoor
