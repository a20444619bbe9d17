/- Joined: GHv GHk GHc. -/
import Derived.Test.YtbiopjmpdhcjgaaGreatDoorZ10
namespace Go.Proofs.YtbiopjmpdhcjgaaGreatDoor
open Go.RowKit
set_option maxHeartbeats 4000000

section
theorem ind_split (k c u:Nat):ind (k+1) c u=ind k (2 * c) u+ind k (2 * c+1) u:=by
 unfold ind
 have e:u / 2 ^ (k+1)=u / 2 ^ k / 2:=by rw[Nat.pow_succ,Nat.div_div_eq_div_mul]
 rw[e]
 generalize u / 2 ^ k=x
 split <;> split <;> split <;> omega
def Halved (nu sz m:Nat) (f:Nat->Int) (k:Nat) (w:World) (sb b:Nat) (T:Tay) (A:Ab) (e:Ending) (w':World):Prop:=
 (∃(c:Nat) (g:Nat->Int),e = .returned (.int .i64 c)/\c<nu / 2 ^ k/\To sz w sb b T A w' g (m+(8 - k))/\Bits nu f g/\Inv nu (fre nu g) (ask nu f) (ind k c)/\∀j,j<k->fre nu g j=fre nu f j)\/
 (e = .panicked (errnoQ 60)/\Dr w w'/\∀j,k<=j->j<7->∀c,fre nu f j c=false)
section
variable {nu sz:Nat} {w:World} {hb sb b bh bt:Nat} {T:Tay} {A:Ab} {P:List (Int×Int)}
theorem h_halveC (d:Nat):∀(k:Nat),k+d=7->∀{w:World} {T:Tay} {P:List (Int×Int)},Hp nu sz w hb sb b T A P->Words64 nu (says P A)->P.length+8<=6144->Inv nu (fre nu (says P A)) (ask nu (says P A)) (fun _=>0)->
  w.cell? ⟨bh,0,none⟩=some (ptr hb)->w.cell? ⟨bt,0,none⟩=some (.func (.func 201) #[] #[ptr bh,ptr bt])->¬tfoot sb b T bh->¬tfoot sb b T bt->
  Calls Tryz.prog 201 #[.int .i64 k,ptr bh,ptr bt] w (Halved nu sz P.length (says P A) k w sb b T A):=by
 induction d with
 | zero=>
  intro k hk w T P h wd hm inv c1 c2 n1 n2
  have:k=7:=by omega
  subst this
  unfold Halved
  clear h wd inv
  go_enter Tryz.func201,Tryz.ntmps201
  go_wp2
  exact⟨rfl,.inr ⟨rfl,Dr.refl w,fun j h1 h2=>by omega⟩⟩
 | succ d ih=>
  intro k hk w T P h wd hm inv c1 c2 n1 n2
  have hk7:k<7:=by omega
  have FF:=h_firstFree h.hp h.reads wd k hk7 (inv.inside k hk7)
  have HFF:=Hd FF;have HH:=Hd h;have HWD:=Hd wd;have HI:=Hd inv;have HIH:=Hd @ih
  have HN:=Hd (ai n1 n2)
  clear FF h wd inv ih n1 n2
  unfold Halved
  go_enter Tryz.func201,Tryz.ntmps201
  go_wp2_with fail
  refine(uh HFF).mono ?_
  clear HFF
  rintro e w1 ⟨⟨c,rfl,hc⟩ | ⟨rfl,hz⟩,D⟩
  ·have c64:c<64 * gr nu k:=gr_ge hk7 ((uh HI).inside k hk7 c hc)
   have h1:=(uh HH).still D.still
   have SF:=h_setFree h1 (uh HWD) (by omega) k c c64 false
   have HSF:=Hd SF
   have c1':w1.cell? ⟨bh,0,none⟩=some (ptr hb):=D.still.cell' c1 id
   have HD:=Hd D
   clear SF h1 D
   go_wp2_with fail
   refine(uh HSF).mono ?_
   clear HSF
   rintro e w2 ⟨rfl,g,t,bt',fg⟩
   have HT:=Hd (t.after (uh HD).still);have HB:=Hd bt';have HF:=Hd fg
   clear t bt' fg
   go_wp2
   go_ret
   refine .inl ⟨c,g,rfl,(uh HI).inside k hk7 c hc,(uh HT).le (by omega),uh HB,?_,?_⟩
   ·have:=(uh HI).clear hk7 hc
    rw[uh HF]
    have e:(fun u=>0+ind k c u)=ind k c:=by funext u;omega
    rw[<-e];exact this
   ·intro j hj
    rw[uh HF]
    funext c'
    exact setF_other _ (by omega)
  ·have h1:=(uh HH).still D.still
   have c1':w1.cell? ⟨bh,0,none⟩=some (ptr hb):=D.still.cell' c1 id
   have c2':w1.cell? ⟨bt,0,none⟩=some (.func (.func 201) #[] #[ptr bh,ptr bt]):=D.still.cell' c2 id
   have RC:=uh HIH (k+1) (by omega) h1 (uh HWD) hm (uh HI) c1' c2' (uh HN).1 (uh HN).2
   have ek:((k+1:Nat):Int)=(k:Int)+1:=by omega
   rw[ek] at RC
   have HRC:=Hd RC;have HD:=Hd D;have HZ:=Hd hz
   have HH1:=Hd h1
   clear RC h1 D hz
   go_wp2_with fail
   refine(uh HRC).mono ?_
   clear HRC
   rintro e w2 (⟨c,g,rfl,hc,⟨T2,P2,o,eg,el⟩,bg,ig,sg⟩ | ⟨rfl,D2,hz2⟩)
   ·subst eg
    have h2:=(uh HH1).call o
    have hc2:2 * c+1<nu / 2 ^ k:=by
     rw[Nat.pow_succ,<-Nat.div_div_eq_div_mul] at hc
     omega
    have c64:2 * c+1<64 * gr nu k:=gr_ge hk7 hc2
    have hc5:c<=4000:=by have:=Nat.div_le_self nu (2 ^ (k+1));have:=(uh HH1).hp.geo.hi;omega
    have SF:=h_setFree h2 bg.wd (by omega) k (2 * c+1) c64 true
    have e21:((2 * c+1:Nat):Int)=2 * (c:Int)+1:=by omega
    rw[e21] at SF
    have HSF:=Hd SF
    have c1'':w2.cell? ⟨bh,0,none⟩=some (ptr hb):=o.fr.cell' c1' (uh HN).1
    have HO:=Hd o;have HBG:=Hd bg;have HIG:=Hd ig;have HSG:=Hd sg
    clear SF h2 o bg ig sg
    go_wp2_with fail
    refine(uh HSF).mono ?_
    clear HSF
    rintro e w3 ⟨rfl,g3,t,b3,f3⟩
    have HT:=Hd ((To.trans (uh HO) t).after (uh HD).still);have HB:=Hd ((uh HBG).trans b3);have HF:=Hd f3
    clear t b3 f3
    go_wp2
    go_ret
    refine .inl ⟨2 * c,g3,by simp,by omega,(uh HT).le (by omega),uh HB,?_,?_⟩
    ·rw[uh HF]
     refine(uh HIG).set hk7 hc2 (fun u _=>ind_split k c u) (fun u _ hu=>?_) ?_
     ·unfold ind;rw[if_neg];rw[hu];omega
     ·right
      rw[uh HSG k (by omega)]
      exact uh HZ _
    ·intro j hj
     rw[uh HF,<-uh HSG j (by omega)]
     funext c'
     exact setF_other _ (by omega)
   ·refine⟨rfl,.inr ⟨rfl,(uh HD).trans D2,fun j h1 h2 c'=>?_⟩⟩
    by_cases e:j=k
    ·subst e;exact uh HZ c'
    ·exact hz2 j (by omega) h2 c'
theorem h_halve (h:Hp nu sz w hb sb b T A P) (wd:Words64 nu (says P A)) (hm:P.length+8<=6144) (inv:Inv nu (fre nu (says P A)) (ask nu (says P A)) (fun _=>0)) (k:Nat) (hk:k<7) :
  Calls Tryz.prog 178 #[ptr hb,.int .i64 k] w fun e w'=>(∃(c:Nat) (g:Nat->Int),e = .returned (.int .i64 c)/\c<nu / 2 ^ k/\To sz w sb b T A w' g (P.length+8)/\Bits nu (says P A) g/\Inv nu (fre nu g) (ask nu (says P A)) (ind k c))\/
   (e = .panicked (errnoQ 60)/\Fr (fun _=>False) w w'/\∀j,k<=j->j<7->∀c,fre nu (says P A) j c=false):=by
 obtain⟨W1,hW1⟩:∃W1,w.alloc (.cells #[ptr hb] 24)=W1:=⟨_,rfl⟩
 obtain⟨W,hW⟩:∃W,W1.alloc (.cells #[.func (.func 201) #[] #[ptr w.heap.size,ptr (w.heap.size+1)]] 111)=W:=⟨_,rfl⟩
 have z1:W1.heap.size=w.heap.size+1:=by rw[<-hW1];simp
 have f1:St w W1:=hW1▸(Fr.refl _ w).alloc _
 have f2:St W1 W:=hW▸(Fr.refl _ W1).alloc _
 have fW:St w W:=f1.trans' f2 nE
 have b1:Box W w.heap.size (ptr hb):=(hW1▸Box.new w (ptr hb) 24:Box W1 w.heap.size (ptr hb)).kept f2 id
 have b2:Box W (w.heap.size+1) (.func (.func 201) #[] #[ptr w.heap.size,ptr (w.heap.size+1)]):=by
  have:=Box.new W1 (.func (.func 201) #[] #[ptr w.heap.size,ptr (w.heap.size+1)]) 111
  rw[hW,z1] at this;exact this
 have nt:∀k,w.heap.size<=k->¬tfoot sb b T k:=fun k hk ht=>by have:=h.st.lt k ht;omega
 have RC:=h_halveC (bh:=w.heap.size) (bt:=w.heap.size+1) (7 - k) k (by omega) (h.still fW) wd hm inv b1.c b2.c (nt _ (by omega)) (nt _ (by omega))
 have HRC:=Hd RC;have HFW:=Hd fW
 rw[<-hW1] at hW
 have HW:=Hd hW
 clear RC h wd inv b1 b2 nt fW f1 f2 z1 hW hW1
 go_enter Tryz.func178,Tryz.ntmps178
 go_wp2_with fail
 rw[uh HW]
 refine(uh HRC).mono ?_
 clear HRC
 rintro e w2 (⟨c,g,rfl,hc,t,bg,ig,sg⟩ | ⟨rfl,D2,hz2⟩)
 ·have HX:=Hd (ai hc (ai ((t.after (uh HFW)).le (by omega:_<=P.length+8)) (ai bg ig)))
  clear hc t bg ig sg
  go_wp2
  go_ret
  exact .inl ⟨c,g,rfl,uh HX⟩
 ·exact⟨rfl,.inr ⟨rfl,(uh HFW).trans' D2.still nE,hz2⟩⟩
theorem xor_one (c:Nat) (hc:c<=65536):bits .xor .i64 (c:Int) 1=(bud c:Int):=by
 have hx:c ^^^ 1=bud c:=by
  unfold bud
  have h1:(c ^^^ 1) / 2=c / 2:=by rw[Nat.xor_div_two];simp
  have h2:(c ^^^ 1) % 2=(c % 2) ^^^ 1:=Nat.xor_mod_two_pow (n:=1)
  split
  ·rename_i e
   rw[e] at h2
   have h3:(0:Nat) ^^^ 1=1:=by decide
   omega
  ·have e:c % 2=1:=by omega
   rw[e] at h2
   have h3:(1:Nat) ^^^ 1=0:=by decide
   omega
 have h1:(BitVec.ofInt 64 (c:Int)).toNat=c:=by
  rw[BitVec.ofInt_natCast,BitVec.toNat_ofNat];exact Nat.mod_eq_of_lt (by omega)
 have h2:(BitVec.ofInt 64 (1:Int)).toNat=1:=by decide
 show IntKind.i64.wrap ((BitVec.ofInt 64 (c:Int) ^^^ BitVec.ofInt 64 (1:Int)).toNat:Int)=_
 rw[BitVec.toNat_xor,h1,h2,hx]
 have:bud c<=65537:=by unfold bud;split <;> omega
 simp[IntKind.wrap,IntKind.bits,IntKind.signed]
 omega
theorem bud_gr {k c:Nat} (hk:k<7) (hc:c<nu / 2 ^ k):bud c<64 * gr nu k:=by
 unfold bud
 rw[gr_div hk]
 generalize nu / 2 ^ k=x at *
 split <;> omega
theorem h_joinC (d:Nat):∀(k:Nat),k+d=6->∀{w:World} {T:Tay} {P:List (Int×Int)} {K:Nat->Nat} (c:Nat),Hp nu sz w hb sb b T A P->Words64 nu (says P A)->P.length+8<=6144+k->Inv nu (fre nu (says P A)) K (ind k c)->c<nu / 2 ^ k->
  w.cell? ⟨bh,0,none⟩=some (ptr hb)->w.cell? ⟨bt,0,none⟩=some (.func (.func 172) #[] #[ptr bh,ptr bt])->¬tfoot sb b T bh->¬tfoot sb b T bt->
  Calls Tryz.prog 172 #[.int .i64 k,.int .i64 c,ptr bh,ptr bt] w fun e w'=>e = .returned (.tuple #[])/\∃g,To sz w sb b T A w' g (P.length+(7 - k))/\Bits nu (says P A) g/\Inv nu (fre nu g) K (fun _=>0):=by
 induction d with
 | zero=>
  intro k hk w T P K c h wd hm inv hc c1 c2 n1 n2
  have:k=6:=by omega
  subst this
  have SF:=h_setFree h wd (by omega) 6 c (gr_ge (by omega) hc) true
  have HSF:=Hd SF;have HI:=Hd inv
  clear SF h wd inv
  go_enter Tryz.func172,Tryz.ntmps172
  go_wp2_with fail
  refine(uh HSF).mono ?_
  clear HSF
  rintro e w1 ⟨rfl,g,t,bg,fg⟩
  have HX:=Hd (ai t (ai bg fg))
  clear t bg fg
  go_wp2
  refine bodyPost_ret (results_none rfl _ _ _) rfl ?_
  obtain⟨t,bg,fg⟩:=uh HX
  refine⟨rfl,g,t,bg,?_⟩
  rw[fg]
  exact(uh HI).set (by omega) hc (fun u _=>by simp) (fun _ _ _=>rfl) (.inl rfl)
 | succ d ih=>
  intro k hk w T P K c h wd hm inv hc c1 c2 n1 n2
  have hk7:k<7:=by omega
  have hn4:=h.hp.geo.hi
  have hc5:c<=4000:=by have:=Nat.div_le_self nu (2 ^ k);omega
  have X1:=xor_one c (by omega)
  have hk6:((k:Int) == 6)=false:=by simp;omega
  have hbd:=bud_gr hk7 hc
  have IF:=h_isFree h.hp h.reads wd k (bud c) hk7 hbd
  have bu5:bud c<=4001:=by unfold bud;split <;> omega
  have esub:(decide (bud c<nu / 2 ^ k) && fre nu (says P A) k (bud c))=fre nu (says P A) k (bud c):=by
   cases e:fre nu (says P A) k (bud c)
   ·simp
   ·rw[decide_eq_true (inv.inside k hk7 _ e)];rfl
  rw[esub] at IF
  have HIF:=Hd IF;have HI:=Hd inv;have HH:=Hd h;have HWD:=Hd wd;have HIH:=Hd @ih;have HN:=Hd (ai n1 n2)
  clear IF inv h wd ih n1 n2 esub
  go_enter Tryz.func172,Tryz.ntmps172
  go_wp2_with fail
  refine(uh HIF).mono ?_
  clear HIF
  rintro e w1 ⟨rfl,D⟩
  have D:Dr w w1:=D
  have h1:=(uh HH).still D.still
  have c1':w1.cell? ⟨bh,0,none⟩=some (ptr hb):=D.still.cell' c1 id
  have c2':w1.cell? ⟨bt,0,none⟩=some (.func (.func 172) #[] #[ptr bh,ptr bt]):=D.still.cell' c2 id
  have HD:=Hd D.still
  cases hfb:fre nu (says P A) k (bud c)
  ·have SF:=h_setFree h1 (uh HWD) (by omega) k c (gr_ge hk7 hc) true
   have HSF:=Hd SF
   clear SF h1 D
   go_wp2_with fail
   refine(uh HSF).mono ?_
   clear HSF
   rintro e w2 ⟨rfl,g,t,bg,fg⟩
   have HX:=Hd (ai ((t.after (uh HD)).le (by omega:_<=P.length+(7 - k))) (ai bg fg))
   clear t bg fg
   go_wp2
   refine bodyPost_ret (results_none rfl _ _ _) rfl ?_
   obtain⟨t,bg,fg⟩:=uh HX
   refine⟨rfl,g,t,bg,?_⟩
   rw[fg]
   exact(uh HI).set hk7 hc (fun u _=>by simp) (fun _ _ _=>rfl) (.inr hfb)
  ·have SF:=h_setFree h1 (uh HWD) (by omega) k (bud c) hbd false
   have HSF:=Hd SF;have HH1:=Hd h1
   clear SF h1 D
   go_wp2_with fail
   refine(uh HSF).mono ?_
   clear HSF
   rintro e w2 ⟨rfl,g,⟨T2,P2,o,eg,el⟩,bg,fg⟩
   subst eg
   have h2:=(uh HH1).call o
   have hbu:=(uh HI).inside k hk7 _ hfb
   have hc2:c / 2<nu / 2 ^ (k+1):=by
    rw[Nat.pow_succ,<-Nat.div_div_eq_div_mul]
    have:=bud_half c
    unfold bud at hbu
    split at hbu <;> omega
   have inv2:Inv nu (fre nu (says P2 A)) K (ind (k+1) (c / 2)):=by
    have:=(uh HI).clear hk7 hfb
    rw[<-fg] at this
    have e:(fun u=>ind k c u+ind k (bud c) u)=ind (k+1) (c / 2):=by
     funext u
     rw[ind_split]
     unfold bud
     split
     ·rw[show 2 * (c / 2)=c by omega]
     ·rw[show 2 * (c / 2)=c - 1 by omega,show c - 1+1=c by omega,Nat.add_comm]
    rw[e] at this;exact this
   have RC:=uh HIH (k+1) (by omega) (c / 2) h2 bg.wd (by omega) inv2 hc2 (o.fr.cell' c1' (uh HN).1) (o.fr.cell' c2' (uh HN).2) (by
    have hlt:bh<w1.heap.size:=World.block_lt_of_cell? _ _ c1'
    exact o.other hlt (uh HN).1) (by
    have hlt:bt<w1.heap.size:=World.block_lt_of_cell? _ _ c2'
    exact o.other hlt (uh HN).2)
   have ek:((k+1:Nat):Int)=(k:Int)+1:=by omega
   have ec:((c / 2:Nat):Int)=(c:Int) / 2:=by omega
   rw[ek,ec] at RC
   have c2'':w2.cell? ⟨bt,0,none⟩=some (.func (.func 172) #[] #[ptr bh,ptr bt]):=o.fr.cell' c2' (uh HN).2
   have HRC:=Hd RC;have HO:=Hd o;have HBG:=Hd bg
   clear RC h2 o bg inv2 fg hc2 hbu
   go_wp2_with fail
   refine(uh HRC).mono ?_
   clear HRC
   rintro e w3 ⟨rfl,g3,t,b3,i3⟩
   have HX:=Hd (ai (((To.trans (uh HO) t).after (uh HD)).le (by omega:_<=P.length+(7 - k))) (ai ((uh HBG).trans b3) i3))
   clear t b3 i3
   go_wp2
   go_end0
   exact⟨rfl,g3,uh HX⟩
theorem h_join {K:Nat->Nat} (h:Hp nu sz w hb sb b T A P) (wd:Words64 nu (says P A)) (hm:P.length+8<=6144) (k c:Nat) (hk:k<7) (inv:Inv nu (fre nu (says P A)) K (ind k c)) (hc:c<nu / 2 ^ k) :
  Calls Tryz.prog 136 #[ptr hb,.int .i64 k,.int .i64 c] w fun e w'=>e = .returned (.tuple #[])/\∃g,To sz w sb b T A w' g (P.length+7)/\Bits nu (says P A) g/\Inv nu (fre nu g) K (fun _=>0):=by
 obtain⟨W1,hW1⟩:∃W1,w.alloc (.cells #[ptr hb] 24)=W1:=⟨_,rfl⟩
 obtain⟨W,hW⟩:∃W,W1.alloc (.cells #[.func (.func 172) #[] #[ptr w.heap.size,ptr (w.heap.size+1)]] 182)=W:=⟨_,rfl⟩
 have z1:W1.heap.size=w.heap.size+1:=by rw[<-hW1];simp
 have f1:St w W1:=hW1▸(Fr.refl _ w).alloc _
 have f2:St W1 W:=hW▸(Fr.refl _ W1).alloc _
 have fW:St w W:=f1.trans' f2 nE
 have b1:Box W w.heap.size (ptr hb):=(hW1▸Box.new w (ptr hb) 24:Box W1 w.heap.size (ptr hb)).kept f2 id
 have b2:Box W (w.heap.size+1) (.func (.func 172) #[] #[ptr w.heap.size,ptr (w.heap.size+1)]):=by
  have:=Box.new W1 (.func (.func 172) #[] #[ptr w.heap.size,ptr (w.heap.size+1)]) 182
  rw[hW,z1] at this;exact this
 have nt:∀k,w.heap.size<=k->¬tfoot sb b T k:=fun k hk ht=>by have:=h.st.lt k ht;omega
 have RC:=h_joinC (bh:=w.heap.size) (bt:=w.heap.size+1) (6 - k) k (by omega) c (h.still fW) wd (by omega) inv hc b1.c b2.c (nt _ (by omega)) (nt _ (by omega))
 have HRC:=Hd RC;have HFW:=Hd fW
 rw[<-hW1] at hW
 have HW:=Hd hW
 clear RC h wd inv b1 b2 nt fW f1 f2 z1 hW hW1
 go_enter Tryz.func136,Tryz.ntmps136
 go_wp2_with fail
 rw[uh HW]
 refine(uh HRC).mono ?_
 clear HRC
 rintro e w2 ⟨rfl,g,t,bg,ig⟩
 have HX:=Hd (ai ((t.after (uh HFW)).le (by omega:_<=P.length+7)) (ai bg ig))
 clear t bg ig
 go_wp2
 go_end0
 exact⟨rfl,g,uh HX⟩
end
end

section
structure HpS (nu:Nat) (f:Nat->Int):Prop where
 wd:Words64 nu f
 mrk:f 0=7522525887014645809
 inv:Inv nu (fre nu f) (ask nu f) (fun _=>0)
 fr:f 1=((8 * (nu - inP nu (ask nu f)):Nat):Int)
structure Took (nu:Nat) (f:Nat->Int) (x u:Nat) (g:Nat->Int):Prop where
 st:HpS nu g
 blk:∃c,u=c * 2 ^ lv x/\c<nu / 2 ^ lv x
 was:ask nu f u=0
 ak:ask nu g=setK (ask nu f) u x
 root:∀i,2<=i->i<18->g i=f i
 zero:∀i,fi nu+8 * u<=i->i<fi nu+8 * u+8 * 2 ^ lv x->g i=0
 keep:∀i,fi nu<=i->(i<fi nu+8 * u\/fi nu+8 * u+8 * 2 ^ lv x<=i)->g i=f i
theorem ask_own {nu:Nat} {f g:Nat->Int} (h:∀i,i<fi nu->g i=f i):ask nu g=ask nu f:=by
 funext u
 have fg:=fi_ge nu
 by_cases hu:u<4 * qa nu
 ·rw[ask_of hu,ask_of hu,h _ (by omega)]
 ·rw[ask_no hu,ask_no hu]
theorem fre_own {nu:Nat} {f g:Nat->Int} (h:∀i,i<fi nu->g i=f i):fre nu g=fre nu f:=by
 funext k b
 unfold fre
 by_cases hb:b<64 * gr nu k
 ·have:=Bw_lt hb
  have fg:=fi_ge nu
  rw[h _ (by omega)]
 ·simp[hb]
theorem HpS.own {nu:Nat} {f g:Nat->Int} (s:HpS nu f) (h:∀i,i<fi nu->g i=f i):HpS nu g:=
 have f18:18<=fi nu:=by have:=fi_ge nu;have:=aw_ge nu;omega
 ⟨fun i hi=>by rw[h i hi];exact s.wd i hi,by rw[h 0 (by omega)];exact s.mrk,by rw[ask_own h,fre_own h];exact s.inv,by rw[ask_own h,h 1 (by omega)];exact s.fr⟩
theorem took_of {nu:Nat} (hn4:nu<=4000) {f g1 g2 g4:Nat->Int} {x c:Nat} (s:HpS nu f) (h1:1<=x) (h5:x<=512) (hc:c<nu / 2 ^ lv x) (b1:Bits nu f g1) (i1:Inv nu (fre nu g1) (ask nu f) (ind (lv x) c))
  (w2:Words64 nu g2) (f2:fre nu g2=fre nu g1) (a2:ask nu g2=setK (ask nu g1) (c * 2 ^ lv x) x) (o2:∀i,(i<aw nu\/aw nu+qa nu<=i)->g2 i=g1 i)
  (e4:∀i,i<fi nu->g4 i=upd g2 1 (f 1 - (8 * 2 ^ lv x:Nat)) i) (z4:∀i,fi nu+8 * (c * 2 ^ lv x)<=i->i<fi nu+8 * (c * 2 ^ lv x)+8 * 2 ^ lv x->g4 i=0)
  (k4:∀i,fi nu<=i->(i<fi nu+8 * (c * 2 ^ lv x)\/fi nu+8 * (c * 2 ^ lv x)+8 * 2 ^ lv x<=i)->g4 i=g2 i):Took nu f x (c * 2 ^ lv x) g4:=by
 have fg:=fi_ge nu;have ag:=aw_ge nu
 have hin:=block_in hc
 have K0:ask nu f (c * 2 ^ lv x)=0:=i1.unasked hin (by unfold ind;rw[if_pos (block_self _ _)])
 have i2:Inv nu (fre nu g2) (ask nu g2) (fun _=>0):=by
  rw[f2,a2,b1.ak]
  exact i1.lay hc rfl (by omega) h5 (fun u _=>by simp) (fun _ _ _=>rfl)
 have p2:=inP_lay hc rfl (by omega:x≠0) K0
 have r2:=i2.room
 rw[a2,b1.ak,p2] at r2
 have r1:=s.fr
 have own:∀i,i<fi nu->i≠1->g4 i=g2 i:=fun i hi hn=>by rw[e4 i hi,upd_other _ _ hn]
 have ak4:ask nu g4=ask nu g2:=by rw[ask_own e4];exact ask_upd _ (.inl (by omega))
 have fr4:fre nu g4=fre nu g2:=by rw[fre_own e4];exact fre_upd _ (.inl (by omega))
 refine⟨⟨fun i hi=>?_,?_,by rw[ak4,fr4];exact i2,?_⟩,⟨c,rfl,hc⟩,K0,by rw[ak4,a2,b1.ak],fun i h2 h18=>?_,z4,fun i hi hn=>by rw[k4 i hi hn,o2 i (.inr (by omega)),b1.out i (.inr (by omega))]⟩
 ·by_cases e:i=1
  ·subst e;rw[e4 1 hi,upd_same,r1];omega
  ·rw[own i hi e];exact w2 i hi
 ·rw[own 0 (by omega) (by omega),o2 0 (.inl (by omega)),b1.out 0 (.inl (by omega))];exact s.mrk
 ·rw[e4 1 (by omega),upd_same,r1,ak4,a2,b1.ak,p2];omega
 ·rw[own i (by omega) (by omega),o2 i (.inl (by omega)),b1.out i (.inl (by omega))]
def Zd (nu sz:Nat) (w3:World) (sb b:Nat) (T3:Tay) (A:Ab) (P3:List (Int×Int)) (u m:Nat) (wr:World):Prop:=∃T' P',Onx w3 sb b T3 wr T' sz A P' false/\P'.length<=P3.length+m/\(∀j,(j<fi nu+8 * u\/fi nu+8 * u+m<=j)->says P' A j=says P3 A j)/\∀j,fi nu+8 * u<=j->j<fi nu+8 * u+m->says P' A j=0
section
variable {nu sz:Nat} {w:World} {hb sb b:Nat} {T:Tay} {A:Ab} {P:List (Int×Int)}
set_option maxRecDepth 20000 in
theorem h_takeP (h:Hp nu sz w hb sb b T A P) (s:HpS nu (says P A)) (x:Nat) (h1:1<=x) (h5:x<=512) (hm:P.length+10+8 * 2 ^ lv x<=6144) :
  Calls Tryz.prog 140 #[ptr hb,.int .i64 x] w fun e w'=>(∃(u:Nat) (g:Nat->Int),e = .returned (.int .i64 (fi nu+u * 8))/\To sz w sb b T A w' g (P.length+10+8 * 2 ^ lv x)/\Took nu (says P A) x u g)\/
   (e = .panicked (errnoQ 60)/\St w w'/\∀j,lv x<=j->j<7->∀c,fre nu (says P A) j c=false):=by
 have hl:=lv_le x
 have LV:=h_level x h1 h5 w
 obtain⟨g1,g2,g3,g4,g5,g6⟩:=h.hp.geo.b
 have hp0:=two_pos (lv x)
 have HA:=h_halve h s.wd (by omega) s.inv (lv x) (by omega)
 have hp6:2 ^ lv x<=64:=Nat.pow_le_pow_right (n:=2) (by omega) hl
 obtain⟨y,hy⟩:∃y,2 ^ lv x=y:=⟨_,rfl⟩
 have hye:((2:Int) ^ lv x)=y:=by rw[<-hy];simp
 have HHA:=Hd HA;have HH:=Hd h;have HS:=Hd s
 clear HA h s
 go_enter Tryz.func140,Tryz.ntmps140
 go_wp2_with (first | (go_at_call 107;refine LV.mono ?_;rintro e w' ⟨rfl,hh⟩;replace hh:=hh.symm;subst hh) | fail)
 refine(uh HHA).mono ?_
 clear HHA
 rintro e w1 (⟨c,g1,rfl,hc,⟨T1,P1,o1,eg,el1⟩,bg,ig⟩ | ⟨rfl,D2,hz2⟩)
 ·subst eg
  have h1':=(uh HH).call o1
  have hin:=block_lt hc
  have SA:=h_setAsked h1' bg.wd (by omega) (c * 2 ^ lv x) x (by omega) h5
  rw[hy] at SA hin hp6 hp0 hm
  have e1:((c * y:Nat):Int)=(c:Int) * y:=by simp
  rw[e1] at SA
  have cy:(c:Int) * y<nu:=by rw[<-e1];omega
  have cy0:0<=(c:Int) * y:=by rw[<-e1];omega
  have HSA:=Hd SA;have HO1:=Hd o1;have HX1:=Hd (ai hc (ai bg ig));have HH1:=Hd h1'
  clear SA o1 hc bg ig h1'
  go_wp2_with fail
  refine(uh HSA).mono ?_
  clear HSA
  rintro e w2 ⟨rfl,g2',⟨T2,P2,o2,eg2,el2⟩,x2⟩
  obtain⟨u,hu⟩:∃u,c * y=u:=⟨_,rfl⟩
  have e1u:(c:Int) * y=u:=by rw[<-hu];simp
  simp only[e1u]
  have hu4:u+y<=nu:=by omega
  have h2:=(uh HH1).call o2
  have c0:=h2.hp.c0;have c10:=h2.hp.c10
  have LD:∀q,Calls Tryz.prog 59 #[ptr sb,.int .i64 1] (w2.drewN q) _:=fun q=>h2.reads q 1 (by omega)
  obtain⟨z,hz⟩:∃z:Nat,says P2 A 1=z/\8 * y<=z/\z<=8 * nu:=by
   obtain⟨hc,bg,ig⟩:=uh HX1
   refine⟨8 * (nu - inP nu (ask nu (says P A))),?_⟩
   have s:=uh HS
   subst eg2
   rw[x2.2.2.2 1 (.inl (by omega)),bg.out 1 (.inl (by omega)),s.fr]
   have K0:ask nu (says P A) (c * 2 ^ lv x)=0:=ig.unasked (block_in hc) (by unfold ind;rw[if_pos (block_self _ _)])
   have p2:=inP_lay hc rfl (by omega:x≠0) K0
   have r2:=(ig.lay (hole':=fun _=>0) hc rfl (by omega) h5 (fun u _=>by simp) (fun _ _ _=>rfl)).room
   rw[p2,hy] at r2
   exact⟨rfl,by omega,by omega⟩
  obtain⟨hz,hz8,hz4⟩:=hz
  rw[hz] at LD
  have PU:∀q,Calls Tryz.prog 123 #[ptr sb,.int .i64 1,u64 ((z:Int) - 8 * y)] (w2.drewN q) _:=fun q=>(h2.still ((Fr.refl _ w2).drewN q)).put (by omega) 1 (by omega) ((z:Int) - 8 * y)
  have hw8:IntKind.u64.wrap (8 * (y:Int))=8 * y:=by rw[IntKind.wrap_u64];omega
  have hw9:IntKind.u64.wrap ((z:Int) - 8 * y)=(z:Int) - 8 * y:=by rw[IntKind.wrap_u64];omega
  have HLD:=@Hd _ LD;have HPU:=@Hd _ PU
  have HH2:=Hd h2;have HO2:=Hd o2;have HX2:=Hd x2
  clear LD PU h2 o2 x2
  go_wp2_with fail
  refine region_tailP 12 (by kernel_rfl) (by kernel_rfl) ?_
  simp only[List.take_succ_cons,List.take_zero,List.drop_succ_cons,List.drop_zero]
  repeat (go_big_quiet_step (first | (go_at_call 59;exact Calls.quiet_of_same (uh HLD _))))
  refine wpQuiet_nil ?_
  rintro _ ⟨nq,rfl⟩
  clear HLD
  go_wp2_with fail
  refine(uh HPU nq).mono ?_
  clear HPU
  rintro e w3 ⟨rfl,T3,P3,o3,eg3,el3⟩
  have o3':=o3.after ((Fr.refl (fun _=>False) w2).drewN nq)
  have h3:=(uh HH2).call o3'
  have PL:=h_place hb u (by omega) w3 (by omega) h3.hp.c10
  have HO3:=Hd o3';have HH3:=Hd h3;have HEG3:=Hd eg3
  clear o3 o3' h3 eg3 c0 c10 hw8 hw9
  go_wp2_with (first | (go_at_call 61;refine PL.mono ?_;rintro e w' ⟨rfl,hh⟩;replace hh:=hh.symm;subst hh) | fail)
  clear PL
  have hw8:wrap64 (8 * (y:Int))=8 * y:=small_w64 (by omega)
  go_loopw [8] (fun i wr=>∃m:Nat,m<=8 * y/\i = .int .i64 (fi nu+u * 8+m)/\Zd nu sz w3 sb b T3 A P3 u m wr) (fun i wr=>100000 - (intOf i).toNat)
  case atStart=>exact⟨0,by omega,by simp,T3,P3,Onx.start (uh HH3).st,by omega,fun _ _=>rfl,fun j h1 h2=>by omega⟩
  case round=>
   obtain⟨m,hm',rfl,T',P',o,el,ow,zr⟩:=hrel
   have h4:=(uh HH3).call o
   have c0:=h4.hp.c0
   by_cases hlt:m<8 * y
   ·have LD:=h4.load (fi nu+8 * u+m) (by omega)
    have PU:=h4.put (by omega) (fi nu+8 * u+m) (by omega) 0
    have e2:((fi nu+8 * u+m:Nat):Int)=(fi nu:Int)+(u:Int) * 8+m:=by omega
    rw[e2] at LD PU
    have HLD:=Hd LD;have HPU:=Hd PU
    have HZ:=Hd (ai o (ai ow zr))
    clear LD PU o ow zr h4
    by_cases hz0:says P' A (fi nu+8 * u+m)=0
    ·rw[hz0] at HLD
     have HZ0:=Hd hz0
     clear hz0 HPU
     go_wp2_with (go_at_call 59;refine(uh HLD).mono ?_;rintro e w' ⟨rfl,hh⟩;replace hh:=hh.symm;subst hh)
     obtain⟨o,ow,zr⟩:=uh HZ
     refine⟨⟨m+1,by omega,by go_num,T',P',o,by omega,fun j hj=>ow j (by omega),fun j h1 h2=>?_⟩,by simp[intOf];omega⟩
     by_cases e:j=fi nu+8 * u+m
     ·rw[e];exact uh HZ0
     ·exact zr j h1 (by omega)
    ·have hz1:(says P' A (fi nu+8 * u+m) != 0)=true:=by simp;exact hz0
     obtain⟨v,hv⟩:∃v,says P' A (fi nu+8 * u+m)=v:=⟨_,rfl⟩
     rw[hv] at hz1 HLD
     clear hz0 hv
     go_wp2_with (first | (go_at_call 59;refine(uh HLD).mono ?_;rintro e w' ⟨rfl,hh⟩;replace hh:=hh.symm;subst hh) | fail)
     refine(uh HPU).mono ?_
     clear HPU HLD
     rintro e w5 ⟨rfl,T5,P5,o5,eg5,el5⟩
     have HO5:=Hd (ai o5 eg5)
     clear o5 eg5
     go_wp2
     obtain⟨o,ow,zr⟩:=uh HZ
     obtain⟨o5,eg5⟩:=uh HO5
     refine⟨⟨m+1,by omega,by go_num,T5,P5,o.trans o5,by omega,fun j hj=>?_,fun j h1 h2=>?_⟩,by simp[intOf];omega⟩
     ·rw[eg5,upd_other _ _ (by omega)];exact ow j (by omega)
     ·rw[eg5]
      by_cases e:j=fi nu+8 * u+m
      ·rw[e,upd_same]
      ·rw[upd_other _ _ e];exact zr j h1 (by omega)
   ·have:m=8 * y:=by omega
    subst this
    have HZ:=Hd (ai o (ai ow zr))
    clear o ow zr h4
    go_wp2
    go_ret
    obtain⟨o,ow,zr⟩:=uh HZ
    obtain⟨hc,bg,ig⟩:=uh HX1
    have s:=uh HS
    have x2:=uh HX2
    subst eg2
    refine .inl ⟨u,says P' A,rfl,⟨T',P',(((uh HO1).trans (uh HO2)).trans (uh HO3)).trans o,rfl,by rw[hy];omega⟩,?_⟩
    have huu:u=c * 2 ^ lv x:=by rw[hy];exact hu.symm
    rw[huu]
    rw[<-hy] at x2
    refine took_of (by omega) s h1 h5 hc bg ig x2.1 x2.2.1 x2.2.2.1 x2.2.2.2 (fun i hi=>?_) (fun i h1 h2=>zr i (by rw[huu];exact h1) (by rw[huu,<-hy];exact h2)) (fun i hi hn=>by
     rw[ow i (by rw[huu,<-hy];exact hn),uh HEG3,upd_other _ _ (by have:=fi_ge nu;have:=aw_ge nu;omega)])
    rw[ow i (.inl (by omega)),uh HEG3]
    congr 1
    rw[hy,<-bg.out 1 (.inl (by omega)),<-x2.2.2.2 1 (.inl (by omega)),hz]
    simp
 ·exact⟨rfl,.inr ⟨rfl,D2,hz2⟩⟩
structure Gave (nu:Nat) (f:Nat->Int) (u:Nat) (g:Nat->Int):Prop where
 st:HpS nu g
 ak:ask nu g=setK (ask nu f) u 0
 root:∀i,2<=i->i<18->g i=f i
 keep:∀i,fi nu<=i->g i=f i
theorem begs_of {nu:Nat} {F:Nat->Nat->Bool} {K:Nat->Nat} (i:Inv nu F K (fun _=>0)) {u:Nat} (h:K u≠0):begs nu K u=true:=by
 unfold begs
 obtain⟨_,a2,a3,a4⟩:=i.asks u h
 simp[h,a2,a3,a4]
theorem gave_of {nu:Nat} {f g1 g2 g3:Nat->Int} {u x k:Nat} (s:HpS nu f) (hx:ask nu f u=x) (h0:x≠0) (hk:lv x=k)
  (_w1:Words64 nu g1) (_f1:fre nu g1=fre nu f) (a1:ask nu g1=setK (ask nu f) u 0) (o1:∀i,(i<aw nu\/aw nu+qa nu<=i)->g1 i=f i)
  (e2:g2=upd g1 1 (f 1+(8 * 2 ^ k:Nat))) (b3:Bits nu g2 g3) (i3:Inv nu (fre nu g3) (setK (ask nu f) u 0) (fun _=>0)):Gave nu f u g3:=by
 have fg:=fi_ge nu;have ag:=aw_ge nu
 have hne:ask nu f u≠0:=by rw[hx];exact h0
 have p:=inP_lift s.inv hne
 rw[hx,hk] at p
 have r:=s.inv.room
 have r1:=s.fr
 have a2:ask nu g2=ask nu g1:=by rw[e2];exact ask_upd _ (.inl (by omega))
 have a3:ask nu g3=setK (ask nu f) u 0:=by rw[b3.ak,a2,a1]
 have hj:∀i,i<18->i≠1->g3 i=f i:=fun i hi hn=>by rw[b3.out i (.inl hi),e2,upd_other _ _ hn];exact o1 i (.inl (by omega))
 refine⟨⟨b3.wd,by rw[hj 0 (by omega) (by omega)];exact s.mrk,by rw[a3];exact i3,?_⟩,a3,fun i h2 h18=>hj i h18 (by omega),fun i hi=>by rw[b3.out i (.inr (by omega)),e2,upd_other _ _ (by omega)];exact o1 i (.inr (by omega))⟩
 rw[b3.out 1 (.inl (by omega)),e2,upd_same,r1,a3]
 omega
set_option maxRecDepth 20000 in
theorem h_give (h:Hp nu sz w hb sb b T A P) (s:HpS nu (says P A)) (hm:P.length+10<=6144) (u:Nat) (hu:ask nu (says P A) u≠0) :
  Calls Tryz.prog 89 #[ptr hb,.int .i64 (fi nu+u * 8)] w fun e w'=>e = .returned (.tuple #[])/\∃g,To sz w sb b T A w' g (P.length+9)/\Gave nu (says P A) u g:=by
 obtain⟨g1,g2,g3,g4,g5,g6⟩:=h.hp.geo.b
 obtain⟨a1,a2,a3,a4⟩:=s.inv.asks u hu
 have PC:=h_piece h.hp h.reads s.wd u a1
 have hbg:=begs_of s.inv hu
 obtain⟨lf1,lf2,lf3⟩:=s.inv.lift hu
 obtain⟨x,hx⟩:∃x,ask nu (says P A) u=x:=⟨_,rfl⟩
 rw[hx] at PC lf1 lf2 lf3 a2 hu
 have hl:=lv_le x
 have hp6:2 ^ lv x<=64:=Nat.pow_le_pow_right (n:=2) (by omega) hl
 obtain⟨y,hy⟩:∃y,2 ^ lv x=y:=⟨_,rfl⟩
 have hye:((2:Int) ^ lv x)=y:=by rw[<-hy];simp
 rw[hy] at hp6
 have HPC:=Hd PC;have HH:=Hd h;have HS:=Hd s;have HL:=Hd (ai lf1 (ai lf2 lf3));have HX:=Hd hx;have HBG:=Hd hbg
 have hr1:=s.fr
 have HR1:=Hd hr1
 clear PC h s lf1 lf2 lf3 hx hbg a3 a4 hr1
 go_enter Tryz.func89,Tryz.ntmps89
 go_wp2_with fail
 refine(uh HPC).mono ?_
 clear HPC
 rintro e w1 ⟨⟨_,rfl⟩ | ⟨hb',_⟩,D⟩
 ·have h1:=(uh HH).still D.still
  have LV:=h_level x (by omega) a2 w1
  have SA:Calls Tryz.prog 135 #[ptr hb,.int .i64 u,.int .i64 0] w1 _:=h_setAsked h1 (uh HS).wd (by omega) u 0 a1 (by omega)
  have HSA:=Hd SA;have HD:=Hd D.still;have HH1:=Hd h1
  clear SA D h1
  go_wp2_with (first | (go_at_call 107;refine LV.mono ?_;rintro e w' ⟨rfl,hh⟩;replace hh:=hh.symm;subst hh) | fail)
  refine(uh HSA).mono ?_
  clear HSA LV
  rintro e w2 ⟨rfl,g2',⟨T2,P2,o2,eg2,el2⟩,x2⟩
  subst eg2
  have h2:=(uh HH1).call o2
  have c0:=h2.hp.c0
  have LD:∀q,Calls Tryz.prog 59 #[ptr sb,.int .i64 1] (w2.drewN q) _:=fun q=>h2.reads q 1 (by omega)
  obtain⟨z,hz,hz4⟩:∃z:Nat,says P2 A 1=z/\z<=8 * nu:=by
   refine⟨8 * (nu - inP nu (ask nu (says P A))),?_,by omega⟩
   rw[x2.2.2.2 1 (.inl (by omega))];exact uh HR1
  rw[hz] at LD
  have PU:∀q,Calls Tryz.prog 123 #[ptr sb,.int .i64 1,u64 ((z:Int)+8 * y)] (w2.drewN q) _:=fun q=>(h2.still ((Fr.refl _ w2).drewN q)).put (by omega) 1 (by omega) ((z:Int)+8 * y)
  have hw8:IntKind.u64.wrap (8 * (y:Int))=8 * y:=by rw[IntKind.wrap_u64];omega
  have hw9:IntKind.u64.wrap ((z:Int)+8 * y)=(z:Int)+8 * y:=by rw[IntKind.wrap_u64];omega
  have HLD:=@Hd _ LD;have HPU:=@Hd _ PU
  have HH2:=Hd h2;have HO2:=Hd o2;have HX2:=Hd x2;have HZ:=Hd hz
  clear LD PU h2 o2 x2 hz
  go_wp2_with fail
  refine region_tailP 12 (by kernel_rfl) (by kernel_rfl) ?_
  simp only[List.take_succ_cons,List.take_zero,List.drop_succ_cons,List.drop_zero]
  repeat (go_big_quiet_step (first | (go_at_call 59;exact Calls.quiet_of_same (uh HLD _))))
  refine wpQuiet_nil ?_
  rintro _ ⟨nq,rfl⟩
  clear HLD
  go_wp2_with fail
  refine(uh HPU nq).mono ?_
  clear HPU
  rintro e w3 ⟨rfl,T3,P3,o3,eg3,el3⟩
  have o3':=o3.after ((Fr.refl (fun _=>False) w2).drewN nq)
  have h3:=(uh HH2).call o3'
  have x2:=uh HX2
  have wd3:Words64 nu (says P3 A):=by
   rw[eg3]
   have:=words_upd x2.1 1 (z+8 * y) (by omega)
   rw[show((z+8 * y:Nat):Int)=(z:Int)+8 * y by omega] at this
   exact this
  have fr3:fre nu (says P3 A)=fre nu (says P A):=by rw[eg3,fre_upd _ (.inl (by omega))];exact x2.2.1
  obtain⟨lf1,lf2,lf3⟩:=uh HL
  have JN:=h_join h3 wd3 (by omega) (lv x) (u / 2 ^ lv x) (by omega) (by rw[fr3];exact lf1) lf2
  have ed:((u / 2 ^ lv x:Nat):Int)=(u:Int) / y:=by rw[hy];omega
  rw[ed] at JN
  have HJN:=Hd JN;have HO3:=Hd o3';have HEG3:=Hd eg3
  clear JN o3 o3' h3 eg3 c0 hw8 hw9 x2 wd3 fr3 lf1 lf2 lf3
  go_wp2_with fail
  refine(uh HJN).mono ?_
  clear HJN
  rintro e w4 ⟨rfl,g4,t4,b4,i4⟩
  have HX4:=Hd (ai t4 (ai b4 i4))
  clear t4 b4 i4
  go_wp2
  go_end0
  obtain⟨t4,b4,i4⟩:=uh HX4
  have x2:=uh HX2
  refine⟨rfl,g4,((To.trans ((uh HO2).trans (uh HO3)) t4).after (uh HD)).le (by omega),?_⟩
  refine gave_of (uh HS) (uh HX) hu rfl x2.1 x2.2.1 x2.2.2.1 x2.2.2.2 ?_ b4 i4
  rw[uh HEG3]
  congr 1
  rw[hy,<-x2.2.2.2 1 (.inl (by omega)),uh HZ]
  simp
 ·have:=uh HBG
  rw[this] at hb';cases hb'
end
end

section
structure CovL (nu:Nat) (w:World) (hb cb ab sb b:Nat) (T:Tay) (g:Nat->Nat) (fr:Nat):Prop where
 c0:w.cell? ⟨cb,0,none⟩=some (ptr hb)
 c1:w.cell? ⟨cb,1,none⟩=some (.slice (some ⟨ab,0,none⟩) nu nu)
 c2:w.cell? ⟨cb,2,none⟩=some (.int .i64 fr)
 by_:∀u,u<nu->w.cell? ⟨ab,u,none⟩=some (.int .i64 (g u))
 z1:∀o,w.frozen? ⟨cb,o,none⟩=false
 z2:∀o,w.frozen? ⟨ab,o,none⟩=false
 ne:cb≠ab
 n1:¬tfoot sb b T cb
 n2:¬tfoot sb b T ab
 h1:cb≠hb/\ab≠hb
 h2:cb≠0/\ab≠0
 hn:0<nu/\nu<=4000
def Cb (cb ab:Nat) (w w':World):Prop:=Fr (fun k=>k=cb\/k=ab) w w'
section
variable {nu sz:Nat} {w w' w1:World} {hb cb ab sb b:Nat} {T:Tay} {A:Ab} {P:List (Int×Int)} {g:Nat->Nat} {fr:Nat}
theorem CovL.still (h:CovL nu w hb cb ab sb b T g fr) (hf:St w w'):CovL nu w' hb cb ab sb b T g fr:=
 { h with c0:=hf.cell' h.c0 id,c1:=hf.cell' h.c1 id,c2:=hf.cell' h.c2 id,by_:=fun u hu=>hf.cell' (h.by_ u hu) id,z1:=fun o=>by rw[World.frozen?_of_block (a:=⟨cb,o,none⟩) (hf.block cb (World.block_lt_of_cell? _ _ h.c0) id)];exact h.z1 o,z2:=fun o=>by rw[World.frozen?_of_block (a:=⟨ab,o,none⟩) (hf.block ab (World.block_lt_of_cell? _ _ (h.by_ 0 h.hn.1)) id)];exact h.z2 o }
theorem Hp.cov (h:Hp nu sz w hb sb b T A P) (c:CovL nu w hb cb ab sb b T g fr) (hf:Cb cb ab w w'):Hp nu sz w' hb sb b T A P:=
 h.turn hf (fun k hk=>by rcases hk with rfl | rfl;exact c.n1;exact c.n2) (fun hk=>by rcases hk with e | e;exact c.h1.1 e.symm;exact c.h1.2 e.symm) (fun hk=>by rcases hk with e | e;exact c.h2.1 e.symm;exact c.h2.2 e.symm)
theorem Cb.refl (w:World):Cb cb ab w w:=Fr.refl _ w
theorem Cb.trans (a:Cb cb ab w w') (c:Cb cb ab w' w1):Cb cb ab w w1:=Fr.trans a c
theorem Cb.dr (a:Cb cb ab w w') (c:St w' w1):Cb cb ab w w1:=Fr.trans' a c nE
theorem CovL.inc (h:CovL nu w hb cb ab sb b T g fr) (u x:Nat) (hu:u<nu):CovL nu (w.setCell ⟨ab,u,none⟩ (.int .i64 x)) hb cb ab sb b T (fun v=>if v=u then x else g v) fr/\Cb cb ab w (w.setCell ⟨ab,u,none⟩ (.int .i64 x)):=by
 have oc:∀o,(w.setCell ⟨ab,u,none⟩ (.int .i64 x)).cell? ⟨cb,o,none⟩=w.cell? ⟨cb,o,none⟩:=fun o=>World.cell?_setCell_other _ _ _ _ (by simp;exact fun e=>absurd e.symm h.ne)
 refine⟨{ h with c0:=?_,c1:=?_,c2:=?_,by_:=fun v hv=>?_,z1:=fun o=>?_,z2:=fun o=>?_ },(Fr.refl _ w).setCell (.inl (.inr rfl)) _⟩
 ·rw[oc];exact h.c0
 ·rw[oc];exact h.c1
 ·rw[oc];exact h.c2
 ·by_cases e:v=u
  ·subst e;rw[if_pos rfl];exact World.cell?_setCell_same _ _ _ (h.by_ v hu)
  ·rw[if_neg e,World.cell?_setCell_other _ _ _ _ (by simp <;> omega)];exact h.by_ v hv
 ·rw[World.frozen?_setCell];exact h.z1 o
 ·rw[World.frozen?_setCell];exact h.z2 o
theorem CovL.more (h:CovL nu w hb cb ab sb b T g fr) (x:Nat):CovL nu (w.setCell ⟨cb,2,none⟩ (.int .i64 x)) hb cb ab sb b T g x/\Cb cb ab w (w.setCell ⟨cb,2,none⟩ (.int .i64 x)):=by
 refine⟨{ h with c0:=?_,c1:=?_,c2:=World.cell?_setCell_same _ _ _ h.c2,by_:=fun v hv=>?_,z1:=fun o=>?_,z2:=fun o=>?_ },(Fr.refl _ w).setCell (.inl (.inl rfl)) _⟩
 ·rw[World.cell?_setCell_other _ _ _ _ (by simp)];exact h.c0
 ·rw[World.cell?_setCell_other _ _ _ _ (by simp)];exact h.c1
 ·rw[World.cell?_setCell_other _ _ _ _ (by simp;exact fun e=>absurd e h.ne)];exact h.by_ v hv
 ·rw[World.frozen?_setCell];exact h.z1 o
 ·rw[World.frozen?_setCell];exact h.z2 o
theorem CovL.same {g':Nat->Nat} (h:CovL nu w hb cb ab sb b T g fr) (e:∀u,u<nu->g' u=g u):CovL nu w hb cb ab sb b T g' fr:={ h with by_:=fun u hu=>by rw[e u hu];exact h.by_ u hu }
set_option maxRecDepth 20000 in
theorem c_lay (h:CovL nu w hb cb ab sb b T g fr) (k c:Nat) (hk:k<7) (hc:c<nu / 2 ^ k) (gb:∀v,v<nu->g v<=1000) :
  Calls Tryz.prog 109 #[ptr cb,.int .i64 (c * 2 ^ k:Nat),.int .i64 k] w fun e w'=>e = .returned (.bool true)/\CovL nu w' hb cb ab sb b T (fun v=>g v+ind k c v) fr/\Cb cb ab w w':=by
 have hin:=block_lt hc
 have hn4:=h.hn.2
 have hp6:2 ^ k<=64:=Nat.pow_le_pow_right (n:=2) (j:=6) (by omega) (by omega)
 have hp0:=two_pos k
 have hind:∀v,ind k c v=if c * 2 ^ k<=v/\v<c * 2 ^ k+2 ^ k then 1 else 0:=fun v=>ind_iff k c v
 obtain⟨y,hy⟩:∃y,2 ^ k=y:=⟨_,rfl⟩
 have hye:((2:Int) ^ k)=y:=by rw[<-hy];simp
 have hw1:wrap64 (y:Int)=y:=small_w64 (by rw[hy] at hp6;omega)
 have c1:=h.c1
 rw[hy] at hin hp6 hp0 hind ⊢
 obtain⟨u,hu⟩:∃u,c * y=u:=⟨_,rfl⟩
 rw[hu] at hin hind ⊢
 have HH:=Hd h;have HI:=Hd hind
 clear h hind hu hc
 go_enter Tryz.func109,Tryz.ntmps109
 go_wp2_with fail
 refine region_tailP 9 (by kernel_rfl) (by kernel_rfl) ?_
 simp only[List.take_succ_cons,List.take_zero,List.drop_succ_cons,List.drop_zero]
 repeat (go_big_quiet_step (first | fail))
 refine wpQuiet_nil ?_
 rintro _ ⟨nq,rfl⟩
 have HH1:=Hd ((uh HH).still ((Fr.refl _ w).drewN nq))
 have HF1:=Hd (((Fr.refl _ w).drewN nq:St w (w.drewN nq)))
 generalize w.drewN nq=w1 at *
 clear HH c1
 go_wp2_with fail
 go_loopw [20] (fun i wr=>∃m:Nat,m<=y/\i = .int .i64 m/\CovL nu wr hb cb ab sb b T (fun v=>g v+if u<=v/\v<u+m then 1 else 0) fr/\Cb cb ab w1 wr) (fun i wr=>y - (intOf i).toNat)
 case atStart=>exact⟨0,by omega,rfl,(uh HH1).same (fun v _=>by rw[if_neg (by omega)];rfl),Cb.refl _⟩
 case round=>
  obtain⟨m,hm,rfl,hcv,hcb⟩:=hrel
  by_cases hlt:m<y
  ·have c1:=hcv.c1;have cu:=hcv.by_ (u+m) (by omega);have z2:=hcv.z2 (u+m)
   have hgu:=gb (u+m) (by omega)
   rw[if_neg (by omega)] at cu
   have IN:=hcv.inc (u+m) (g (u+m)+1) (by omega)
   rw[show((g (u+m)+1:Nat):Int)=(g (u+m):Int)+1 by omega] at IN
   have HIN:=Hd IN;have HCB:=Hd hcb
   clear IN hcb hcv
   go_wp2
   refine⟨⟨m+1,by omega,by go_num,(uh HIN).1.same (fun v _=>?_),(uh HCB).trans (uh HIN).2⟩,by simp[intOf];omega⟩
   by_cases e:v=u+m
   ·rw[if_pos e,if_pos (by omega),e]
   ·rw[if_neg e]
    by_cases e2:u<=v/\v<u+m
    ·rw[if_pos e2,if_pos (by omega)]
    ·rw[if_neg e2,if_neg (by omega)]
  ·have:m=y:=by omega
   subst this
   have HX:=Hd (ai hcv hcb)
   clear hcv hcb
   go_wp2
   go_ret
   obtain⟨hcv,hcb⟩:=uh HX
   exact⟨rfl,hcv.same (fun v _=>by rw[uh HI v]),Fr.trans ((uh HF1).mono nE) hcb⟩
def rest (K:Nat->Nat) (m:Nat):Nat->Nat:=fun u=>if u<m then K u else 0
theorem rest_0 (K:Nat->Nat):rest K 0=fun _=>0:=by funext u;simp[rest]
theorem rest_succ (K:Nat->Nat) (m:Nat):rest K (m+1)=setK (rest K m) m (K m):=by
 funext u
 by_cases e:u=m
 ·subst e;simp[rest,setK]
 ·have e2:(u<m+1)=(u<m):=by simp only[eq_iff_iff];omega
  simp[rest,setK,e,e2]
theorem rest_zero {K:Nat->Nat} {m:Nat} (h:K m=0):rest K (m+1)=rest K m:=by
 rw[rest_succ]
 funext u
 unfold setK
 split
 ·rename_i e;rw[e,h];simp[rest]
 ·rfl
theorem cv_none (u:Nat):cv (fun _=>0) u=0:=by unfold cv sum7 pc;simp
theorem rest_all {nu:Nat} {K:Nat->Nat} (h:∀u,K u≠0->u<nu) {m:Nat} (hm:nu<=m):rest K m=K:=by
 funext u
 unfold rest
 by_cases e:K u=0
 ·rw[e];simp
 ·rw[if_pos (by have:=h u e;omega)]
theorem cv_rest {nu:Nat} {F:Nat->Nat->Bool} {K:Nat->Nat} (i:Inv nu F K (fun _=>0)) {m:Nat} (h:K m≠0) (v:Nat):cv (rest K (m+1)) v=cv (rest K m) v+ind (lv (K m)) (m / 2 ^ lv (K m)) v:=by
 obtain⟨_,l2,l3⟩:=i.lift h
 have:=cv_lay (K:=rest K m) (x:=K m) l2 rfl h (by rw[l3];simp[rest]) v
 rw[l3] at this
 rw[rest_succ];exact this
theorem cv_rest_le {nu:Nat} {F:Nat->Nat->Bool} {K:Nat->Nat} (i:Inv nu F K (fun _=>0)) (m v:Nat) (hv:v<nu):cv (rest K m) v<=1:=by
 have key:∀d,cv (rest K m) v<=cv (rest K (m+d)) v:=by
  intro d
  induction d with
  | zero=>exact Nat.le_refl _
  | succ d ih=>
   by_cases e:K (m+d)=0
   ·rw[<-Nat.add_assoc,rest_zero e];exact ih
   ·rw[<-Nat.add_assoc,cv_rest i e];omega
 have h1:=key nu
 rw[rest_all (m:=m+nu) (fun u hu=>(i.asks u hu).1) (by omega)] at h1
 have h2:=i.cov v hv
 rw[hv_cv] at h2
 omega
set_option maxRecDepth 20000 in
theorem c_pieces (h:Hp nu sz w hb sb b T A P) (s:HpS nu (says P A)) (c:CovL nu w hb cb ab sb b T (fun _=>0) fr) :
  Calls Tryz.prog 65 #[ptr cb] w fun e w'=>e = .returned (.bool true)/\CovL nu w' hb cb ab sb b T (cv (ask nu (says P A))) fr/\Cb cb ab w w':=by
 have c0:=c.c0;have c1:=h.hp.c1
 obtain⟨g1,g2,g3,g4,g5,g6⟩:=h.hp.geo.b
 have GR:Calls Tryz.prog 108 #[.int .i64 nu,.int .i64 4] w fun e w'=>e = .returned (.int .i64 (qa nu))/\w'=w:=by
  have:=h_groups nu 4 (by omega) (by omega) (by omega) (by omega) w
  rw[show((nu:Int)+4 - 1) / 4=(qa nu:Nat) by unfold qa;omega] at this
  exact this
 have HH:=Hd h;have HS:=Hd s;have HC:=Hd c
 clear h s c
 go_enter Tryz.func65,Tryz.ntmps65
 go_wp2_with (go_at_call 108;refine GR.mono ?_;rintro e w' ⟨rfl,hh⟩;replace hh:=hh.symm;subst hh)
 clear GR c0 c1
 go_loopw [14] (fun i wr=>∃m:Nat,m<=4 * qa nu/\i = .int .i64 m/\CovL nu wr hb cb ab sb b T (cv (rest (ask nu (says P A)) m)) fr/\Cb cb ab w wr) (fun i wr=>4 * qa nu - (intOf i).toNat)
 case atStart=>exact⟨0,by omega,rfl,(uh HC).same (fun v _=>by rw[rest_0,cv_none]),Cb.refl _⟩
 case round=>
  obtain⟨m,hm,rfl,hcv,hcb⟩:=hrel
  by_cases hlt:m<4 * qa nu
  ·have hp:=(uh HH).cov (uh HC) hcb
   have s:=uh HS
   obtain⟨r0,r1⟩:=s.wd (aw nu+m / 4) (by omega)
   have AK:=h_asked hp.hp hp.reads m hlt r0 r1
   have c0:=hcv.c0
   have HAK:=Hd AK;have HP:=Hd hp;have HCV:=Hd hcv;have HCB:=Hd hcb;have HR:=Hd (ai r0 r1)
   clear AK hp s hcv hcb r0 r1
   go_wp2_with fail
   refine(uh HAK).mono ?_
   clear HAK
   rintro e w2 ⟨rfl,D⟩
   have D:Dr wr w2:=D
   have HD:=Hd D
   obtain⟨x,hx⟩:∃x,ask nu (says P A) m=x:=⟨_,rfl⟩
   have x6:=ask_lt (nu:=nu) (says P A) m
   rw[hx] at x6
   rw[hx]
   by_cases hx0:x=0
   ·subst hx0
    have HX:=Hd hx
    clear hx D
    go_wp2
    refine⟨⟨m+1,by omega,by go_num,?_,(uh HCB).dr (uh HD).still⟩,by simp[intOf];omega⟩
    rw[rest_zero (uh HX)]
    exact(uh HCV).still (uh HD).still
   ·have s:=uh HS
    have hne:ask nu (says P A) m≠0:=by rw[hx];exact hx0
    obtain⟨a1,a2,a3,a4⟩:=s.inv.asks m hne
    obtain⟨_,l2,l3⟩:=s.inv.lift hne
    have hp2:=(uh HP).still D.still
    have hcv2:=(uh HCV).still D.still
    have BG:=h_begins hp2.hp hp2.reads m hlt (uh HR).1 (uh HR).2
    rw[begs_of s.inv hne] at BG
    rw[hx] at a2 l2 l3
    have c0':=hcv2.c0
    have HBG:=Hd BG;have HCV2:=Hd hcv2;have HX:=Hd hx
    have HL:=Hd (ai l2 l3)
    have hx0':((x:Int) == 0)=false:=by simp;exact hx0
    clear BG s hp2 hcv2 D a3 a4 hne hx l2 l3 c0
    go_wp2_with fail
    refine(uh HBG).mono ?_
    clear HBG
    rintro e w3 ⟨rfl,D3⟩
    have D3:Dr w2 w3:=D3
    have LV:=h_level x (by omega) a2 w3
    have hcv3:=(uh HCV2).still D3.still
    have LY:=c_lay hcv3 (lv x) (m / 2 ^ lv x) (by have:=lv_le x;omega) (uh HL).1 (fun v hv=>Nat.le_trans (cv_rest_le (uh HS).inv m v hv) (by omega))
    rw[(uh HL).2] at LY
    have HLY:=Hd LY;have HD3:=Hd D3.still
    clear LY hcv3 D3 c0'
    go_wp2_with (first | (go_at_call 107;refine LV.mono ?_;rintro e w' ⟨rfl,hh⟩;replace hh:=hh.symm;subst hh) | fail)
    refine(uh HLY).mono ?_
    clear HLY LV
    rintro e w4 ⟨rfl,hcv4,hcb4⟩
    have HX4:=Hd (ai hcv4 hcb4)
    clear hcv4 hcb4
    go_wp2
    obtain⟨hcv4,hcb4⟩:=uh HX4
    refine⟨⟨m+1,by omega,by go_num,hcv4.same (fun v _=>?_),(((uh HCB).dr (uh HD).still).dr (uh HD3)).trans hcb4⟩,by simp[intOf];omega⟩
    have hx:=uh HX
    rw[cv_rest (uh HS).inv (by rw[hx];exact hx0),hx]
  ·have:m=4 * qa nu:=by omega
   subst this
   have HX:=Hd (ai hcv hcb)
   clear hcv hcb
   go_wp2
   go_ret
   obtain⟨hcv,hcb⟩:=uh HX
   refine⟨rfl,hcv.same (fun v _=>?_),hcb⟩
   rw[rest_all (fun u hu=>((uh HS).inv.asks u hu).1) (by omega)]
end
end
end Go.Proofs.YtbiopjmpdhcjgaaGreatDoor
