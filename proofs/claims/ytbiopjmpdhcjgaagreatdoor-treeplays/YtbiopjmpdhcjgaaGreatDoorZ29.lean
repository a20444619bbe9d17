/- Joined: Kl Kf Kh Kr Ku Kz. -/
import Derived.Test.YtbiopjmpdhcjgaaGreatDoorZ13
import Derived.Test.YtbiopjmpdhcjgaaGreatDoorZ24
import Derived.Test.YtbiopjmpdhcjgaaGreatDoorZ28
namespace Go.Proofs.YtbiopjmpdhcjgaaGreatDoor
open Go.RowKit
set_option maxHeartbeats 4000000

section
theorem law_open (n N:Nat) (hn:N * 8=12400+n) (hn0:0<n) (hN:N<=8192) (w:World) :
  Calls Tryz.prog 38 #[.int .i64 ((N:Int) * 8)] w fun e w'=>∃b sb T A,e = .returned (.tuple #[ptr b,ptr sb])/\Opd w b sb n T A w':=by
 have K:=new_any N (by omega) hN w
 have HK:=Hd K
 have h1:=eq_nil_dev
 clear K
 go_enter Tryz.func38,Tryz.ntmps38
 go_wp2_with fail
 refine(uh HK).mono ?_
 clear HK
 unfold NewOk
 rintro e w1 ⟨rfl,L,d,f,nw⟩
 have K2:=open_new n N hn hn0 w d f nw
 have HK:=Hd K2
 clear K2 d f nw
 go_wp2_with fail
 refine(uh HK).mono ?_
 clear HK
 rintro e w2 ⟨sb,T,A,rfl,o⟩
 have HO:=Hd o
 clear o
 go_wp2
 go_ret2
 exact⟨_,sb,T,A,rfl,uh HO⟩
section
variable {nu sz:Nat}
set_option maxRecDepth 20000 in
theorem l8_open (G:Geo nu sz) {N:Nat} (hN8:N * 8=12400+sz) (w:World) (tab:TabL w):Calls Tryz.prog 8 #[.int .i64 ((N:Int) * 8)] w fun e w'=>∃b sb hb T A base,e = .returned (.tuple #[ptr b,ptr sb,ptr hb])/\HpC nu sz w (fun k=>k=hb) w' hb sb b T A N True 43021 base/\NewH nu (rb base):=by
 obtain⟨g1,g2,g3,g4,g5,g6⟩:=G.b
 have K:Calls Tryz.prog 38 #[.int .i64 ((N:Int) * 8)] w _:=law_open sz N hN8 (by omega) (by omega) w
 have l0:0<w.heap.size:=World.block_lt_of_cell? _ _ (tab 0 (by omega))
 have h1:=eq_nil_stor
 have HK:=Hd K;have HT:=Hd tab
 clear K tab
 go_enter Tryz.func8,Tryz.ntmps8
 go_wp2_with fail
 refine(uh HK).mono ?_
 clear HK
 rintro e w1 ⟨b,sb,T,A,rfl,o⟩
 obtain⟨N',f,hN,c,k⟩:=o.calm
 have hN':N'=N:=by omega
 subst hN'
 have tab1:TabL w1:=fun j hj=>o.fr.cell' (uh HT j hj) id
 have OP:=h_open_by (R:=fun P'=>Began nu (says [] A) (says P' A)) G o.st c k tab1 (fun ht=>by have:=o.new 0 ht;omega) (by omega) (fun w2 hb bx hp bc=>(h_openC_new hp (by simp) (fun i hi=>by
  rw[says_base c k []];rfl) bc).mono (by
  rintro e w3 ⟨rfl,g,⟨T',P',o',eg,-⟩,bg⟩
  subst eg
  exact⟨rfl,T',P',o',bg⟩))
 have HOP:=Hd OP;have HO:=Hd o;have HC:=Hd (ai c k)
 clear OP o c k tab1
 go_wp2_with fail
 refine(uh HOP).mono ?_
 clear HOP
 rintro e w2 (⟨hb,P',T',A',rfl,lh,hl,bg,o2,nh,f',c',k'⟩ | ⟨_,_,_,_,_,_,hg,_⟩)
 ·have HX:=Hd (ai lh (ai hl (ai bg (ai o2 (ai nh (ai c' k'))))))
  clear lh hl bg o2 nh c' k'
  go_wp2
  go_ret3
  obtain⟨lh,hl,bg,o2,nh,c',k'⟩:=uh HX
  have o:=uh HO
  refine⟨b,sb,hb,T',A',homed P' (fun _=>0),rfl,⟨⟨o2.st,o.fr.trans' o2.fr (fun k hk=>.inr (o.new k hk)),fun k hk=>(o2.sub k hk).elim (o.new k) (fun x=>Nat.le_trans o.fr.size x),fun k hk=>by subst hk;exact nh,fun k hk=>by subst hk;exact⟨Nat.le_trans o.fr.size lh,World.block_lt_of_cell? _ _ hl.c0⟩⟩,⟨f',c',k'⟩,hl,rfl,l0⟩,?_⟩
  rw[<-says_base (uh HC).1 (uh HC).2 P']
  exact⟨bg.st,bg.ak,bg.root⟩
 ·exact absurd trivial hg
end
end
def AwY (lo bl bo:Nat) (Y:Nat->Prop) (h:How) (_P:List (Int×Int)) (w':World):Prop:=
 h = .well/\∃v,(Y bl/\Y bo/\∀k,v.ownBlock=some k->Y k)/\Box w' bl v/\Box w' bo (.bool true)/\w'.ownsRow lo 43 2 v 2 (pcl awL)
theorem AwY_stays (lo bl bo:Nat):StaysY (AwY lo bl bo):=by
 rintro Y h P w w' F ⟨q,v,⟨y1,y2,y3⟩,b1,b2,r⟩ hf hn
 exact⟨q,v,⟨y1,y2,y3⟩,b1.kept hf (hn bl y1),b2.kept hf (hn bo y2),row_kept r hf (fun k hk=>hn k (y3 k hk))⟩
theorem eq_pair (w:World):(binOp .eql 43 (.agg #[.string ⟨#[97]⟩,.int .u64 1]) (.agg #[.string ⟨#[97]⟩,.int .u64 1])).run Tryz.prog w = .ok (.bool true) w:=by kernel_rfl
set_option maxRecDepth 20000 in
theorem l11_awake (w:World) (tab:TabL w):Calls Tryz.prog 22 #[] w fun e w'=>e = .returned (.bool true)/\St w w':=by
 have K:Calls Tryz.prog 8 #[.int .i64 24576] w _:=l8_open geo24 (N:=3072) (by omega) w tab
 have h1:=eq_nil_heap
 have h2:=mf
 have HK:=Hd K
 clear K tab
 go_enter Tryz.func22,Tryz.ntmps22
 go_wp2_with fail
 refine(uh HK).mono ?_
 clear HK
 rintro e w1 ⟨b,sb,hb,T,A,base,rfl,hc,nw⟩
 obtain⟨W1,hW1⟩:∃W1,w1.alloc (.cells #[ptr sb] 23)=W1:=⟨_,rfl⟩
 obtain⟨W2,hW2⟩:∃W2,W1.alloc (.cells #[ptr hb] 24)=W2:=⟨_,rfl⟩
 obtain⟨W3,hW3⟩:∃W3,W2.alloc (.cells #[.slice none 0 0] 33)=W3:=⟨_,rfl⟩
 obtain⟨W4,hW4⟩:∃W4,W3.alloc (.cells #[.bool false] 4)=W4:=⟨_,rfl⟩
 obtain⟨n1,hn1⟩:∃n1,w1.heap.size=n1:=⟨_,rfl⟩
 have z1:W1.heap.size=n1+1:=by rw[<-hW1];simp[hn1]
 have z2:W2.heap.size=n1+2:=by rw[<-hW2];simp;omega
 have z3:W3.heap.size=n1+3:=by rw[<-hW3];simp;omega
 have f12:St W1 W2:=hW2▸(Fr.refl _ W1).alloc _
 have f23:St W2 W3:=hW3▸(Fr.refl _ W2).alloc _
 have f34:St W3 W4:=hW4▸(Fr.refl _ W3).alloc _
 have f24:St W2 W4:=f23.trans' f34 nE
 have hc1:=hc.more (.cells #[ptr sb] 23)
 rw[hW1,hn1] at hc1
 have hc2:=hc1.more (.cells #[ptr hb] 24)
 rw[hW2,z1] at hc2
 have hc3:=hc2.more (.cells #[.slice none 0 0] 33)
 rw[hW3,z2] at hc3
 have hc4:=hc3.more (.cells #[.bool false] 4)
 rw[hW4,z3] at hc4
 have bs4:Box W4 n1 (ptr sb):=by
  have:=Box.new w1 (ptr sb) 23
  rw[hW1,hn1] at this;exact(this.kept f12 id).kept f24 id
 have bh2:Box W2 (n1+1) (ptr hb):=by
  have:=Box.new W1 (ptr hb) 24
  rw[hW2,z1] at this;exact this
 have bh4:=bh2.kept f24 id
 have bl4:Box W4 (n1+2) (.slice none 0 0):=by
  have:=Box.new W2 (.slice none 0 0) 33
  rw[hW3,z2] at this;exact this.kept f34 id
 have bo4:Box W4 (n1+3) (.bool false):=by
  have:=Box.new W3 (.bool false) 4
  rw[hW4,z3] at this;exact this
 have lhb:hb<n1:=by rw[<-hn1];exact(hc.hd.xl hb hc.xh).2
 have l0:0<n1:=by rw[<-hn1];exact Nat.lt_of_lt_of_le hc.l0 hc.hd.fr.size
 have sy:=hc.says []
 rw[homed_nil] at sy
 have DO:=hc4.doZ (V:=fun k=>k=n1+2\/k=n1+3) (g:=62) (fi:=#[]) (ca:=#[ptr n1,ptr (n1+1),ptr (n1+2),ptr (n1+3)]) (R:=AwY 0 (n1+2) (n1+3))
  (fun k hk=>by rcases hk with e | e;exact .inl (.inr e);exact .inr e) (by omega) (AwY_stays _ _ _) (fun w3 f3=>acts_of (fun _ _=>by kernel_rfl) ((awC11 (hc4.toHp.still f3) (by rw[sy];exact nw.st) (by rw[sy];exact nw.ak) (by simp) (by omega) (f3.cell' bs4.c id) (f3.cell' bh4.c id) (bl4.kept f3 id) (bo4.kept f3 id) (fun k hk=>by
   rcases hk with rfl | rfl | rfl | rfl
   ·exact hc4.hd.ap _ (.inl (.inl (.inl (.inr rfl))))
   ·exact hc4.hd.ap _ (.inl (.inl (.inr rfl)))
   ·exact hc4.hd.ap _ (.inl (.inr rfl))
   ·exact hc4.hd.ap _ (.inr rfl)) (by omega)).mono (by
   rintro e w4 ⟨rfl,T',P',v,o,b1,b2,r,nv,n2,n3⟩
   refine⟨.well,rfl,.inl rfl,T',P',fun k=>k=n1+2\/k=n1+3\/v.ownBlock=some k,o,fun k hk=>?_,rfl,v,⟨.inl rfl,.inr (.inl rfl),fun k hk=>.inr (.inr hk)⟩,b1,b2,row_lo r (Nat.zero_le _)⟩
   rcases hk with rfl | rfl | hk
   ·exact⟨b1.lt,n2,.inl (.inl rfl)⟩
   ·exact⟨b2.lt,n3,.inl (.inr rfl)⟩
   ·exact⟨(r.lt k hk).2,nv k hk,.inr (r.lt k hk).1⟩))) (by omega)
 have bsc:=bs4.c;have bhc:=bh2.c
 have HDO:=Hd DO;have HW:=Hd (ai hW1 (ai hW2 (ai hW3 hW4)))
 rw[<-hW4,<-hW3,<-hW2,<-hW1] at bsc
 rw[<-hW2,<-hW1] at bhc
 clear DO hc hc1 hc2 hc3 hc4 bs4 bh2 bh4 bl4 bo4 nw sy f12 f23 f34 f24 hW1 hW2 hW3 hW4 lhb l0 z1 z2 z3
 go_wp2_with fail
 obtain⟨hW1,hW2,hW3,hW4⟩:=uh HW
 rw[hW1,hW2,hW3,hW4]
 clear hW1 hW2 hW3 hW4 HW bsc bhc
 unfold DidZ at HDO
 refine(uh HDO).mono ?_
 clear HDO
 rintro e w6 ⟨fr6,⟨P',T',A',Y,⟨_,v,_,b1,b2,r⟩,rfl,hc6⟩ | ⟨i,P',T',Y,⟨hq,_⟩,_⟩⟩
 ·obtain⟨g,cap,ev⟩:∃g cap,v = .slice (some ⟨g,0,none⟩) 2 cap:=by
   rcases rowp_form r with ⟨_,h0⟩ | ⟨g,cap,e⟩
   ·exact absurd h0 (by decide)
   ·exact⟨g,cap,e⟩
  subst ev
  have SL:=sl_of_row r pcl_one
  have cA:w6.cell? ⟨g,0,none⟩=some (.string ⟨#[97]⟩):=by
   obtain⟨x,o,e,c⟩:=SL.cells 0 _ (pcl_at (l:=awL) (k:=0) rfl).1
   cases e;exact c
  have cB:w6.cell? ⟨g,1,none⟩=some (.int .u64 1):=by
   obtain⟨x,o,e,c⟩:=SL.cells 1 _ (pcl_at (l:=awL) (k:=0) rfl).2
   cases e;exact c
  have c1:=b1.c;have c2:=b2.c
  have e1:=eq_pair
  have HFF:=Hd hc6.hd.fr
  clear SL hc6 r fr6 b1 b2
  go_wp2
  go_ret
  exact⟨rfl,uh HFF⟩
 ·cases hq
theorem beq_bytes (x y:ByteArray):(x == y)=decide (x=y):=by
 obtain⟨a⟩:=x;obtain⟨b⟩:=y
 show(a == b)=_
 rw[Bool.eq_iff_iff]
 simp
theorem eqs_str (d:Nat) (x y:ByteArray) (w:World):(Op.equalIn (d+1) 9 (.string x) (.string y)).run Tryz.prog w = .ok (x == y) w:=by
 rw[Op.equalIn]
 simp[run_underlying (P:=Tryz.prog) Tryz.underlying9]
theorem eqs_u64 (d:Nat) (x y:Int) (w:World):(Op.equalIn (d+1) 27 (.int .u64 x) (.int .u64 y)).run Tryz.prog w = .ok (x == y) w:=by
 rw[Op.equalIn]
 simp[run_underlying (P:=Tryz.prog) Tryz.underlying27]
theorem part_k (x:ByteArray) (u:Int) (w:World):(part 9 #[.string x,.int .u64 u] 0).run Tryz.prog w = .ok (.string x) w:=by kernel_rfl
theorem part_v (x:ByteArray) (u:Int) (w:World):(part 27 #[.string x,.int .u64 u] 1).run Tryz.prog w = .ok (.int .u64 u) w:=by kernel_rfl
theorem stood_pr:Tryz.prog.stoodInHeld 43=false:=by kernel_rfl
theorem run_prog (w:World):(program).run Tryz.prog w = .ok Tryz.prog w:=rfl
theorem eqs_pr (d:Nat) (x y:ByteArray) (u v:Int) (w:World):(Op.equalIn (d+2) 43 (.agg #[.string x,.int .u64 u]) (.agg #[.string y,.int .u64 v])).run Tryz.prog w = .ok ((x == y) && (u == v)) w:=by
 have hu:=run_underlying (P:=Tryz.prog) Tryz.underlying43
 rw[Op.equalIn]
 simp only[Sem.run_bind,hu,Result.andThen_ok,run_prog,stood_pr,Bool.false_eq_true,if_false]
 rw[<-Array.forIn_toList]
 simp only[List.forIn_cons,List.forIn_nil,Sem.run_bind,ne_eq,String.reduceEq,not_false_eq_true,if_true,part_k,Result.andThen_ok,eqs_str]
 cases h1:(x == y)
 ·simp
 ·cases h2:(u == v)
  ·simp[eqs_u64,h2,part_v]
  ·simp[eqs_u64,h2,part_v]
theorem ne_pr (x y:ByteArray) (u v:Int) (w:World):(binOp .neq 43 (.agg #[.string x,.int .u64 u]) (.agg #[.string y,.int .u64 v])).run Tryz.prog w = .ok (.bool (!((x == y) && (u == v)))) w:=by
 have:=eqs_pr 9998 x y u v w
 simp only[binOp,Op.equal,Sem.run_bind]
 rw[show Op.maxDepth=9998+2 from rfl,this]
 rfl
theorem ne_self (x:ByteArray) (u:Int) (w:World):(binOp .neq 43 (.agg #[.string x,.int .u64 u]) (.agg #[.string x,.int .u64 u])).run Tryz.prog w = .ok (.bool false) w:=by
 rw[ne_pr,beq_bytes];simp
def wthL (l:List Pr) (k j:Nat) (x:ByteArray) (v:Nat) (gone:Bool):List Pr:=l.take k ++ ((if gone then [] else [(x,v)]) ++ l.drop j)
set_option maxRecDepth 100000 in
theorem l11_with (a:Option Addr) (c:Nat) (l:List Pr) (x:ByteArray) (v k j:Nat) (gone:Bool) (w:World) (h:Lf w a c l) (hl:l.length<=500) (hk:k<=l.length) (h1:∀t,t<k->ltK (l.getD t default).1 x) (h2:k<l.length->¬ltK (l.getD k default).1 x)
  (hj:j=if k<l.length/\(l.getD k default).1=x then k+1 else k) :
  Calls Tryz.prog 31 #[.slice a l.length c,.agg #[.string x,.int .u64 (v:Nat)],.bool gone] w fun e w'=>∃u,e = .returned u/\w'.ownsRow w.heap.size 43 2 u (wthL l k j x v gone).length (pcl (wthL l k j x v gone))/\St w w':=by
 obtain⟨g,hg⟩:∃g,w.heap.size=g:=⟨_,rfl⟩
 obtain⟨W0,hW0⟩:∃W0,w.alloc (.cells #[.string x,.int .u64 (v:Nat)] 43)=W0:=⟨_,rfl⟩
 have f0:St w W0:=hW0▸(Fr.refl _ w).alloc _
 have z0:W0.heap.size=g+1:=by rw[<-hW0];simp[hg]
 have o0:W0.heap[g]? = some (.cells #[.string x,.int .u64 (v:Nat)] 43 (0,0)):=by rw[<-hg,<-hW0];exact heap_alloc_new w _
 have hjn:j<=l.length/\k<=j:=by rw[hj];split <;> omega
 have hcap:=h.cap
 have sf:=fun w=>slice_fromZ elt_Q (by kernel_rfl) a l.length c j w hjn.1
 have HX:=Hd (ai (h.still f0) (ai f0 (ai o0 (ai h1 (ai h2 hj)))));have HW0:=Hd hW0
 clear h f0 hW0 h1 h2 hj o0
 have e1:∀gone,(wthL l k j x v gone).length=(if gone then k else k+1)+(l.length - j):=fun gone=>by
  cases gone <;> simp[wthL] <;> omega
 have e2:∀gone,pcl (wthL l k j x v gone)=pcl (l.take k ++ (if gone then [] else [(x,v)])) ++ pcl (l.drop j):=fun gone=>by
  rw[<-pcl_app];unfold wthL;rw[List.append_assoc]
 have HE:=Hd (ai e1 e2)
 clear e1 e2
 cases gone
 ·go_enter Tryz.func31,Tryz.ntmps31
  go_wp2_with fail
  rw[uh HW0]
  go_loopw [7,8] (fun u iv wr=>∃r:Nat,r<=k/\iv = .int .i64 r/\wr.ownsRow (g+1) 43 2 u r (pcl (l.take r))/\St W0 wr) (fun _ iv _=>l.length - (intOf iv).toNat)
  case atStart=>exact⟨0,by omega,rfl,World.ownsRow_nil _ _ _ _,Fr.refl _ _⟩
  case round=>
   obtain⟨r,hrk,rfl,hrow,fr⟩:=hrel
   generalize wr=wq at *
   clear wr
   obtain⟨h,f0,o0,h1,h2,hj⟩:=uh HX
   have c0:wq.cell? ⟨g,0,none⟩=some (.string x):=fr.cell' (cOo o0 0) id
   have c00:wq.cell? ⟨g,1,none⟩=some (.int .u64 (v:Nat)):=fr.cell' (cOo o0 1) id
   by_cases hlt:r<k
   ·skip
    obtain⟨p,hp⟩:∃p,l[r]? = some p:=⟨_,List.getElem?_eq_getElem (by omega)⟩
    obtain⟨b,o,rfl,c1,c2⟩:=h.pair hp
    replace c1:=fr.cell' c1 id
    replace c2:=fr.cell' c2 id
    have lx:Op.bytesLess p.1.toList x.toList=true:=by
     rw[less_eq]
     exact decide_eq_true (by have:=h1 r hlt;simpa [List.getD,hp] using this)
    have hlt':((r:Int)<l.length)=True:=by simp;omega
    have HF:=Hd (ai hrow (ai fr hp))
    clear h f0 o0 h1 h2 hj hrow fr hp
    go_wp2_with fail
    refine region_tailP 13 (by kernel_rfl) (by kernel_rfl) ?_
    simp only[List.take_succ_cons,List.take_zero,List.drop_succ_cons,List.drop_zero]
    repeat (go_big_quiet_step (fail))
    refine wpQuiet_nil ?_
    rintro _ ⟨nq,rfl⟩
    obtain⟨hrow,fr,hp⟩:=uh HF
    obtain⟨Wd,hWd⟩:∃Wd,wq.drewN nq=Wd:=⟨_,rfl⟩
    have fd:St wq Wd:=hWd▸(Fr.refl _ wq).drewN nq
    rw[hWd]
    replace c1:=fd.cell' c1 id
    replace c2:=fd.cell' c2 id
    obtain⟨W1,hW1⟩:∃W1,Wd.alloc (.cells #[.string p.1,.int .u64 (p.2:Nat)] 43)=W1:=⟨_,rfl⟩
    have f1:St Wd W1:=hW1▸(Fr.refl _ Wd).alloc _
    obtain⟨u',w2,hap,hw2,hgr,hloc⟩:=run_more elt_Q 33 (own_still (own_still hrow fd) f1) (sl_pair Wd W1 p hW1) (by omega) (by have:=fr.size;have:=fd.size;have:=f1.size;omega)
    have ht:pcl (l.take (r+1))=pcl (l.take r) ++ pcl [p]:=by
     rw[List.take_add_one,hp,pcl_app];rfl
    have HZ:=Hd (show w2.ownsRow (g+1) 43 2 u' (r+1) (pcl (l.take (r+1)))/\St W0 w2 from⟨by rw[ht];exact hw2,((fr.trans' fd nE).trans' f1 nE).grown hgr (fun k hk=>.inr (by have:=(hrow.lt k hk).1;omega))⟩)
    have HAP:=Hd hap;have HW1:=Hd hW1
    clear hap hw2 hgr hloc ht f1 hW1 fd hWd hrow fr hp c0 c00 lx
    go_wp2_with (first | (at_builtin;rw[uh HW1];refine wpList_append_run rfl (.tmp 23) (.tmp 28) 33 rfl _ _ rfl rfl u' w2 (uh HAP) ?_) | fail)
    obtain⟨hw2,f2⟩:=uh HZ
    exact⟨⟨r+1,by omega,by simp,hw2,f2⟩,by simp[intOf];omega⟩
   ·skip
    have erk:r=k:=by omega
    subst erk
    by_cases hkl:r<l.length
    ·obtain⟨p,hp⟩:∃p,l[r]? = some p:=⟨_,List.getElem?_eq_getElem (by omega)⟩
     have ep:l.getD r default=p:=by simp[List.getD,hp]
     rw[ep] at hj
     have hnl:=h2 hkl
     rw[ep] at hnl
     have lx:Op.bytesLess p.1.toList x.toList=false:=by rw[less_eq];exact decide_eq_false hnl
     have hlt':((r:Int)<l.length)=True:=by simp;omega
     obtain⟨b,o,rfl,k1,k2⟩:=h.pair hp
     have c1:=fr.cell' k1 id
     by_cases hx:p.1=x
     ·have hj':j=r+1:=by rw[hj,if_pos ⟨hkl,hx⟩]
      subst hj'
      have sl:=fun w=>(show(Instr.slice 33 (.slice (some ⟨b,o,none⟩) l.length c) (some (.int .i64 ((r:Int)+1))) none none).run Tryz.prog w=_ from sf w)
      have hq:(p.1.toList == x.toList)=true:=by rw[hx];simp
      clear hp ep hnl hx k2 sf
      have HF:=Hd (ai hrow (ai fr (ai h o0)))
      clear h f0 o0 h1 h2 hj hrow fr
      go_wp2_with fail
      refine region_tailP 13 (by kernel_rfl) (by kernel_rfl) ?_
      simp only[List.take_succ_cons,List.take_zero,List.drop_succ_cons,List.drop_zero]
      repeat (go_big_quiet_step (fail))
      refine wpQuiet_nil ?_
      rintro _ ⟨nq,rfl⟩
      obtain⟨hrow,fr,h,o0⟩:=uh HF
      obtain⟨Wd,hWd⟩:∃Wd,wq.drewN nq=Wd:=⟨_,rfl⟩
      have fd:St wq Wd:=hWd▸(Fr.refl _ wq).drewN nq
      rw[hWd]
      have fWd:St W0 Wd:=fr.trans' fd nE
      replace c0:=fd.cell' c0 id
      replace c00:=fd.cell' c00 id
      obtain⟨W1,hW1⟩:∃W1,Wd.alloc (.cells #[.string x,.int .u64 (v:Nat)] 43)=W1:=⟨_,rfl⟩
      have f1:St Wd W1:=hW1▸(Fr.refl _ Wd).alloc _
      obtain⟨u',w2,hap,hw2,hgr,hloc⟩:=run_more elt_Q 33 (own_still (own_still hrow fd) f1) (sl_pair Wd W1 (x,v) hW1) (by omega) (by have:=fWd.size;have:=f1.size;omega)
      have fw2:St W0 w2:=(fWd.trans' f1 nE).grown hgr (fun k hk=>.inr (by have:=(hrow.lt k hk).1;omega))
      have HM:=Hd (show w2.ownsRow (g+1) 43 2 u' (r+1) (pcl (l.take r ++ [(x,v)]))/\St W0 w2/\Lf W0 _ c l from⟨by rw[pcl_app];exact hw2,fw2,h⟩)
      have c1':=fw2.cell' k1 id
      have c0':=fw2.cell' (cOo o0 0) id
      have HAP:=Hd hap;have HW1:=Hd hW1
      clear hap hw2 hgr hloc f1 fw2 hW1 fd fWd hWd hrow fr h o0 HF
      go_wp2_with (first | (at_builtin;rw[uh HW1];refine wpList_append_run rfl (.tmp 34) (.tmp 36) 33 rfl _ _ rfl rfl u' w2 (uh HAP) ?_) | fail)
      refine region_tailP 13 (by kernel_rfl) (by kernel_rfl) ?_
      simp only[List.take_succ_cons,List.take_zero,List.drop_succ_cons,List.drop_zero]
      repeat (go_big_quiet_step (fail))
      refine wpQuiet_nil ?_
      rintro _ ⟨nq2,rfl⟩
      obtain⟨Wx,hWx⟩:∃Wx,w2.drewN nq2=Wx:=⟨_,rfl⟩
      have fx:St w2 Wx:=hWx▸(Fr.refl _ w2).drewN nq2
      rw[hWx]
      obtain⟨hrm0,fm0,S⟩:=uh HM
      have hrm:=own_still hrm0 fx
      have fm:=fm0.trans' fx nE
      have Sd:=(S.still fm).drop _ hjn.1
      rw[pcl_drop] at Sd
      obtain⟨u3,w3,hap3,hw3,hgr3,hloc3⟩:=run_more elt_Q 33 hrm Sd (by omega) (by have:=fm.size;omega)
      have HAP3:=Hd hap3
      have HZ:=Hd (show w3.ownsRow g 43 2 u3 _ _/\St W0 w3 from⟨own_lo hw3 (by omega),fm.grown hgr3 (fun k hk=>.inr (by have:=(hrm.lt k hk).1;omega))⟩)
      clear hrm hrm0 fm fm0 S Sd hap3 hw3 hgr3 hloc3 HM fx hWx
      go_wp2_with (first | (at_builtin;refine wpList_append_run rfl (.tmp 54) (.tmp 57) 33 rfl _ _ rfl rfl u3 w3 (uh HAP3) ?_) | fail)
      go_ret
      obtain⟨hw3,f3⟩:=uh HZ
      obtain⟨e1,e2⟩:=uh HE
      refine⟨_,rfl,?_,(uh HX).2.1.trans' f3 nE⟩
      rw[e1,e2,hg]
      exact hw3
     ·have hj':r=j:=by rw[hj,if_neg (fun e=>hx e.2)]
      subst hj'
      have hq:(p.1.toList == x.toList)=false:=by
       simp only[beq_eq_false_iff_ne,ne_eq,Lib.toList_data]
       exact fun e=>hx (bytes_ext e)
      clear hp ep hnl hx k2
      have HF:=Hd (ai hrow (ai fr (ai h o0)))
      clear h f0 o0 h1 h2 hj hrow fr
      go_wp2_with fail
      refine region_tailP 13 (by kernel_rfl) (by kernel_rfl) ?_
      simp only[List.take_succ_cons,List.take_zero,List.drop_succ_cons,List.drop_zero]
      repeat (go_big_quiet_step (fail))
      refine wpQuiet_nil ?_
      rintro _ ⟨nq,rfl⟩
      obtain⟨hrow,fr,h,o0⟩:=uh HF
      obtain⟨Wd,hWd⟩:∃Wd,wq.drewN nq=Wd:=⟨_,rfl⟩
      have fd:St wq Wd:=hWd▸(Fr.refl _ wq).drewN nq
      rw[hWd]
      have fWd:St W0 Wd:=fr.trans' fd nE
      replace c0:=fd.cell' c0 id
      replace c00:=fd.cell' c00 id
      obtain⟨W1,hW1⟩:∃W1,Wd.alloc (.cells #[.string x,.int .u64 (v:Nat)] 43)=W1:=⟨_,rfl⟩
      have f1:St Wd W1:=hW1▸(Fr.refl _ Wd).alloc _
      obtain⟨u',w2,hap,hw2,hgr,hloc⟩:=run_more elt_Q 33 (own_still (own_still hrow fd) f1) (sl_pair Wd W1 (x,v) hW1) (by omega) (by have:=fWd.size;have:=f1.size;omega)
      have fw2:St W0 w2:=(fWd.trans' f1 nE).grown hgr (fun k hk=>.inr (by have:=(hrow.lt k hk).1;omega))
      have HM:=Hd (show w2.ownsRow (g+1) 43 2 u' (r+1) (pcl (l.take r ++ [(x,v)]))/\St W0 w2/\Lf W0 _ c l from⟨by rw[pcl_app];exact hw2,fw2,h⟩)
      have c1':=fw2.cell' k1 id
      have c0':=fw2.cell' (cOo o0 0) id
      have HAP:=Hd hap;have HW1:=Hd hW1
      clear hap hw2 hgr hloc f1 fw2 hW1 fd fWd hWd hrow fr h o0 HF
      go_wp2_with (first | (at_builtin;rw[uh HW1];refine wpList_append_run rfl (.tmp 34) (.tmp 36) 33 rfl _ _ rfl rfl u' w2 (uh HAP) ?_) | fail)
      refine region_tailP 13 (by kernel_rfl) (by kernel_rfl) ?_
      simp only[List.take_succ_cons,List.take_zero,List.drop_succ_cons,List.drop_zero]
      repeat (go_big_quiet_step (fail))
      refine wpQuiet_nil ?_
      rintro _ ⟨nq2,rfl⟩
      obtain⟨Wx,hWx⟩:∃Wx,w2.drewN nq2=Wx:=⟨_,rfl⟩
      have fx:St w2 Wx:=hWx▸(Fr.refl _ w2).drewN nq2
      rw[hWx]
      obtain⟨hrm0,fm0,S⟩:=uh HM
      have hrm:=own_still hrm0 fx
      have fm:=fm0.trans' fx nE
      have Sd:=(S.still fm).drop _ hjn.1
      rw[pcl_drop] at Sd
      obtain⟨u3,w3,hap3,hw3,hgr3,hloc3⟩:=run_more elt_Q 33 hrm Sd (by omega) (by have:=fm.size;omega)
      have HAP3:=Hd hap3
      have HZ:=Hd (show w3.ownsRow g 43 2 u3 _ _/\St W0 w3 from⟨own_lo hw3 (by omega),fm.grown hgr3 (fun k hk=>.inr (by have:=(hrm.lt k hk).1;omega))⟩)
      clear hrm hrm0 fm fm0 S Sd hap3 hw3 hgr3 hloc3 HM fx hWx
      go_wp2_with (first | (at_builtin;refine wpList_append_run rfl (.tmp 54) (.tmp 57) 33 rfl _ _ rfl rfl u3 w3 (uh HAP3) ?_) | fail)
      go_ret
      obtain⟨hw3,f3⟩:=uh HZ
      obtain⟨e1,e2⟩:=uh HE
      refine⟨_,rfl,?_,(uh HX).2.1.trans' f3 nE⟩
      rw[e1,e2,hg]
      exact hw3
    ·have hj':r=j:=by rw[hj,if_neg (fun e=>hkl e.1)]
     subst hj'
     have hlt':((r:Int)<l.length)=False:=by simp;omega
     have HF:=Hd (ai hrow (ai fr (ai h o0)))
     clear h f0 o0 h1 h2 hj hrow fr
     go_wp2_with fail
     refine region_tailP 13 (by kernel_rfl) (by kernel_rfl) ?_
     simp only[List.take_succ_cons,List.take_zero,List.drop_succ_cons,List.drop_zero]
     repeat (go_big_quiet_step (fail))
     refine wpQuiet_nil ?_
     rintro _ ⟨nq,rfl⟩
     obtain⟨hrow,fr,h,o0⟩:=uh HF
     obtain⟨Wd,hWd⟩:∃Wd,wq.drewN nq=Wd:=⟨_,rfl⟩
     have fd:St wq Wd:=hWd▸(Fr.refl _ wq).drewN nq
     rw[hWd]
     have fWd:St W0 Wd:=fr.trans' fd nE
     replace c0:=fd.cell' c0 id
     replace c00:=fd.cell' c00 id
     obtain⟨W1,hW1⟩:∃W1,Wd.alloc (.cells #[.string x,.int .u64 (v:Nat)] 43)=W1:=⟨_,rfl⟩
     have f1:St Wd W1:=hW1▸(Fr.refl _ Wd).alloc _
     obtain⟨u',w2,hap,hw2,hgr,hloc⟩:=run_more elt_Q 33 (own_still (own_still hrow fd) f1) (sl_pair Wd W1 (x,v) hW1) (by omega) (by have:=fWd.size;have:=f1.size;omega)
     have fw2:St W0 w2:=(fWd.trans' f1 nE).grown hgr (fun k hk=>.inr (by have:=(hrow.lt k hk).1;omega))
     have HM:=Hd (show w2.ownsRow (g+1) 43 2 u' (r+1) (pcl (l.take r ++ [(x,v)]))/\St W0 w2/\Lf W0 _ c l from⟨by rw[pcl_app];exact hw2,fw2,h⟩)
     skip
     have c0':=fw2.cell' (cOo o0 0) id
     have HAP:=Hd hap;have HW1:=Hd hW1
     clear hap hw2 hgr hloc f1 fw2 hW1 fd fWd hWd hrow fr h o0 HF
     go_wp2_with (first | (at_builtin;rw[uh HW1];refine wpList_append_run rfl (.tmp 34) (.tmp 36) 33 rfl _ _ rfl rfl u' w2 (uh HAP) ?_) | fail)
     refine region_tailP 13 (by kernel_rfl) (by kernel_rfl) ?_
     simp only[List.take_succ_cons,List.take_zero,List.drop_succ_cons,List.drop_zero]
     repeat (go_big_quiet_step (fail))
     refine wpQuiet_nil ?_
     rintro _ ⟨nq2,rfl⟩
     obtain⟨Wx,hWx⟩:∃Wx,w2.drewN nq2=Wx:=⟨_,rfl⟩
     have fx:St w2 Wx:=hWx▸(Fr.refl _ w2).drewN nq2
     rw[hWx]
     obtain⟨hrm0,fm0,S⟩:=uh HM
     have hrm:=own_still hrm0 fx
     have fm:=fm0.trans' fx nE
     have Sd:=(S.still fm).drop _ hjn.1
     rw[pcl_drop] at Sd
     obtain⟨u3,w3,hap3,hw3,hgr3,hloc3⟩:=run_more elt_Q 33 hrm Sd (by omega) (by have:=fm.size;omega)
     have HAP3:=Hd hap3
     have HZ:=Hd (show w3.ownsRow g 43 2 u3 _ _/\St W0 w3 from⟨own_lo hw3 (by omega),fm.grown hgr3 (fun k hk=>.inr (by have:=(hrm.lt k hk).1;omega))⟩)
     clear hrm hrm0 fm fm0 S Sd hap3 hw3 hgr3 hloc3 HM fx hWx
     go_wp2_with (first | (at_builtin;refine wpList_append_run rfl (.tmp 54) (.tmp 57) 33 rfl _ _ rfl rfl u3 w3 (uh HAP3) ?_) | fail)
     go_ret
     obtain⟨hw3,f3⟩:=uh HZ
     obtain⟨e1,e2⟩:=uh HE
     refine⟨_,rfl,?_,(uh HX).2.1.trans' f3 nE⟩
     rw[e1,e2,hg]
     exact hw3
 ·go_enter Tryz.func31,Tryz.ntmps31
  go_wp2_with fail
  rw[uh HW0]
  go_loopw [7,8] (fun u iv wr=>∃r:Nat,r<=k/\iv = .int .i64 r/\wr.ownsRow (g+1) 43 2 u r (pcl (l.take r))/\St W0 wr) (fun _ iv _=>l.length - (intOf iv).toNat)
  case atStart=>exact⟨0,by omega,rfl,World.ownsRow_nil _ _ _ _,Fr.refl _ _⟩
  case round=>
   obtain⟨r,hrk,rfl,hrow,fr⟩:=hrel
   generalize wr=wq at *
   clear wr
   obtain⟨h,f0,o0,h1,h2,hj⟩:=uh HX
   have c0:wq.cell? ⟨g,0,none⟩=some (.string x):=fr.cell' (cOo o0 0) id
   have c00:wq.cell? ⟨g,1,none⟩=some (.int .u64 (v:Nat)):=fr.cell' (cOo o0 1) id
   by_cases hlt:r<k
   ·skip
    obtain⟨p,hp⟩:∃p,l[r]? = some p:=⟨_,List.getElem?_eq_getElem (by omega)⟩
    obtain⟨b,o,rfl,c1,c2⟩:=h.pair hp
    replace c1:=fr.cell' c1 id
    replace c2:=fr.cell' c2 id
    have lx:Op.bytesLess p.1.toList x.toList=true:=by
     rw[less_eq]
     exact decide_eq_true (by have:=h1 r hlt;simpa [List.getD,hp] using this)
    have hlt':((r:Int)<l.length)=True:=by simp;omega
    have HF:=Hd (ai hrow (ai fr hp))
    clear h f0 o0 h1 h2 hj hrow fr hp
    go_wp2_with fail
    refine region_tailP 13 (by kernel_rfl) (by kernel_rfl) ?_
    simp only[List.take_succ_cons,List.take_zero,List.drop_succ_cons,List.drop_zero]
    repeat (go_big_quiet_step (fail))
    refine wpQuiet_nil ?_
    rintro _ ⟨nq,rfl⟩
    obtain⟨hrow,fr,hp⟩:=uh HF
    obtain⟨Wd,hWd⟩:∃Wd,wq.drewN nq=Wd:=⟨_,rfl⟩
    have fd:St wq Wd:=hWd▸(Fr.refl _ wq).drewN nq
    rw[hWd]
    replace c1:=fd.cell' c1 id
    replace c2:=fd.cell' c2 id
    obtain⟨W1,hW1⟩:∃W1,Wd.alloc (.cells #[.string p.1,.int .u64 (p.2:Nat)] 43)=W1:=⟨_,rfl⟩
    have f1:St Wd W1:=hW1▸(Fr.refl _ Wd).alloc _
    obtain⟨u',w2,hap,hw2,hgr,hloc⟩:=run_more elt_Q 33 (own_still (own_still hrow fd) f1) (sl_pair Wd W1 p hW1) (by omega) (by have:=fr.size;have:=fd.size;have:=f1.size;omega)
    have ht:pcl (l.take (r+1))=pcl (l.take r) ++ pcl [p]:=by
     rw[List.take_add_one,hp,pcl_app];rfl
    have HZ:=Hd (show w2.ownsRow (g+1) 43 2 u' (r+1) (pcl (l.take (r+1)))/\St W0 w2 from⟨by rw[ht];exact hw2,((fr.trans' fd nE).trans' f1 nE).grown hgr (fun k hk=>.inr (by have:=(hrow.lt k hk).1;omega))⟩)
    have HAP:=Hd hap;have HW1:=Hd hW1
    clear hap hw2 hgr hloc ht f1 hW1 fd hWd hrow fr hp c0 c00 lx
    go_wp2_with (first | (at_builtin;rw[uh HW1];refine wpList_append_run rfl (.tmp 23) (.tmp 28) 33 rfl _ _ rfl rfl u' w2 (uh HAP) ?_) | fail)
    obtain⟨hw2,f2⟩:=uh HZ
    exact⟨⟨r+1,by omega,by simp,hw2,f2⟩,by simp[intOf];omega⟩
   ·skip
    have erk:r=k:=by omega
    subst erk
    by_cases hkl:r<l.length
    ·obtain⟨p,hp⟩:∃p,l[r]? = some p:=⟨_,List.getElem?_eq_getElem (by omega)⟩
     have ep:l.getD r default=p:=by simp[List.getD,hp]
     rw[ep] at hj
     have hnl:=h2 hkl
     rw[ep] at hnl
     have lx:Op.bytesLess p.1.toList x.toList=false:=by rw[less_eq];exact decide_eq_false hnl
     have hlt':((r:Int)<l.length)=True:=by simp;omega
     obtain⟨b,o,rfl,k1,k2⟩:=h.pair hp
     have c1:=fr.cell' k1 id
     by_cases hx:p.1=x
     ·have hj':j=r+1:=by rw[hj,if_pos ⟨hkl,hx⟩]
      subst hj'
      have sl:=fun w=>(show(Instr.slice 33 (.slice (some ⟨b,o,none⟩) l.length c) (some (.int .i64 ((r:Int)+1))) none none).run Tryz.prog w=_ from sf w)
      have hq:(p.1.toList == x.toList)=true:=by rw[hx];simp
      clear hp ep hnl hx k2 sf
      have HF:=Hd (ai hrow (ai fr (ai h o0)))
      clear h f0 o0 h1 h2 hj hrow fr
      go_wp2_with fail
      refine region_tailP 13 (by kernel_rfl) (by kernel_rfl) ?_
      simp only[List.take_succ_cons,List.take_zero,List.drop_succ_cons,List.drop_zero]
      repeat (go_big_quiet_step (fail))
      refine wpQuiet_nil ?_
      rintro _ ⟨nq,rfl⟩
      obtain⟨hrow,fr,h,o0⟩:=uh HF
      obtain⟨Wd,hWd⟩:∃Wd,wq.drewN nq=Wd:=⟨_,rfl⟩
      have fd:St wq Wd:=hWd▸(Fr.refl _ wq).drewN nq
      rw[hWd]
      have fWd:St W0 Wd:=fr.trans' fd nE
      have HM:=Hd (show Wd.ownsRow (g+1) 43 2 _ r (pcl (l.take r ++ []))/\St W0 Wd/\Lf W0 _ c l from⟨by rw[List.append_nil];exact own_still hrow fd,fWd,h⟩)
      have c1':=fWd.cell' k1 id
      have c0':=fWd.cell' (cOo o0 0) id
      clear fd fWd hWd hrow fr h o0 HF c00
      go_wp2_with fail
      refine region_tailP 13 (by kernel_rfl) (by kernel_rfl) ?_
      simp only[List.take_succ_cons,List.take_zero,List.drop_succ_cons,List.drop_zero]
      repeat (go_big_quiet_step (fail))
      refine wpQuiet_nil ?_
      rintro _ ⟨nq2,rfl⟩
      obtain⟨Wx,hWx⟩:∃Wx,Wd.drewN nq2=Wx:=⟨_,rfl⟩
      have fx:St Wd Wx:=hWx▸(Fr.refl _ Wd).drewN nq2
      rw[hWx]
      obtain⟨hrm0,fm0,S⟩:=uh HM
      have hrm:=own_still hrm0 fx
      have fm:=fm0.trans' fx nE
      have Sd:=(S.still fm).drop _ hjn.1
      rw[pcl_drop] at Sd
      obtain⟨u3,w3,hap3,hw3,hgr3,hloc3⟩:=run_more elt_Q 33 hrm Sd (by omega) (by have:=fm.size;omega)
      have HAP3:=Hd hap3
      have HZ:=Hd (show w3.ownsRow g 43 2 u3 _ _/\St W0 w3 from⟨own_lo hw3 (by omega),fm.grown hgr3 (fun k hk=>.inr (by have:=(hrm.lt k hk).1;omega))⟩)
      clear hrm hrm0 fm fm0 S Sd hap3 hw3 hgr3 hloc3 HM fx hWx
      go_wp2_with (first | (at_builtin;refine wpList_append_run rfl (.tmp 54) (.tmp 57) 33 rfl _ _ rfl rfl u3 w3 (uh HAP3) ?_) | fail)
      go_ret
      obtain⟨hw3,f3⟩:=uh HZ
      obtain⟨e1,e2⟩:=uh HE
      refine⟨_,rfl,?_,(uh HX).2.1.trans' f3 nE⟩
      rw[e1,e2,hg]
      exact hw3
     ·have hj':r=j:=by rw[hj,if_neg (fun e=>hx e.2)]
      subst hj'
      have hq:(p.1.toList == x.toList)=false:=by
       simp only[beq_eq_false_iff_ne,ne_eq,Lib.toList_data]
       exact fun e=>hx (bytes_ext e)
      clear hp ep hnl hx k2
      have HF:=Hd (ai hrow (ai fr (ai h o0)))
      clear h f0 o0 h1 h2 hj hrow fr
      go_wp2_with fail
      refine region_tailP 13 (by kernel_rfl) (by kernel_rfl) ?_
      simp only[List.take_succ_cons,List.take_zero,List.drop_succ_cons,List.drop_zero]
      repeat (go_big_quiet_step (fail))
      refine wpQuiet_nil ?_
      rintro _ ⟨nq,rfl⟩
      obtain⟨hrow,fr,h,o0⟩:=uh HF
      obtain⟨Wd,hWd⟩:∃Wd,wq.drewN nq=Wd:=⟨_,rfl⟩
      have fd:St wq Wd:=hWd▸(Fr.refl _ wq).drewN nq
      rw[hWd]
      have fWd:St W0 Wd:=fr.trans' fd nE
      have HM:=Hd (show Wd.ownsRow (g+1) 43 2 _ r (pcl (l.take r ++ []))/\St W0 Wd/\Lf W0 _ c l from⟨by rw[List.append_nil];exact own_still hrow fd,fWd,h⟩)
      have c1':=fWd.cell' k1 id
      have c0':=fWd.cell' (cOo o0 0) id
      clear fd fWd hWd hrow fr h o0 HF c00
      go_wp2_with fail
      refine region_tailP 13 (by kernel_rfl) (by kernel_rfl) ?_
      simp only[List.take_succ_cons,List.take_zero,List.drop_succ_cons,List.drop_zero]
      repeat (go_big_quiet_step (fail))
      refine wpQuiet_nil ?_
      rintro _ ⟨nq2,rfl⟩
      obtain⟨Wx,hWx⟩:∃Wx,Wd.drewN nq2=Wx:=⟨_,rfl⟩
      have fx:St Wd Wx:=hWx▸(Fr.refl _ Wd).drewN nq2
      rw[hWx]
      obtain⟨hrm0,fm0,S⟩:=uh HM
      have hrm:=own_still hrm0 fx
      have fm:=fm0.trans' fx nE
      have Sd:=(S.still fm).drop _ hjn.1
      rw[pcl_drop] at Sd
      obtain⟨u3,w3,hap3,hw3,hgr3,hloc3⟩:=run_more elt_Q 33 hrm Sd (by omega) (by have:=fm.size;omega)
      have HAP3:=Hd hap3
      have HZ:=Hd (show w3.ownsRow g 43 2 u3 _ _/\St W0 w3 from⟨own_lo hw3 (by omega),fm.grown hgr3 (fun k hk=>.inr (by have:=(hrm.lt k hk).1;omega))⟩)
      clear hrm hrm0 fm fm0 S Sd hap3 hw3 hgr3 hloc3 HM fx hWx
      go_wp2_with (first | (at_builtin;refine wpList_append_run rfl (.tmp 54) (.tmp 57) 33 rfl _ _ rfl rfl u3 w3 (uh HAP3) ?_) | fail)
      go_ret
      obtain⟨hw3,f3⟩:=uh HZ
      obtain⟨e1,e2⟩:=uh HE
      refine⟨_,rfl,?_,(uh HX).2.1.trans' f3 nE⟩
      rw[e1,e2,hg]
      exact hw3
    ·have hj':r=j:=by rw[hj,if_neg (fun e=>hkl e.1)]
     subst hj'
     have hlt':((r:Int)<l.length)=False:=by simp;omega
     have HF:=Hd (ai hrow (ai fr (ai h o0)))
     clear h f0 o0 h1 h2 hj hrow fr
     go_wp2_with fail
     refine region_tailP 13 (by kernel_rfl) (by kernel_rfl) ?_
     simp only[List.take_succ_cons,List.take_zero,List.drop_succ_cons,List.drop_zero]
     repeat (go_big_quiet_step (fail))
     refine wpQuiet_nil ?_
     rintro _ ⟨nq,rfl⟩
     obtain⟨hrow,fr,h,o0⟩:=uh HF
     obtain⟨Wd,hWd⟩:∃Wd,wq.drewN nq=Wd:=⟨_,rfl⟩
     have fd:St wq Wd:=hWd▸(Fr.refl _ wq).drewN nq
     rw[hWd]
     have fWd:St W0 Wd:=fr.trans' fd nE
     have HM:=Hd (show Wd.ownsRow (g+1) 43 2 _ r (pcl (l.take r ++ []))/\St W0 Wd/\Lf W0 _ c l from⟨by rw[List.append_nil];exact own_still hrow fd,fWd,h⟩)
     skip
     have c0':=fWd.cell' (cOo o0 0) id
     clear fd fWd hWd hrow fr h o0 HF c00
     go_wp2_with fail
     refine region_tailP 13 (by kernel_rfl) (by kernel_rfl) ?_
     simp only[List.take_succ_cons,List.take_zero,List.drop_succ_cons,List.drop_zero]
     repeat (go_big_quiet_step (fail))
     refine wpQuiet_nil ?_
     rintro _ ⟨nq2,rfl⟩
     obtain⟨Wx,hWx⟩:∃Wx,Wd.drewN nq2=Wx:=⟨_,rfl⟩
     have fx:St Wd Wx:=hWx▸(Fr.refl _ Wd).drewN nq2
     rw[hWx]
     obtain⟨hrm0,fm0,S⟩:=uh HM
     have hrm:=own_still hrm0 fx
     have fm:=fm0.trans' fx nE
     have Sd:=(S.still fm).drop _ hjn.1
     rw[pcl_drop] at Sd
     obtain⟨u3,w3,hap3,hw3,hgr3,hloc3⟩:=run_more elt_Q 33 hrm Sd (by omega) (by have:=fm.size;omega)
     have HAP3:=Hd hap3
     have HZ:=Hd (show w3.ownsRow g 43 2 u3 _ _/\St W0 w3 from⟨own_lo hw3 (by omega),fm.grown hgr3 (fun k hk=>.inr (by have:=(hrm.lt k hk).1;omega))⟩)
     clear hrm hrm0 fm fm0 S Sd hap3 hw3 hgr3 hloc3 HM fx hWx
     go_wp2_with (first | (at_builtin;refine wpList_append_run rfl (.tmp 54) (.tmp 57) 33 rfl _ _ rfl rfl u3 w3 (uh HAP3) ?_) | fail)
     go_ret
     obtain⟨hw3,f3⟩:=uh HZ
     obtain⟨e1,e2⟩:=uh HE
     refine⟨_,rfl,?_,(uh HX).2.1.trans' f3 nE⟩
     rw[e1,e2,hg]
     exact hw3
set_option maxRecDepth 100000 in
theorem l11_same (a b:Option Addr) (c d:Nat) (l:List Pr) (w:World) (h:Lf w a c l) (h':Lf w b d l) (hl:l.length<=100000) :
  Calls Tryz.prog 32 #[.slice a l.length c,.slice b l.length d] w fun e w'=>e = .returned (.bool true)/\St w w':=by
 have e2:=ne_self
 have HX:=Hd (ai h h')
 clear h h'
 go_enter Tryz.func32,Tryz.ntmps32
 go_wp2_with fail
 go_loopw [5] (fun iv wr=>∃r:Nat,r<=l.length/\iv = .int .i64 r/\St w wr) (fun iv _=>l.length - (intOf iv).toNat)
 case atStart=>exact⟨0,by omega,rfl,Fr.refl _ _⟩
 case round=>
  obtain⟨r,hrk,rfl,fr⟩:=hrel
  generalize wr=wq at *
  clear wr
  obtain⟨h,h'⟩:=uh HX
  by_cases hlt:r<l.length
  ·obtain⟨p,hp⟩:∃p,l[r]? = some p:=⟨_,List.getElem?_eq_getElem (by omega)⟩
   obtain⟨b1,o1,rfl,c1,c2⟩:=h.pair hp
   obtain⟨b2,o2,rfl,d1,d2⟩:=h'.pair hp
   replace c1:=fr.cell' c1 id
   replace c2:=fr.cell' c2 id
   replace d1:=fr.cell' d1 id
   replace d2:=fr.cell' d2 id
   have hlt':((r:Int)<l.length)=True:=by simp;omega
   have HF:=Hd fr
   clear h h' fr hp
   go_wp2_with fail
   go_quiet (fail)
   go_wp2_with fail
   exact⟨⟨r+1,by omega,by simp,(uh HF).drewN _⟩,by simp[intOf];omega⟩
  ·have e:r=l.length:=by omega
   subst e
   have hlt':((l.length:Int)<l.length)=False:=by simp
   clear h h'
   go_wp2_with fail
   go_ret
   exact⟨rfl,fr⟩
theorem rgP_none (L:List Pr) (x hi:ByteArray) (n:Int) (h:n<1):rgP L x hi n = []:=by
 unfold rgP
 rw[show n.toNat=0 by omega,List.take_zero]
attribute [local go_sem] Oper.semAt_some
set_option maxRecDepth 100000 in
theorem y_Range0 (sb r:Nat) (x hi:ByteArray) (n:Int) (hn:n<1) (w:World) :
  Calls Tryz.prog 14 #[ptr sb,.int .u64 (r:Nat),.string x,.string hi,.int .i64 n] w fun e w'=>e = .returned (.slice none 0 0)/\St w w':=by
 have hn1:(n<1)=True:=by simp;omega
 refine calls_of_wpOf Tryz.func14 rfl ?_
 simp only[Tryz.ntmps14,List.size_toArray,List.length_cons,List.length_nil,Nat.reduceAdd,Nat.reduceSub,Array.replicate_succ,Array.replicate_zero,List.push_toArray,List.append_toArray,List.nil_append,List.cons_append]
 refine wpOf_seq (wpOf_of_wp ?_)
 go_wp2
 show wpOf _ _ _ _ _ _
 refine wpOf_seq (wpOf_of_wp ?_)
 go_wp2
 exact⟨.slice none 0 0,results_tmp Tryz.results14 _ _ _,rfl,((Fr.refl _ w).alloc _).alloc _⟩
theorem y_RangeA {nu sz:Nat} {hb sb b:Nat} {T:Tay} {A:Ab} {P:List (Int×Int)} {w:World} (h:Hp nu sz w hb sb b T A P) {r:Nat} {L:List Pr} {Q:List Nat} (rt:Rt nu sz (says P A) r L Q) (ri:Rise L) (pk:Pok L) (x hi:ByteArray) (n:Int) (hL:L.length<=100000) :
  Calls Tryz.prog 14 #[ptr sb,.int .u64 (r:Nat),.string x,.string hi,.int .i64 n] w fun e w'=>∃va vc,e = .returned (.slice va (rgP L x hi n).length vc)/\Lf w' va vc (rgP L x hi n)/\St w w':=by
 by_cases hn:n<1
 ·refine(y_Range0 sb r x hi n hn w).mono ?_
  rintro e w' ⟨rfl,f⟩
  rw[rgP_none L x hi n hn]
  exact⟨none,0,rfl,sl_of_row (World.ownsRow_nil _ 0 43 _) pcl_one,f⟩
 ·refine(y_Range h rt ri pk x hi n (by omega) hL).mono ?_
  rintro e w' ⟨v,rfl,row,f⟩
  obtain⟨va,vc,rfl⟩:∃va vc,v = .slice va (rgP L x hi n).length vc:=by
   rcases row.2 with ⟨e,h0⟩ | ⟨gg,cap,_,e,_⟩
   ·exact⟨none,0,by rw[e,h0]⟩
   ·exact⟨_,cap,e⟩
  exact⟨va,vc,rfl,sl_of_row row pcl_one,f⟩
end Go.Proofs.YtbiopjmpdhcjgaaGreatDoor
