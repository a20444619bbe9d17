/- Joined: Kd Kl Kf Kh. -/
import Derived.Test.YtbiopjmpdhcjgaaGreatDoorS14
import Derived.Test.YtbiopjmpdhcjgaaGreatDoorS29
namespace Go.Proofs.YtbiopjmpdhcjgaaGreatDoor
open Go.RowKit
set_option maxHeartbeats 4000000

section
theorem Fr.box (w:World) (r:Nat) (v:Value):Fr (fun k=>k=r) w (w.setCell ⟨r,0,none⟩ v):=(Fr.refl (fun k=>k=r) w).setCell (.inl rfl) v
def awL:List Pr:=[(⟨#[97]⟩,1),(⟨#[98]⟩,2)]
theorem awL_is:putP (putP [] ⟨#[98]⟩ 2) ⟨#[97]⟩ 1=awL:=by
 have h1:¬ltK ⟨#[98]⟩ ⟨#[97]⟩:=by decide
 have h2:¬(⟨#[98]⟩:ByteArray)=⟨#[97]⟩:=by decide
 simp[putP,h1,h2,awL]
theorem awG_is:getP awL ⟨#[98]⟩=some 2:=by
 have h2:¬(⟨#[97]⟩:ByteArray)=⟨#[98]⟩:=by decide
 simp[getP,awL,h2]
theorem rowp_form {w:World} {lo n:Nat} {v:Value} {xs:List Value} (h:w.ownsRow lo 43 2 v n xs):(v = .slice none 0 0/\n=0)\/∃g cap,v = .slice (some ⟨g,0,none⟩) n cap:=by
 rcases h.2 with ⟨e,h0⟩ | ⟨g,cap,_,e,_⟩
 ·exact .inl ⟨e,h0⟩
 ·exact .inr ⟨g,cap,e⟩
section
variable {nu sz:Nat} {w w' w0:World} {hb sb b bs bh bl bo:Nat} {T:Tay} {A:Ab} {P:List (Int×Int)} {v1 v2:Value}
set_option maxRecDepth 20000 in
theorem awC11 (h:Hp nu sz w hb sb b T A P) (s:HpS nu (says P A)) (ak:ask nu (says P A)=fun _=>0) (hP:P.length+4600<=6144) (hnu:60<nu / 4)
  (cs:w.cell? ⟨bs,0,none⟩=some (ptr sb)) (ch:w.cell? ⟨bh,0,none⟩=some (ptr hb)) (Bl:Box w bl v1) (Bo:Box w bo v2) (nt:∀k,k=bs\/k=bh\/k=bl\/k=bo->¬tfoot sb b T k)
  (ne:bs≠bl/\bs≠bo/\bl≠bo/\hb≠bl/\0≠bl) :
  Calls Tryz.prog 62 #[ptr bs,ptr bh,ptr bl,ptr bo] w fun e w'=>e = .returned (.tuple #[])/\∃T' P' v,OnxX (fun k=>k=bl\/k=bo) w sb b T w' T' sz A P' false/\Box w' bl v/\Box w' bo (.bool true)/\w'.ownsRow w.heap.size 43 2 v 2 (pcl awL)/\(∀k,v.ownBlock=some k->¬tfoot sb b T' k)/\¬tfoot sb b T' bl/\¬tfoot sb b T' bo:=by
 have fD:St w w.drew:=(Fr.refl _ w).drewN 1
 have low0:∀u,ask nu (says P A) u<=32:=fun u=>by rw[ak];exact Nat.zero_le _
 have c0:cnt nu (ask nu (says P A))=0:=by rw[ak,cnt_none]
 have PUT1:Calls Tryz.prog 11 #[ptr sb,ptr hb,.int .u64 0,.string ⟨#[98]⟩,.int .u64 2] w.drew _:=y_Put (h.still fD) s (r:=0) (l:=[]) (Q:=[]) (.inl ⟨rfl,rfl,rfl⟩) (fun p hp=>by cases hp) List.Pairwise.nil (by simp) ⟨#[98]⟩ 2 (by decide) (by omega) (by omega) (by omega) low0
 have lbs:bs<w.heap.size:=World.block_lt_of_cell? _ _ cs
 have lbh:bh<w.heap.size:=World.block_lt_of_cell? _ _ ch
 have lbl:=Bl.lt;have lbo:=Bo.lt
 have HP1:=Hd PUT1
 have HX:=Hd (ai h (ai fD (ai hP (ai low0 (ai c0 (ai hnu (ai Bl Bo)))))));have HNT:=@Hd _ nt
 clear PUT1 h fD low0 c0 hP hnu s ak Bl Bo nt
 go_enter Tryz.func62,Tryz.ntmps62
 go_wp2_with fail
 refine wp_region_held_drew (S:=fun w'=>w'.cell? ⟨bs,0,none⟩=some (ptr sb)/\w'.cell? ⟨bh,0,none⟩=some (ptr hb)) (by kernel_rfl) ⟨cs,ch⟩ (fun hHeld=>?_)
 refine tkO 0 ?_ hHeld rfl ?_ ?_
 rotate_left
 ·intro w q;go_simp;try with_reducible rfl
 simp only[apt,List.set]
 refine tkO 1 ?_ hHeld rfl ?_ ?_
 rotate_left
 ·intro w q;go_simp;try with_reducible rfl
 simp only[apt,List.set]
 refine tkO 2 ?_ hHeld rfl ?_ ?_
 rotate_left
 ·intro w q;go_simp;try with_reducible rfl
 simp only[apt,List.set]
 refine tkO 3 ?_ hHeld rfl ?_ ?_
 rotate_left
 ·intro w q;go_simp;try with_reducible rfl
 simp only[apt,List.set]
 refine rdO 4 rfl (fun K hK=>?_)
 go_simp
 go_wp2_with fail
 refine(uh HP1).mono ?_
 clear HP1
 rintro e w2 ⟨r1,rfl,T2,P2,Q1,k1,hk1,o2,l2,ch2,hr1,rt1⟩
 obtain⟨h,fD,hP,low0,c0,hnu,Bl,Bo⟩:=uh HX
 have h2:=(h.still fD).call o2
 have o02:Onx w sb b T w2 T2 sz A P2 false:=o2.after fD
 have few2:=ch2.few
 have PUT2:=y_Put h2 ch2.st rt1 (fun p hp=>by rcases putP_mem hp with rfl | hp;exact⟨by decide,by decide⟩;cases hp) (putP_rise List.Pairwise.nil) (by simp[putP]) ⟨#[97]⟩ 1 (by decide) (by omega) (by omega) (by omega) (ch2.low low0)
 have cs2:w2.cell? ⟨bs,0,none⟩=some (ptr sb):=o02.fr.cell' cs (uh HNT bs (by simp))
 have ch2':w2.cell? ⟨bh,0,none⟩=some (ptr hb):=o02.fr.cell' ch (uh HNT bh (by simp))
 have HP2:=Hd PUT2
 have HX2:=Hd (ai h2 (ai o02 (ai ch2 (ai rt1 (ai Bl Bo)))))
 clear PUT2 h fD hP low0 c0 hnu h2 o02 o2 ch2 rt1 few2 l2 Bl Bo HX hr1 hk1
 refine hK.out _ _ ⟨cs2,ch2'⟩ (fun _=>?_)
 clear hK K
 refine rdO 5 rfl (fun K hK=>?_)
 go_simp
 go_wp2_with fail
 refine(uh HP2).mono ?_
 clear HP2
 rintro e w3 ⟨r2,rfl,T3,P3,Q2,k2,hk2,o3,l3,ch3,hr2,rt2⟩
 rw[awL_is] at rt2
 obtain⟨h2,o02,ch2,rt1,Bl,Bo⟩:=uh HX2
 have h3:=h2.call o3
 have o03:Onx w sb b T w3 T3 sz A P3 false:=o02.trans o3
 have nt3:∀k,k=bs\/k=bh\/k=bl\/k=bo->¬tfoot sb b T3 k:=fun k hk=>o03.other (by rcases hk with rfl | rfl | rfl | rfl <;> assumption) (uh HNT k hk)
 have cs3:w3.cell? ⟨bs,0,none⟩=some (ptr sb):=o03.fr.cell' cs (uh HNT bs (by simp))
 have ch3':w3.cell? ⟨bh,0,none⟩=some (ptr hb):=o03.fr.cell' ch (uh HNT bh (by simp))
 have Bl3:=Bl.kept o03.fr (uh HNT bl (by simp));have Bo3:=Bo.kept o03.fr (uh HNT bo (by simp))
 have riL:Rise awL:=awL_is▸putP_rise (putP_rise List.Pairwise.nil)
 have pkL:Pok awL:=fun p hp=>by
  rcases List.mem_cons.1 hp with rfl | hp
  ·exact⟨by decide,by decide⟩
  ·rw[List.mem_singleton.1 hp];exact⟨by decide,by decide⟩
 have RG:=y_Range h3 rt2 riL pkL ⟨#[]⟩ ⟨#[]⟩ 9 (by omega) (by decide)
 rw[rgP_all (show((awL.length:Nat):Int)<=9 by decide)] at RG
 have GT:∀w4,Fr (fun k=>k=bl) w3 w4->Calls Tryz.prog 17 #[ptr sb,.int .u64 (r2:Nat),.string ⟨#[98]⟩] w4 fun e w'=>e = .returned (.tuple #[.int .u64 2,.bool true])/\St w4 w':=fun w4 f4=>by
  have:=y_Get (h3.turn f4 (fun k hk=>by rw[hk];exact nt3 bl (by simp)) (fun e=>ne.2.2.2.1 e) (fun e=>ne.2.2.2.2 e)) rt2 riL ⟨#[98]⟩
  rw[awG_is] at this
  exact this
 have LN:∀w4,Fr (fun k=>k=bl) w3 w4->Calls Tryz.prog 15 #[ptr sb,.int .u64 (r2:Nat)] w4 fun e w'=>e = .returned (.int .i64 2)/\St w4 w':=fun w4 f4=>y_Len (h3.turn f4 (fun k hk=>by rw[hk];exact nt3 bl (by simp)) (fun e=>ne.2.2.2.1 e) (fun e=>ne.2.2.2.2 e)) rt2 (by decide)
 have HRG:=Hd RG;have HGT:=@Hd _ GT;have HLN:=@Hd _ LN
 have HY:=Hd (ai o03 (ai nt3 (ai Bl3 Bo3)))
 have lz:=o03.fr.size
 have ht3:∀k,tfoot sb b T3 k->k<w3.heap.size:=h3.st.lt
 have HT3:=@Hd _ ht3
 clear RG GT LN h2 o02 ch2 rt1 Bl Bo h3 o03 o3 ch3 rt2 nt3 Bl3 Bo3 riL pkL HX2 HNT l3 hr2 hk2 cs2 ch2' ht3
 refine hK.out _ _ ⟨cs3,ch3'⟩ (fun _=>?_)
 clear hK K hHeld cs ch
 refine rdO 6 rfl (fun K hK=>?_)
 go_simp
 refine hK.out _ _ ⟨cs3,ch3'⟩ (fun _=>?_)
 clear hK K
 refine wpAnyH_done (by kernel_rfl) ?_ _
 go_wp2_with fail
 refine(uh HRG).mono ?_
 clear HRG
 rintro e w4 ⟨v,rfl,rv,f4⟩
 obtain⟨o03,nt3,Bl3,Bo3⟩:=uh HY
 have Bl4:=Bl3.kept f4 id
 have c4:=Bl4.c;have z4:=Bl4.z
 have HB4:=Hd (ai Bl4 rv);have HF4:=Hd f4
 obtain⟨g,cap,ev⟩:∃g cap,v = .slice (some ⟨g,0,none⟩) 2 cap:=by
  rcases rowp_form rv with ⟨_,h0⟩ | ⟨g,cap,e⟩
  ·exact absurd h0 (by decide)
  ·exact⟨g,cap,e⟩
 obtain⟨W5,hW5⟩:∃W5,w4.setCell ⟨bl,0,none⟩ v=W5:=⟨_,rfl⟩
 have f5:Fr (fun k=>k=bl) w4 W5:=hW5▸Fr.box w4 bl _
 have f35:Fr (fun k=>k=bl) w3 W5:=(f4.mono nE).trans' f5 (fun _ hk=>.inl hk)
 have Bl5:Box W5 bl v:=hW5▸Bl4.set _
 have cs5:W5.cell? ⟨bs,0,none⟩=some (ptr sb):=f35.cell' cs3 ne.1
 have rv5:W5.ownsRow w3.heap.size 43 2 v awL.length (pcl awL):=row_kept rv f5 (fun k hk e=>by have:=(rv.lt k hk).1;have:=Bl3.lt;have e:k=bl:=e;omega)
 have GT5:=uh HGT W5 f35
 have HX5:=Hd (ai o03 (ai nt3 (ai Bo3 (ai f35 (ai Bl5 rv5)))));have HW5:=Hd hW5;have HG5:=Hd GT5
 rw[<-hW5,ev] at cs5
 clear o03 nt3 Bl3 Bo3 Bl4 rv f4 GT5 f5 f35 Bl5 rv5 HB4 HF4 HY HGT hW5
 subst ev
 go_wp2_with fail
 rw[uh HW5]
 refine(uh HG5).mono ?_
 clear HG5
 rintro e w6 ⟨rfl,f6⟩
 obtain⟨o03,nt3,Bo3,f35,Bl5,rv5⟩:=uh HX5
 have f36:Fr (fun k=>k=bl) w3 w6:=f35.trans' f6 nE
 have Bo6:Box w6 bo v2:=Bo3.kept f36 (fun e=>ne.2.2.1 e.symm)
 have Bl6:=Bl5.kept f6 id
 have cs6:w6.cell? ⟨bs,0,none⟩=some (ptr sb):=f36.cell' cs3 ne.1
 have LN6:=uh HLN w6 f36
 have HL6:=Hd LN6;have HX6:=Hd (ai f36 (ai Bo6 (ai Bl6 (own_still rv5 f6))))
 clear o03 nt3 Bo3 f35 Bl5 rv5 f6 f36 Bo6 Bl6 LN6 HLN cs5 c4 z4
 go_wp2_with fail
 refine(uh HL6).mono ?_
 clear HL6
 rintro e w7 ⟨rfl,f7⟩
 obtain⟨f36,Bo6,Bl6,rv6⟩:=uh HX6
 obtain⟨o03,nt3,-⟩:=uh HX5
 have Bo7:=Bo6.kept f7 id
 have c7:=Bo7.c;have z7:=Bo7.z
 obtain⟨W8,hW8⟩:∃W8,w7.setCell ⟨bo,0,none⟩ (.bool true)=W8:=⟨_,rfl⟩
 have f8:Fr (fun k=>k=bo) w7 W8:=hW8▸Fr.box w7 bo _
 have Bo8:Box W8 bo (.bool true):=hW8▸Bo7.set _
 have HE:=Hd (show ∃T' P' v,OnxX (fun k=>k=bl\/k=bo) w sb b T W8 T' sz A P' false/\Box W8 bl v/\Box W8 bo (.bool true)/\W8.ownsRow w.heap.size 43 2 v 2 (pcl awL)/\(∀k,v.ownBlock=some k->¬tfoot sb b T' k)/\¬tfoot sb b T' bl/\¬tfoot sb b T' bo from by
  have rv7:=own_still rv6 f7
  have lo3:bo<w3.heap.size:=Nat.lt_of_lt_of_le lbo lz
  refine⟨T3,P3,_,(((OnxX.of o03).var (f36.trans' f7 nE) (fun k hk=>.inl hk) (fun k hk=>by rw[hk];exact nt3 bl (by simp)))).var f8 (fun k hk=>.inr hk) (fun k hk=>by rw[hk];exact nt3 bo (by simp)),(Bl6.kept f7 id).kept f8 (fun e=>ne.2.2.1 e),Bo8,row_lo (row_kept rv7 f8 (fun k hk e=>by have:=(rv7.lt k hk).1;have e:k=bo:=e;omega)) lz,fun k hk ht=>by have:=(rv7.lt k hk).1;have:=uh HT3 k ht;omega,nt3 bl (by simp),nt3 bo (by simp)⟩)
 have HW8:=Hd hW8
 clear o03 nt3 f36 Bo6 Bl6 rv6 Bo7 hW8 f8 Bo8 f7 HX5 HX6
 go_wp2_with fail
 rw[uh HW8]
 go_end0
 exact⟨rfl,uh HE⟩
end
end

section
theorem law_open (n N:Nat) (hn:N * 8=12400+n) (hn0:0<n) (hN:N<=8192) (w:World) :
  Calls Tryz.prog 38 #[.int .i64 ((N:Int) * 8)] w fun e w'=>∃b sb T A,e = .returned (.tuple #[ptr b,ptr sb])/\Opd w b sb n T A w':=by
 have K:=new_any N (by omega) hN w
 have HK:=Hd K
 have h1:=eq_nil_dev
 clear K
 go_enter Tryz.func38,Tryz.ntmps38
 go_wp2_with fail
 refine(uh HK).mono ?_
 clear HK
 unfold NewOk
 rintro e w1 ⟨rfl,L,d,f,nw⟩
 have K2:=open_new n N hn hn0 w d f nw
 have HK:=Hd K2
 clear K2 d f nw
 go_wp2_with fail
 refine(uh HK).mono ?_
 clear HK
 rintro e w2 ⟨sb,T,A,rfl,o⟩
 have HO:=Hd o
 clear o
 go_wp2
 go_ret2
 exact⟨_,sb,T,A,rfl,uh HO⟩
section
variable {nu sz:Nat}
set_option maxRecDepth 20000 in
theorem l8_open (G:Geo nu sz) {N:Nat} (hN8:N * 8=12400+sz) (w:World) (tab:TabL w):Calls Tryz.prog 8 #[.int .i64 ((N:Int) * 8)] w fun e w'=>∃b sb hb T A base,e = .returned (.tuple #[ptr b,ptr sb,ptr hb])/\HpC nu sz w (fun k=>k=hb) w' hb sb b T A N True 43021 base/\NewH nu (rb base):=by
 obtain⟨g1,g2,g3,g4,g5,g6⟩:=G.b
 have K:Calls Tryz.prog 38 #[.int .i64 ((N:Int) * 8)] w _:=law_open sz N hN8 (by omega) (by omega) w
 have l0:0<w.heap.size:=World.block_lt_of_cell? _ _ (tab 0 (by omega))
 have h1:=eq_nil_stor
 have HK:=Hd K;have HT:=Hd tab
 clear K tab
 go_enter Tryz.func8,Tryz.ntmps8
 go_wp2_with fail
 refine(uh HK).mono ?_
 clear HK
 rintro e w1 ⟨b,sb,T,A,rfl,o⟩
 obtain⟨N',f,hN,c,k⟩:=o.calm
 have hN':N'=N:=by omega
 subst hN'
 have tab1:TabL w1:=fun j hj=>o.fr.cell' (uh HT j hj) id
 have OP:=h_open_by (R:=fun P'=>Began nu (says [] A) (says P' A)) G o.st c k tab1 (fun ht=>by have:=o.new 0 ht;omega) (by omega) (fun w2 hb bx hp bc=>(h_openC_new hp (by simp) (fun i hi=>by
  rw[says_base c k []];rfl) bc).mono (by
  rintro e w3 ⟨rfl,g,⟨T',P',o',eg,-⟩,bg⟩
  subst eg
  exact⟨rfl,T',P',o',bg⟩))
 have HOP:=Hd OP;have HO:=Hd o;have HC:=Hd (ai c k)
 clear OP o c k tab1
 go_wp2_with fail
 refine(uh HOP).mono ?_
 clear HOP
 rintro e w2 (⟨hb,P',T',A',rfl,lh,hl,bg,o2,nh,f',c',k'⟩ | ⟨_,_,_,_,_,_,hg,_⟩)
 ·have HX:=Hd (ai lh (ai hl (ai bg (ai o2 (ai nh (ai c' k'))))))
  clear lh hl bg o2 nh c' k'
  go_wp2
  go_ret3
  obtain⟨lh,hl,bg,o2,nh,c',k'⟩:=uh HX
  have o:=uh HO
  refine⟨b,sb,hb,T',A',homed P' (fun _=>0),rfl,⟨⟨o2.st,o.fr.trans' o2.fr (fun k hk=>.inr (o.new k hk)),fun k hk=>(o2.sub k hk).elim (o.new k) (fun x=>Nat.le_trans o.fr.size x),fun k hk=>by subst hk;exact nh,fun k hk=>by subst hk;exact⟨Nat.le_trans o.fr.size lh,World.block_lt_of_cell? _ _ hl.c0⟩⟩,⟨f',c',k'⟩,hl,rfl,l0⟩,?_⟩
  rw[<-says_base (uh HC).1 (uh HC).2 P']
  exact⟨bg.st,bg.ak,bg.root⟩
 ·exact absurd trivial hg
end
end
def AwY (lo bl bo:Nat) (Y:Nat->Prop) (h:How) (_P:List (Int×Int)) (w':World):Prop:=
 h = .well/\∃v,(Y bl/\Y bo/\∀k,v.ownBlock=some k->Y k)/\Box w' bl v/\Box w' bo (.bool true)/\w'.ownsRow lo 43 2 v 2 (pcl awL)
theorem AwY_stays (lo bl bo:Nat):StaysY (AwY lo bl bo):=by
 rintro Y h P w w' F ⟨q,v,⟨y1,y2,y3⟩,b1,b2,r⟩ hf hn
 exact⟨q,v,⟨y1,y2,y3⟩,b1.kept hf (hn bl y1),b2.kept hf (hn bo y2),row_kept r hf (fun k hk=>hn k (y3 k hk))⟩
theorem eq_pair (w:World):(binOp .eql 43 (.agg #[.string ⟨#[97]⟩,.int .u64 1]) (.agg #[.string ⟨#[97]⟩,.int .u64 1])).run Tryz.prog w = .ok (.bool true) w:=by kernel_rfl
set_option maxRecDepth 20000 in
theorem l11_awake (w:World) (tab:TabL w):Calls Tryz.prog 22 #[] w fun e w'=>e = .returned (.bool true)/\St w w':=by
 have K:Calls Tryz.prog 8 #[.int .i64 24576] w _:=l8_open geo24 (N:=3072) (by omega) w tab
 have h1:=eq_nil_heap
 have h2:=mf
 have HK:=Hd K
 clear K tab
 go_enter Tryz.func22,Tryz.ntmps22
 go_wp2_with fail
 refine(uh HK).mono ?_
 clear HK
 rintro e w1 ⟨b,sb,hb,T,A,base,rfl,hc,nw⟩
 obtain⟨W1,hW1⟩:∃W1,w1.alloc (.cells #[ptr sb] 23)=W1:=⟨_,rfl⟩
 obtain⟨W2,hW2⟩:∃W2,W1.alloc (.cells #[ptr hb] 24)=W2:=⟨_,rfl⟩
 obtain⟨W3,hW3⟩:∃W3,W2.alloc (.cells #[.slice none 0 0] 33)=W3:=⟨_,rfl⟩
 obtain⟨W4,hW4⟩:∃W4,W3.alloc (.cells #[.bool false] 4)=W4:=⟨_,rfl⟩
 obtain⟨n1,hn1⟩:∃n1,w1.heap.size=n1:=⟨_,rfl⟩
 have z1:W1.heap.size=n1+1:=by rw[<-hW1];simp[hn1]
 have z2:W2.heap.size=n1+2:=by rw[<-hW2];simp;omega
 have z3:W3.heap.size=n1+3:=by rw[<-hW3];simp;omega
 have f12:St W1 W2:=hW2▸(Fr.refl _ W1).alloc _
 have f23:St W2 W3:=hW3▸(Fr.refl _ W2).alloc _
 have f34:St W3 W4:=hW4▸(Fr.refl _ W3).alloc _
 have f24:St W2 W4:=f23.trans' f34 nE
 have hc1:=hc.more (.cells #[ptr sb] 23)
 rw[hW1,hn1] at hc1
 have hc2:=hc1.more (.cells #[ptr hb] 24)
 rw[hW2,z1] at hc2
 have hc3:=hc2.more (.cells #[.slice none 0 0] 33)
 rw[hW3,z2] at hc3
 have hc4:=hc3.more (.cells #[.bool false] 4)
 rw[hW4,z3] at hc4
 have bs4:Box W4 n1 (ptr sb):=by
  have:=Box.new w1 (ptr sb) 23
  rw[hW1,hn1] at this;exact(this.kept f12 id).kept f24 id
 have bh2:Box W2 (n1+1) (ptr hb):=by
  have:=Box.new W1 (ptr hb) 24
  rw[hW2,z1] at this;exact this
 have bh4:=bh2.kept f24 id
 have bl4:Box W4 (n1+2) (.slice none 0 0):=by
  have:=Box.new W2 (.slice none 0 0) 33
  rw[hW3,z2] at this;exact this.kept f34 id
 have bo4:Box W4 (n1+3) (.bool false):=by
  have:=Box.new W3 (.bool false) 4
  rw[hW4,z3] at this;exact this
 have lhb:hb<n1:=by rw[<-hn1];exact(hc.hd.xl hb hc.xh).2
 have l0:0<n1:=by rw[<-hn1];exact Nat.lt_of_lt_of_le hc.l0 hc.hd.fr.size
 have sy:=hc.says []
 rw[homed_nil] at sy
 have DO:=hc4.doZ (V:=fun k=>k=n1+2\/k=n1+3) (g:=62) (fi:=#[]) (ca:=#[ptr n1,ptr (n1+1),ptr (n1+2),ptr (n1+3)]) (R:=AwY 0 (n1+2) (n1+3))
  (fun k hk=>by rcases hk with e | e;exact .inl (.inr e);exact .inr e) (by omega) (AwY_stays _ _ _) (fun w3 f3=>acts_of (fun _ _=>by kernel_rfl) ((awC11 (hc4.toHp.still f3) (by rw[sy];exact nw.st) (by rw[sy];exact nw.ak) (by simp) (by omega) (f3.cell' bs4.c id) (f3.cell' bh4.c id) (bl4.kept f3 id) (bo4.kept f3 id) (fun k hk=>by
   rcases hk with rfl | rfl | rfl | rfl
   ·exact hc4.hd.ap _ (.inl (.inl (.inl (.inr rfl))))
   ·exact hc4.hd.ap _ (.inl (.inl (.inr rfl)))
   ·exact hc4.hd.ap _ (.inl (.inr rfl))
   ·exact hc4.hd.ap _ (.inr rfl)) (by omega)).mono (by
   rintro e w4 ⟨rfl,T',P',v,o,b1,b2,r,nv,n2,n3⟩
   refine⟨.well,rfl,.inl rfl,T',P',fun k=>k=n1+2\/k=n1+3\/v.ownBlock=some k,o,fun k hk=>?_,rfl,v,⟨.inl rfl,.inr (.inl rfl),fun k hk=>.inr (.inr hk)⟩,b1,b2,row_lo r (Nat.zero_le _)⟩
   rcases hk with rfl | rfl | hk
   ·exact⟨b1.lt,n2,.inl (.inl rfl)⟩
   ·exact⟨b2.lt,n3,.inl (.inr rfl)⟩
   ·exact⟨(r.lt k hk).2,nv k hk,.inr (r.lt k hk).1⟩))) (by omega)
 have bsc:=bs4.c;have bhc:=bh2.c
 have HDO:=Hd DO;have HW:=Hd (ai hW1 (ai hW2 (ai hW3 hW4)))
 rw[<-hW4,<-hW3,<-hW2,<-hW1] at bsc
 rw[<-hW2,<-hW1] at bhc
 clear DO hc hc1 hc2 hc3 hc4 bs4 bh2 bh4 bl4 bo4 nw sy f12 f23 f34 f24 hW1 hW2 hW3 hW4 lhb l0 z1 z2 z3
 go_wp2_with fail
 obtain⟨hW1,hW2,hW3,hW4⟩:=uh HW
 rw[hW1,hW2,hW3,hW4]
 clear hW1 hW2 hW3 hW4 HW bsc bhc
 unfold DidZ at HDO
 refine(uh HDO).mono ?_
 clear HDO
 rintro e w6 ⟨fr6,⟨P',T',A',Y,⟨_,v,_,b1,b2,r⟩,rfl,hc6⟩ | ⟨i,P',T',Y,⟨hq,_⟩,_⟩⟩
 ·obtain⟨g,cap,ev⟩:∃g cap,v = .slice (some ⟨g,0,none⟩) 2 cap:=by
   rcases rowp_form r with ⟨_,h0⟩ | ⟨g,cap,e⟩
   ·exact absurd h0 (by decide)
   ·exact⟨g,cap,e⟩
  subst ev
  have SL:=sl_of_row r pcl_one
  have cA:w6.cell? ⟨g,0,none⟩=some (.string ⟨#[97]⟩):=by
   obtain⟨x,o,e,c⟩:=SL.cells 0 _ (pcl_at (l:=awL) (k:=0) rfl).1
   cases e;exact c
  have cB:w6.cell? ⟨g,1,none⟩=some (.int .u64 1):=by
   obtain⟨x,o,e,c⟩:=SL.cells 1 _ (pcl_at (l:=awL) (k:=0) rfl).2
   cases e;exact c
  have c1:=b1.c;have c2:=b2.c
  have e1:=eq_pair
  have HFF:=Hd hc6.hd.fr
  clear SL hc6 r fr6 b1 b2
  go_wp2
  go_ret
  exact⟨rfl,uh HFF⟩
 ·cases hq
theorem beq_bytes (x y:ByteArray):(x == y)=decide (x=y):=by
 obtain⟨a⟩:=x;obtain⟨b⟩:=y
 show(a == b)=_
 rw[Bool.eq_iff_iff]
 simp
theorem eqs_str (d:Nat) (x y:ByteArray) (w:World):(Op.equalIn (d+1) 9 (.string x) (.string y)).run Tryz.prog w = .ok (x == y) w:=by
 rw[Op.equalIn]
 simp[run_underlying (P:=Tryz.prog) Tryz.underlying9]
theorem eqs_u64 (d:Nat) (x y:Int) (w:World):(Op.equalIn (d+1) 27 (.int .u64 x) (.int .u64 y)).run Tryz.prog w = .ok (x == y) w:=by
 rw[Op.equalIn]
 simp[run_underlying (P:=Tryz.prog) Tryz.underlying27]
theorem part_k (x:ByteArray) (u:Int) (w:World):(part 9 #[.string x,.int .u64 u] 0).run Tryz.prog w = .ok (.string x) w:=by kernel_rfl
theorem part_v (x:ByteArray) (u:Int) (w:World):(part 27 #[.string x,.int .u64 u] 1).run Tryz.prog w = .ok (.int .u64 u) w:=by kernel_rfl
theorem stood_pr:Tryz.prog.stoodInHeld 43=false:=by kernel_rfl
theorem run_prog (w:World):(program).run Tryz.prog w = .ok Tryz.prog w:=rfl
theorem eqs_pr (d:Nat) (x y:ByteArray) (u v:Int) (w:World):(Op.equalIn (d+2) 43 (.agg #[.string x,.int .u64 u]) (.agg #[.string y,.int .u64 v])).run Tryz.prog w = .ok ((x == y) && (u == v)) w:=by
 have hu:=run_underlying (P:=Tryz.prog) Tryz.underlying43
 rw[Op.equalIn]
 simp only[Sem.run_bind,hu,Result.andThen_ok,run_prog,stood_pr,Bool.false_eq_true,if_false]
 rw[<-Array.forIn_toList]
 simp only[List.forIn_cons,List.forIn_nil,Sem.run_bind,ne_eq,String.reduceEq,not_false_eq_true,if_true,part_k,Result.andThen_ok,eqs_str]
 cases h1:(x == y)
 ·simp
 ·cases h2:(u == v)
  ·simp[eqs_u64,h2,part_v]
  ·simp[eqs_u64,h2,part_v]
theorem ne_pr (x y:ByteArray) (u v:Int) (w:World):(binOp .neq 43 (.agg #[.string x,.int .u64 u]) (.agg #[.string y,.int .u64 v])).run Tryz.prog w = .ok (.bool (!((x == y) && (u == v)))) w:=by
 have:=eqs_pr 9998 x y u v w
 simp only[binOp,Op.equal,Sem.run_bind]
 rw[show Op.maxDepth=9998+2 from rfl,this]
 rfl
theorem ne_self (x:ByteArray) (u:Int) (w:World):(binOp .neq 43 (.agg #[.string x,.int .u64 u]) (.agg #[.string x,.int .u64 u])).run Tryz.prog w = .ok (.bool false) w:=by
 rw[ne_pr,beq_bytes];simp
end Go.Proofs.YtbiopjmpdhcjgaaGreatDoor
