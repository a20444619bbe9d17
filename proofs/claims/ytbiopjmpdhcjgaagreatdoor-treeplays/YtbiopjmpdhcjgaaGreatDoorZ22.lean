/- Joined: Yz Ua Ub. -/
import Derived.Test.YtbiopjmpdhcjgaaGreatDoorZ21
namespace Go.Proofs.YtbiopjmpdhcjgaaGreatDoor
open Go.RowKit
set_option maxHeartbeats 4000000
def Hlv (nu:Nat) (F:Nat->Prop) (T:Nat->List Pr->List Nat->Prop) (h:Nat) (l:List Pr) (Q:List Nat) (w w':World) (e:Ending):Prop:=
 ∃v1 v2 x n1 n2 l1 l2 Q1 Q2,e = .returned (.tuple #[v1,.string x,v2])/\NdO F w' v1 n1/\NdO F w' v2 n2/\Un nu T h n1 l1 Q1/\Un nu T h n2 l2 Q2/\n1.size<=32/\n2.size<=32/\l=l1 ++ l2/\Q=Q1 ++ Q2/\Blw l1 x/\Nbl l2 x/\(1<=x.size/\x.size<=80)/\(2<=h->2<=n1.items.length/\2<=n2.items.length)/\St w w'
theorem lf_size (l:List Pr):(Nd.lf l).size=hsz l.length (kb (l.map (·.1))):=by unfold Nd.size;simp only[Nd.items,Nd.keys,List.length_map]
theorem br_size (hh:Nat) (B:List ByteArray) (ks:List (Nat×Nat)):(Nd.br hh B ks).size=hsz ks.length (kb B):=by unfold Nd.size;simp only[Nd.items,Nd.keys,List.length_map]
theorem cutZ_block {sz:Nat} {a:Option Addr} {cap l:Nat} {x:Addr} (h:cutZ sz a cap l=some x):∃y,a=some y/\x.block=y.block:=by
 unfold cutZ at h
 split at h
 ·exact⟨x,h,rfl⟩
 ·cases a with
  | none=>cases h
  | some y=>
   simp only[Option.map_some,Option.some.injEq] at h
   refine⟨y,rfl,?_⟩
   rw[<-h]
   unfold Addr.add
   split <;> rfl
theorem halves_leaf {nu:Nat} {F:Nat->Prop} {T:Nat->List Pr->List Nat->Prop} {w:World} (a:Option Addr) (c:Nat) (l:List Pr) (hL:Lf w a c l) (hF:∀x,a=some x->F x.block) (pk:Pok l) (ri:Rise l) (gt:33<=(Nd.lf l).size) (le:(Nd.lf l).size<=46) :
  Calls Tryz.prog 138 #[.iface 100 (.slice a l.length c)] w fun e w'=>Hlv nu F T 1 l [] w w' e:=by
 rw[lf_size] at gt le
 have hn:l.length<=46:=by unfold hsz need at le;omega
 have kk:=pk.kok
 have ht:(l.map (·.1)).take l.length=l.map (·.1):=List.take_of_length_le (by simp)
 obtain⟨i0,j1,j2,j3,j4⟩:=cut_leaf l.length (fun i=>kb ((l.map (·.1)).take i)) (by simp[kb]) (fun i hi=>kb_step kk i (by simpa using hi)) (by show 33<=hsz l.length (kb ((l.map (·.1)).take l.length));rw[ht];exact gt) (by show hsz l.length (kb ((l.map (·.1)).take l.length))<=46;rw[ht];exact le)
 have j3':hsz i0 (kb ((l.map (·.1)).take i0))<=32:=j3
 have j4':hsz (l.length - i0) (kb ((l.map (·.1)).take l.length) - kb ((l.map (·.1)).take i0))<=32:=j4
 rw[ht] at j4'
 have zl:∀j,j<=l.length->(Nd.lf (l.take j)).size=hsz j (kb ((l.map (·.1)).take j)):=fun j hj=>by rw[lf_size,List.length_take,List.map_take,Nat.min_eq_left hj]
 have zr:∀j,(Nd.lf (l.drop j)).size=hsz (l.length - j) (kb (l.map (·.1)) - kb ((l.map (·.1)).take j)):=fun j=>by
  rw[lf_size,List.length_drop,List.map_drop]
  have:=kb_split (l.map (·.1)) j
  congr 1
  omega
 have ge:∀j (hj:j<l.length),l.getD j default∈l:=fun j hj=>by
  have:l.getD j default=l[j]:=by simp[List.getD,List.getElem?_eq_getElem hj]
  rw[this]
  exact List.getElem_mem hj
 have hlt:∀j,1<=j->j<l.length->ltK (l.getD (j - 1) default).1 (l.getD j default).1:=fun j h1 h2=>by
  have:=List.pairwise_iff_getElem.1 ri (j - 1) j (by omega) h2 (by omega)
  simpa [List.getD,List.getElem?_eq_getElem h2,List.getElem?_eq_getElem (show j - 1<l.length by omega)] using this
 have hc:=hL.cap
 have SL:∀w',St w w'->∀j,j<=l.length->NdO F w' (.iface 100 (.slice a j c)) (.lf (l.take j)):=fun w' f j hj=>by
  have:=(hL.still f).take hj
  rw[pcl_take] at this
  refine⟨a,c,by rw[List.length_take,Nat.min_eq_left hj],?_,hF⟩
  unfold Lf
  rw[List.length_take,Nat.min_eq_left hj]
  exact this
 have SR:∀w',St w w'->∀j,j<=l.length->NdO F w' (.iface 100 (.slice (cutZ 2 a c j) (l.length - j) (c - j))) (.lf (l.drop j)):=fun w' f j hj=>by
  have:=(hL.still f).drop j hj
  rw[pcl_drop] at this
  refine⟨cutZ 2 a c j,c - j,by rw[List.length_drop],?_,fun x hx=>?_⟩
  ·unfold Lf
   rw[List.length_drop]
   exact this
  ·obtain⟨y,hy,e⟩:=cutZ_block hx
   rw[e]
   exact hF y hy
 have K:=halvedL a l.length c w (fun j=>.iface 100 (.slice a j c)) (fun j=>.iface 100 (.slice (cutZ 2 a c j) (l.length - j) (c - j))) (fun j=>(Nd.lf (l.take j)).size) (fun j=>(Nd.lf (l.drop j)).size) (fun j x=>Btw (l.getD (j - 1) default).1 (l.getD j default).1 x) (by unfold hsz need at gt;have:=kb_le kk;simp at this;omega) (by omega)
  (fun w' f=>(l_items a c l w' (hL.still f) (by omega)).mono fun e w'' ⟨v,e1,e2,e3⟩=>⟨v,_,e1,e2,e3⟩)
  (fun w'=>(l_least a l.length c w').mono fun e w'' ⟨e1,e2⟩=>⟨e1,by rw[e2];exact Fr.refl _ _⟩)
  (fun w' f j h1 h2=>l_cut a c l j w' (hL.still f) h1 (by omega) (by omega) (hlt j h1 (by omega)) (pk _ (ge (j - 1) (by omega))).1.2 (pk _ (ge j (by omega))).1.2)
  (fun w' f j h1 h2=>y_sizeN (SL w' f j (by omega)) (pk.sub (List.take_sublist ..)).kok (by simp[Nd.items];omega) (by simp[Nd.keys];omega) (fun hh B ks e=>by cases e))
  (fun w' f j h1 h2=>y_sizeN (SR w' f j (by omega)) (pk.sub (List.drop_sublist ..)).kok (by simp[Nd.items];omega) (by simp[Nd.keys];omega) (fun hh B ks e=>by cases e))
  (fun j=>Nd.size_pos _)
  (fun j=>by
   have h1:=kb_le (pk.sub (List.take_sublist j l)).kok
   have h2:=kb_le (pk.sub (List.drop_sublist j l)).kok
   simp only[List.length_map,List.length_take,List.length_drop] at h1 h2
   refine⟨?_,?_⟩
   ·show(Nd.lf (l.take j)).size<=_
    rw[lf_size,List.length_take]
    unfold hsz need
    omega
   ·show(Nd.lf (l.drop j)).size<=_
    rw[lf_size,List.length_drop]
    unfold hsz need
    omega)
 refine K.mono ?_
 rintro e w' ⟨i,x,h1,h2,rfl,bt,hmin,f⟩
 have hm:=hmin i0 j1 (by omega)
 rw[zl i0 (by omega),zr i0] at hm
 have hil:i<l.length:=by omega
 obtain⟨b1,b2⟩:=bt.parts ri h1 hil
 have kx:=(pk _ (ge i hil)).1
 refine⟨_,_,x,.lf (l.take i),.lf (l.drop i),l.take i,l.drop i,[],[],rfl,SL w' f i (by omega),SR w' f i (by omega),.inl ⟨rfl,rfl,?_,rfl⟩,.inl ⟨rfl,rfl,?_,rfl⟩,by omega,by omega,(List.take_append_drop ..).symm,rfl,b1,b2,⟨bt.s1,by have:=bt.s2;omega⟩,fun h=>by omega,f⟩
 ·intro h0
  have:=congrArg List.length h0
  rw[List.length_take,List.length_nil] at this
  omega
 ·intro h0
  have:=congrArg List.length h0
  rw[List.length_drop,List.length_nil] at this
  omega
theorem halves_branch {nu sz:Nat} {f:Nat->Int} {F:Nat->Prop} {w:World} (h:Nat) (ba:Option Addr) (bc:Nat) (B:List ByteArray) (ka:Option Addr) (kc:Nat) (ks:List (Nat×List Pr×List Nat)) (l:List Pr) (Q:List Nat) (hB:Kys w ba bc B) (hK:Kds w ka kc (ks.map (kidN nu))) (hF:∀x,ba=some x->F x.block) (hF2:∀x,ka=some x->F x.block) (h2:2<=h)
  (fo:For (Tr nu sz f (h - 1)) B ks l Q) (hkk:∀k∈ks.map (kidN nu),k.1<4294967296/\k.2<2147483648) (gt:33<=(Nd.br h B (ks.map (kidN nu))).size) (le:(Nd.br h B (ks.map (kidN nu))).size<=46) :
  Calls Tryz.prog 138 #[.iface 96 (brV h ba B.length bc ka (ks.map (kidN nu)).length kc)] w fun e w'=>Hlv nu F (Tr nu sz f (h - 1)) h l Q w w' e:=by
 rw[br_size,List.length_map] at gt le
 have hn:ks.length<=46:=by unfold hsz need at le;omega
 have kk:Kok B:=fo.2.2.2.2
 have hlen:ks.length=B.length+1:=by have:=fo.2.2.2.1.len;simpa using this
 have hmk:(ks.map (kidN nu)).length=ks.length:=List.length_map _
 have ht:B.take (ks.length - 1)=B:=List.take_of_length_le (by omega)
 obtain⟨i0,j1,j2,j3,j4⟩:=cut_branch ks.length (fun i=>kb (B.take i)) (by simp[kb]) (fun i hi=>kb_step kk i (by omega)) (by show 33<=hsz ks.length (kb (B.take (ks.length - 1)));rw[ht];exact gt) (by show hsz ks.length (kb (B.take (ks.length - 1)))<=46;rw[ht];exact le)
 have j3':hsz i0 (kb (B.take (i0 - 1)))<=32:=j3
 have j4':hsz (ks.length - i0) (kb (B.take (ks.length - 1)) - kb (B.take i0))<=32:=j4
 rw[ht] at j4'
 have zl:∀j,j<=ks.length->(Nd.br h (B.take (j - 1)) ((ks.take j).map (kidN nu))).size=hsz j (kb (B.take (j - 1))):=fun j hj=>by rw[br_size,List.length_map,List.length_take,Nat.min_eq_left hj]
 have zr:∀j,(Nd.br h (B.drop j) ((ks.drop j).map (kidN nu))).size=hsz (ks.length - j) (kb B - kb (B.take j)):=fun j=>by
  rw[br_size,List.length_map,List.length_drop]
  have:=kb_split B j
  congr 1
  omega
 have SL:∀w',St w w'->∀j,1<=j->j<=B.length->NdO F w' (.iface 96 (brV h ba (j - 1) bc ka j kc)) (.br h (B.take (j - 1)) ((ks.take j).map (kidN nu))):=fun w' f j h1 hj=>by
  have t1:=(hB.still f).take (show j - 1<=B.length by omega)
  have t2:=(hK.still f).take (show j<=(ks.map (kidN nu)).length by omega)
  rw[kcl_take,<-List.map_take] at t2
  rw[Nat.mul_one,<-List.map_take] at t1
  have e1:(B.take (j - 1)).length=j - 1:=by rw[List.length_take];omega
  have e2:((ks.take j).map (kidN nu)).length=j:=by rw[List.length_map,List.length_take];omega
  refine⟨ba,bc,ka,kc,by rw[e1,e2],?_,?_,hF,hF2⟩
  ·unfold Kys
   rw[e1]
   exact t1
  ·unfold Kds
   rw[e2]
   exact t2
 have SR:∀w',St w w'->∀j,1<=j->j<=B.length->NdO F w' (.iface 96 (brV h (cutZ 1 ba bc j) (B.length - j) (bc - j) (cutZ 2 ka kc j) (ks.length - j) (kc - j))) (.br h (B.drop j) ((ks.drop j).map (kidN nu))):=fun w' f j h1 hj=>by
  have t1:=(hB.still f).drop j hj
  have t2:=(hK.still f).drop j (show j<=(ks.map (kidN nu)).length by omega)
  rw[kcl_drop,<-List.map_drop,hmk] at t2
  rw[Nat.mul_one,<-List.map_drop] at t1
  have e1:(B.drop j).length=B.length - j:=List.length_drop
  have e2:((ks.drop j).map (kidN nu)).length=ks.length - j:=by rw[List.length_map,List.length_drop]
  refine⟨cutZ 1 ba bc j,bc - j,cutZ 2 ka kc j,kc - j,by rw[e1,e2],?_,?_,fun x hx=>?_,fun x hx=>?_⟩
  ·unfold Kys
   rw[e1]
   exact t1
  ·unfold Kds
   rw[e2]
   exact t2
  ·obtain⟨y,hy,e⟩:=cutZ_block hx
   rw[e]
   exact hF y hy
  ·obtain⟨y,hy,e⟩:=cutZ_block hx
   rw[e]
   exact hF2 y hy
 have hsub1:∀j,∀k∈(ks.take j).map (kidN nu),k.1<4294967296/\k.2<2147483648:=fun j k hk=>by
  obtain⟨q,hq,rfl⟩:=List.mem_map.1 hk
  exact hkk _ (List.mem_map.2 ⟨q,List.mem_of_mem_take hq,rfl⟩)
 have hsub2:∀j,∀k∈(ks.drop j).map (kidN nu),k.1<4294967296/\k.2<2147483648:=fun j k hk=>by
  obtain⟨q,hq,rfl⟩:=List.mem_map.1 hk
  exact hkk _ (List.mem_map.2 ⟨q,List.mem_of_mem_drop hq,rfl⟩)
 have hn4:4<=ks.length:=by omega
 rw[hmk]
 have K:=halvedB h ba B.length bc ka ks.length kc w (fun j=>.iface 96 (brV h ba (j - 1) bc ka j kc)) (fun j=>.iface 96 (brV h (cutZ 1 ba bc j) (B.length - j) (bc - j) (cutZ 2 ka kc j) (ks.length - j) (kc - j))) (fun j=>(Nd.br h (B.take (j - 1)) ((ks.take j).map (kidN nu))).size) (fun j=>(Nd.br h (B.drop j) ((ks.drop j).map (kidN nu))).size) (fun j x=>x=B.getD (j - 1) default) (by omega) (by omega)
  (fun w' f=>by
   have:=b_items h ba B.length bc ka kc (ks.map (kidN nu)) w' (hK.still f) (by omega) hkk
   rw[hmk] at this
   exact this.mono fun e w'' ⟨v,e1,e2,e3⟩=>⟨v,_,e1,e2,e3⟩)
  (fun w'=>b_least h ba B.length bc ka ks.length kc w')
  (fun w' f j h1 h2=>by
   have:=b_cut h ba bc B ka kc (ks.map (kidN nu)) j w' (hB.still f) (hK.still f) (by omega) (by omega) (by omega) (by omega) (by omega)
   rw[hmk] at this
   exact this.mono fun e w'' ⟨e1,e2⟩=>⟨_,e1,rfl,e2⟩)
  (fun w' f j h1 h2=>y_sizeN (SL w' f j (by omega) (by omega)) (kk.take _) (by simp[Nd.items];omega) (by simp[Nd.keys];omega) (fun hh B' ks' e=>by cases e;exact hsub1 j))
  (fun w' f j h1 h2=>y_sizeN (SR w' f j (by omega) (by omega)) (kk.drop _) (by simp[Nd.items];omega) (by simp[Nd.keys];omega) (fun hh B' ks' e=>by cases e;exact hsub2 j))
  (fun j=>Nd.size_pos _)
  (fun j=>by
   have h1:=kb_le (kk.take (j - 1))
   have h2:=kb_le (kk.drop j)
   simp only[List.length_take,List.length_drop] at h1 h2
   refine⟨?_,?_⟩
   ·show(Nd.br h (B.take (j - 1)) ((ks.take j).map (kidN nu))).size<=_
    rw[br_size,List.length_map,List.length_take]
    unfold hsz need
    omega
   ·show(Nd.br h (B.drop j) ((ks.drop j).map (kidN nu))).size<=_
    rw[br_size,List.length_map,List.length_drop]
    unfold hsz need
    omega)
 refine K.mono ?_
 rintro e w' ⟨i,x,h1,h3,rfl,rfl,hmin,fs⟩
 have hm:=hmin i0 j1 (by omega)
 rw[zl i0 (by omega),zr i0] at hm
 obtain⟨l1,l2,Q1,Q2,e1,e2,F1,F2,b1,b2⟩:=fo.cut i (by omega) (by omega)
 have kx:1<=(B.getD (i - 1) default).size/\(B.getD (i - 1) default).size<=80:=by
  have hi:i - 1<B.length:=by omega
  have:B.getD (i - 1) default=B[i - 1]:=by simp[List.getD,List.getElem?_eq_getElem hi]
  rw[this]
  exact kk _ (List.getElem_mem hi)
 exact⟨_,_,_,_,_,l1,l2,Q1,Q2,rfl,SL w' fs i (by omega) (by omega),SR w' fs i (by omega) (by omega),.inr ⟨h2,_,_,rfl,F1⟩,.inr ⟨h2,_,_,rfl,F2⟩,by omega,by omega,e1,e2,b1,b2,kx,fun _=>⟨by simp[Nd.items];omega,by simp[Nd.items];omega⟩,fs⟩
theorem y_halves {nu sz:Nat} {f:Nat->Int} {F:Nat->Prop} {w:World} {nv:Value} {n:Nd} {h:Nat} {l:List Pr} {Q:List Nat} (nd:NdO F w nv n) (x:Un nu (Tr nu sz f h) (h+1) n l Q) (ok:n.Ok) (pk:Pok l) (ri:Rise l) (gt:33<=n.size) (le:n.size<=46) :
  Calls Tryz.prog 138 #[nv] w fun e w'=>Hlv nu F (Tr nu sz f h) (h+1) l Q w w' e:=by
 rcases x with ⟨e1,rfl,e3,rfl⟩ | ⟨h2,B,ks,rfl,fo⟩
 ·obtain⟨a,c,rfl,hL,hF⟩:=nd
  rw[e1]
  exact halves_leaf a c l hL hF pk ri gt le
 ·obtain⟨ba,bc,ka,kc,rfl,hB,hK,hF,hF2⟩:=nd
  have:=halves_branch (f:=f) (sz:=sz) (h+1) ba bc B ka kc ks l Q hB hK hF hF2 h2 fo ok.form.2.2.2 gt le
  exact this

section
structure Wr (nu sz:Nat) (w0:World) (hb sb b:Nat) (T0:Tay) (A:Ab) (cb:Nat) (w:World) (T:Tay) (P:List (Int×Int)) (tv:Value) (m:Nat) (w':World) (T':Tay) (P':List (Int×Int)) (tv':Value) (k:Nat):Prop where
 cg:Cg nu sz w0 hb sb b T0 A cb w' T' P' tv' (m+k)
 len:P'.length<=P.length+80 * k
 kp:Keeps sb b T cb tv w T' tv' w'
 ch:Chg nu (says P A) k (says P' A)
section
variable {nu sz:Nat} {w w' w0 w1 w2:World} {hb sb b cb m j k:Nat} {T T0 T' T1 T2:Tay} {A:Ab} {P P' P1 P2:List (Int×Int)} {tv tv1 tv2:Value}
theorem Wrt.wr {g:Nat->Int} (h:Wrt nu sz w0 hb sb b T0 A cb w T P tv m w' g k):∃T' P' tv',Wr nu sz w0 hb sb b T0 A cb w T P tv m w' T' P' tv' k/\says P' A=g:=by
 obtain⟨T',P',tv',c,e,l,kp⟩:=h.ex
 exact⟨T',P',tv',⟨c,l,kp,by rw[e];exact h.ch⟩,e⟩
theorem Wr.trans (a:Wr nu sz w0 hb sb b T0 A cb w T P tv m w1 T1 P1 tv1 j) (c:Wr nu sz w0 hb sb b T0 A cb w1 T1 P1 tv1 (m+j) w2 T2 P2 tv2 k):Wr nu sz w0 hb sb b T0 A cb w T P tv m w2 T2 P2 tv2 (j+k):=
 ⟨by have:=c.cg;rw[Nat.add_assoc] at this;exact this,by have:=a.len;have:=c.len;omega,a.kp.trans c.kp,a.ch.trans c.ch⟩
theorem Wr.still (a:Wr nu sz w0 hb sb b T0 A cb w T P tv m w1 T1 P1 tv1 j) (f:St w1 w2):Wr nu sz w0 hb sb b T0 A cb w T P tv m w2 T1 P1 tv1 j:=⟨a.cg.still f,a.len,a.kp.trans (Keeps.still f),a.ch⟩
theorem Wr.after (a:Wr nu sz w0 hb sb b T0 A cb w1 T P tv m w2 T2 P2 tv2 j) (f:St w w1):Wr nu sz w0 hb sb b T0 A cb w T P tv m w2 T2 P2 tv2 j:=⟨a.cg,a.len,(Keeps.still f).trans a.kp,a.ch⟩
theorem Wr.here (c:Cg nu sz w0 hb sb b T0 A cb w T P tv m) (s:HpS nu (says P A)):Wr nu sz w0 hb sb b T0 A cb w T P tv m w T P tv 0:=⟨c,by omega,⟨Nat.le_refl _,fun _ hk=>⟨rfl,hk⟩⟩,Chg.refl s⟩
end
theorem flat_len {α : Type} (g : α->List Pr):∀L:List α,(L.map fun a=>(g a).length).sum=(L.map g).flatten.length
 | []=>rfl
 | a :: L=>by simp[flat_len g L]
theorem Un.pairs {nu h:Nat} {T:Nat->List Pr->List Nat->Prop} {n:Nd} {l:List Pr} {Q:List Nat} (x:Un nu T h n l Q):n.pairs=l.length:=by
 rcases x with ⟨_,rfl,_,_⟩ | ⟨_,B,ks,rfl,fo⟩
 ·rfl
 ·rw[fo.2.1,<-flat_len]
  show((ks.map (kidN nu)).map (·.2)).sum=_
  rw[List.map_map]
  rfl
theorem sl_kid2 (w W:World) (p q:Nat×Nat) (hW:w.alloc (.cells #[.int .u64 (p.1:Nat),.int .i64 (p.2:Nat),.int .u64 (q.1:Nat),.int .i64 (q.2:Nat)] 123)=W):Sl W 2 (some ⟨w.heap.size,0,none⟩) 2 2 (kcl [p,q]):=by
 have o:W.heap[w.heap.size]? = some (.cells #[.int .u64 (p.1:Nat),.int .i64 (p.2:Nat),.int .u64 (q.1:Nat),.int .i64 (q.2:Nat)] 123 (0,0)):=hW▸heap_alloc_new w _
 exact⟨rfl,Nat.le_refl _,(fun e=>by cases e),kcl_one,(fun j u hu=>⟨w.heap.size,0,rfl,by
  rw[Nat.zero_add,cOo o j,<-hu]
  simp[kcl]⟩),(fun x e=>by cases e;rfl)⟩
theorem sl_str1 (w W:World) (x:ByteArray) (hW:w.alloc (.cells #[.string x] 9)=W):Sl W 1 (some ⟨w.heap.size,0,none⟩) 1 1 ([x].map Value.string):=by
 have o:W.heap[w.heap.size]? = some (.cells #[.string x] 9 (0,0)):=hW▸heap_alloc_new w _
 exact⟨rfl,Nat.le_refl _,(fun e=>by cases e),str_one _,(fun j u hu=>⟨w.heap.size,0,rfl,by
  rw[Nat.zero_add,cOo o j,<-hu]
  simp⟩),(fun x e=>by cases e;rfl)⟩
theorem sl_nil (w:World) (sz:Nat):Sl w sz none 0 0 []:=⟨by simp,Nat.le_refl _,fun _=>⟨rfl,rfl⟩,(fun u hu=>by cases hu),(fun j u hu=>by simp at hu),(fun x e=>by cases e)⟩
section
variable {nu sz:Nat} {w w' w0:World} {hb sb b cb m:Nat} {T T0:Tay} {A:Ab} {P:List (Int×Int)} {tv:Value}
def Wtn (nu sz:Nat) (w0:World) (hb sb b:Nat) (T0:Tay) (A:Ab) (cb:Nat) (w:World) (T:Tay) (P:List (Int×Int)) (tv:Value) (m h:Nat) (l:List Pr) (w':World) (kv bv:Value):Prop:=
 ∃T' P' tv' k,k<=2/\Wr nu sz w0 hb sb b T0 A cb w T P tv m w' T' P' tv' k/\∃ka kc ba bc B ks Q,kv = .slice ka (ks.map (kidN nu)).length kc/\bv = .slice ba B.length bc/\Kds w' ka kc (ks.map (kidN nu))/\Kys w' ba bc B/\(∀x,ka=some x->Off sb b T' cb tv' w' x.block)/\(∀x,ba=some x->Off sb b T' cb tv' w' x.block)/\For (Tr nu sz (says P' A) h) B ks l Q/\B.length<=1
set_option maxRecDepth 100000 in
theorem y_written (c:Cg nu sz w0 hb sb b T0 A cb w T P tv m) (s:HpS nu (says P A)) {nv:Value} {n:Nd} {h:Nat} {l:List Pr} {Q:List Nat} (nd:NdO (Off sb b T cb tv w) w nv n) (x:Un nu (Tr nu sz (says P A) h) (h+1) n l Q) (ok:n.Ok) (pk:Pok l) (ri:Rise l) (le:n.size<=46) (pl:l.length<1000000) (hm:m<=90) (hP:P.length+200<=6144) (room:cnt nu (ask nu (says P A))+2<nu / 4) (low:∀u,ask nu (says P A) u<=32) :
  Calls Tryz.prog 90 #[ptr cb,nv] w fun e w'=>∃kv bv,e = .returned (.tuple #[kv,bv])/\Wtn nu sz w0 hb sb b T0 A cb w T P tv m (h+1) l w' kv bv:=by
 have hit:n.items.length<=46:=by
  have:n.size=hsz n.items.length (kb n.keys):=rfl
  unfold hsz need at this
  omega
 have SZ:=y_sizeN nd ok.kok (by omega) (by have:=Nd.klen ok.form;omega) (fun hh B ks e=>by have:=ok.form;rw[e] at this;exact this.2.2.2)
 have hpr:=x.pairs
 have hsz:=c.hp.hp.geo.b.2.2.2.2.2
 have h16:h+1<=16:=by
  rcases x with ⟨e,_⟩ | ⟨_,B,ks,rfl,_⟩
  ·omega
  ·exact ok.h16
 by_cases h32:n.size<=32
 ·have WT:∀w1,St w w1->Calls Tryz.prog 91 #[ptr cb,nv] w1 _:=fun w1 f1=>y_write (c.still f1) s (nd.kept fun k hk=>hk.still f1) ok h32 (by omega) (by omega) (by omega) (by omega) low
  have hle:((n.size:Int)<=32)=True:=eq_true (by omega)
  have HWT:=@Hd _ WT;have HX:=Hd x;have HPR:=Hd hpr;have HN:=Hd (Un.ne x)
  clear WT nd x ok pk ri low room hP hpr s c
  generalize n.size=ns at *
  generalize hnp:n.pairs=np at *
  go_enter Tryz.func90,Tryz.ntmps90
  go_wp2_with fail
  refine SZ.mono ?_
  rintro e w1 ⟨rfl,f1⟩
  go_wp2_with fail
  refine(uh HWT w1 f1).mono ?_
  rintro e w2 ⟨u,g,rfl,st,wt⟩
  clear HWT SZ
  obtain⟨pz,hpz⟩:∃pz,fi nu+8 * u=pz:=⟨_,rfl⟩
  rw[hpz]
  have HW:=Hd (ai st (ai wt hpz))
  clear st wt hpz
  go_wp2_with fail
  go_ret2
  obtain⟨st,wt,hpz⟩:=uh HW
  obtain⟨W3,hW3⟩:∃W3,w2.alloc (.cells #[.int .u64 (pz:Nat),.int .i64 (np:Nat)] 123)=W3:=⟨_,rfl⟩
  rw[hW3]
  have f3:St w2 W3:=hW3▸(Fr.refl _ w2).alloc _
  have z3:w2.heap.size<W3.heap.size:=by rw[<-hW3];simp
  obtain⟨T',P',tv',wr,eg⟩:=wt.wr
  refine⟨_,_,rfl,T',P',tv',1,by omega,(wr.after f1).still f3,some ⟨w2.heap.size,0,none⟩,1,none,0,[],[(u,l,u :: Q)],u :: Q,rfl,rfl,?_,sl_nil _ _,fun y hy=>?_,(fun y hy=>by cases hy),For.one ⟨n,Q,?_,?_,rfl⟩ (uh HN),by simp⟩
  ·have:=sl_kid w2 W3 (pz,np) hW3
   rw[uh HPR,<-hpz] at this
   exact this
  ·cases hy
   exact wr.cg.fresh (Nat.le_refl _) z3
  ·rw[eg];exact st
  ·exact wr.ch.un (uh HX)
 ·have HV:∀w1,St w w1->Calls Tryz.prog 138 #[nv] w1 _:=fun w1 f1=>y_halves (f:=says P A) (sz:=sz) (F:=Off sb b T cb tv w) (nd.kept (G:=Off sb b T cb tv w) fun k hk=>⟨(hk.still f1).1,hk⟩) x ok pk ri (by omega) le
  have hle:((n.size:Int)<=32)=False:=eq_false (by omega)
  have HHV:=@Hd _ HV
  have HC:=Hd (ai c (ai s (ai pk (ai ri (ai room low)))))
  clear HV nd x ok hpr c s pk ri room low
  generalize n.size=ns at *
  go_enter Tryz.func90,Tryz.ntmps90
  go_wp2_with fail
  refine SZ.mono ?_
  rintro e w1 ⟨rfl,f1⟩
  go_wp2_with fail
  refine(uh HHV w1 f1).mono ?_
  rintro e w2 ⟨v1,v2,x,n1,n2,l1,l2,Q1,Q2,rfl,nd1,nd2,x1,x2,s1,s2,el,eQ,b1,b2,kx,hi2,f2⟩
  clear HHV SZ
  have f02:St w w2:=f1.trans' f2 nE
  obtain⟨c,s,pk,ri,room,low⟩:=uh HC
  have c2:=c.still f02
  have nd1':=nd1.kept fun k (hk:Off sb b T cb tv w k)=>⟨rfl,(hk.still f02).2⟩
  have nd2':=nd2.kept fun k (hk:Off sb b T cb tv w k)=>⟨rfl,(hk.still f02).2⟩
  have pk1:Pok l1:=pk.sub (by rw[el];exact List.sublist_append_left ..)
  have pk2:Pok l2:=pk.sub (by rw[el];exact List.sublist_append_right ..)
  have ri1:Rise l1:=ri.sub (by rw[el];exact List.sublist_append_left ..)
  have ri2:Rise l2:=ri.sub (by rw[el];exact List.sublist_append_right ..)
  have ll:l1.length+l2.length=l.length:=by rw[el,List.length_append]
  have ok1:=x1.ok hsz pk1 ri1 (by omega) h16 (fun hh=>(hi2 (by omega)).1)
  have WL:=y_write c2 s nd1' ok1 s1 (by have:=x1.pairs;omega) (by omega) (by omega) (by omega) low
  have HL:=Hd (ai f02 (ai c2 (ai nd2' (ai x1 (ai x2 (ai pk2 (ai ri2 (ai ll (ai hi2 (ai b1 (ai b2 kx)))))))))))
  clear f02 c2 nd1' nd2' x1 x2 pk1 pk2 ri1 ri2 ll hi2 ok1 b1 b2 kx nd1 nd2 c s pk ri room low f1 f2
  have hp1:n1.pairs=n1.pairs:=rfl
  generalize hnp1:n1.pairs=np1 at *
  go_wp2_with fail
  refine WL.mono ?_
  rintro e w3 ⟨u1,g1,rfl,st1,wt1⟩
  clear WL
  obtain⟨p1,hpz1⟩:∃pz,fi nu+8 * u1=pz:=⟨_,rfl⟩
  rw[hpz1]
  obtain⟨T3,P3,tv3,wr3,eg3⟩:=wt1.wr
  obtain⟨f02,c2,nd2',x1,x2,pk2,ri2,ll,hi2,b1,b2,kx⟩:=uh HL
  obtain⟨c,s,pk,ri,room,low⟩:=uh HC
  have ok2:=(wr3.ch.un x2).ok hsz pk2 ri2 (by omega) h16 (fun hh=>(hi2 (by omega)).2)
  have WR:=y_write wr3.cg wr3.ch.st (nd2'.kept wr3.kp.2) ok2 s2 (by have:=x2.pairs;omega) (by omega) (by have:=wr3.len;omega) (by have:=wr3.ch.few;omega) (wr3.ch.low low)
  generalize hnp2:n2.pairs=np2 at *
  have HM:=Hd (ai wr3 (ai eg3 (ai st1 (ai hpz1 ok2))))
  clear wr3 eg3 st1 hpz1 wt1 f02 c2 nd2' x1 x2 pk2 ri2 ll hi2 b1 b2 kx c s pk ri room low ok2
  go_wp2_with fail
  refine WR.mono ?_
  rintro e w4 ⟨u2,g2,rfl,st2,wt2⟩
  clear WR
  obtain⟨p2,hpz2⟩:∃pz,fi nu+8 * u2=pz:=⟨_,rfl⟩
  rw[hpz2]
  have HM2:=Hd (ai st2 (ai wt2 hpz2))
  clear st2 wt2 hpz2
  go_wp2_with fail
  go_ret2
  obtain⟨st2,wt2,hpz2⟩:=uh HM2
  obtain⟨wr3,eg3,st1,hpz1,ok2⟩:=uh HM
  obtain⟨f02,c2,nd2',x1,x2,pk2,ri2,ll,hi2,b1,b2,kx⟩:=uh HL
  obtain⟨T4,P4,tv4,wr4,eg4⟩:=wt2.wr
  obtain⟨W5,hW5⟩:∃W5,w4.alloc (.cells #[.int .u64 (p1:Nat),.int .i64 (np1:Nat),.int .u64 (p2:Nat),.int .i64 (np2:Nat)] 123)=W5:=⟨_,rfl⟩
  obtain⟨W6,hW6⟩:∃W6,W5.alloc (.cells #[.string x] 9)=W6:=⟨_,rfl⟩
  rw[hW5,hW6]
  have f5:St w4 W5:=hW5▸(Fr.refl _ w4).alloc _
  have f6:St W5 W6:=hW6▸(Fr.refl _ W5).alloc _
  have z5:W5.heap.size=w4.heap.size+1:=by rw[<-hW5];simp
  have z6:W6.heap.size=w4.heap.size+2:=by rw[<-hW6];simp[z5]
  have wr:=(wr3.after f02).trans wr4
  have t1:Tr nu sz (says P4 A) (h+1) u1 l1 (u1 :: Q1):=wr4.ch.tr ⟨n1,Q1,by rw[eg3];exact st1,wr3.ch.un x1,rfl⟩
  have t2:Tr nu sz (says P4 A) (h+1) u2 l2 (u2 :: Q2):=⟨n2,Q2,by rw[eg4];exact st2,wr4.ch.un (wr3.ch.un x2),rfl⟩
  refine⟨_,_,rfl,T4,P4,tv4,2,by omega,(wr.still f5).still f6,some ⟨w4.heap.size,0,none⟩,2,some ⟨w4.heap.size+1,0,none⟩,1,[x],[(u1,l1,u1 :: Q1),(u2,l2,u2 :: Q2)],_,rfl,rfl,?_,?_,fun y hy=>?_,fun y hy=>?_,by rw[el];exact For.two t1 t2 x1.ne x2.ne b1 b2 kx,by simp⟩
  ·have:=(sl_kid2 w4 W5 (p1,np1) (p2,np2) hW5).still f6
   rw[<-hpz1,<-hpz2,<-hnp1,<-hnp2,x1.pairs,x2.pairs] at this
   exact this
  ·have:=sl_str1 W5 W6 x hW6
   rw[z5] at this
   exact this
  ·cases hy
   exact wr.cg.fresh (Nat.le_refl _) (by show w4.heap.size<_;omega)
  ·cases hy
   exact wr.cg.fresh (by show w4.heap.size<=w4.heap.size+1;omega) (by show w4.heap.size+1<_;omega)
end
end

section
section
variable {nu sz:Nat} {w w' w0 w1 w2:World} {hb sb b cb m j k:Nat} {T T0 T1:Tay} {A:Ab} {P P1:List (Int×Int)} {tv tv1:Value}
theorem Wr.own (a:Wr nu sz w0 hb sb b T0 A cb w T P tv m w1 T1 P1 tv1 j) {q:Nat} (f:Fr (fun k=>k=q) w1 w2) (ho:Off sb b T1 cb tv1 w1 q) (hq:w.heap.size<=q) (h0:w0.heap.size<=w.heap.size):Wr nu sz w0 hb sb b T0 A cb w T P tv m w2 T1 P1 tv1 j:=
 ⟨a.cg.own f ho (Nat.le_trans h0 hq),a.len,⟨Nat.le_trans a.kp.1 f.size,fun k hk=>by
  obtain⟨h1,h2⟩:=a.kp.2 k hk
  have hk1:k<w.heap.size:=hk.1
  exact⟨(f.block k h2.1 (fun e=>by omega)).trans h1,Nat.lt_of_lt_of_le h2.1 f.size,h2.2⟩⟩,a.ch⟩
theorem Off.turn {q x:Nat} {f:Fr (fun k=>k=q) w1 w2} (h:Off sb b T1 cb tv1 w1 x):Off sb b T1 cb tv1 w2 x:=⟨Nat.lt_of_lt_of_le h.1 f.size,h.2⟩
def Rpl (nu sz:Nat) (w0:World) (hb sb b:Nat) (T0:Tay) (A:Ab) (cb:Nat) (w:World) (T:Tay) (P:List (Int×Int)) (tv:Value) (m h hh:Nat) (B:List ByteArray) (ks:List (Nat×Nat)) (i j:Nat) (l:List Pr) (w':World) (e:Ending):Prop:=
 ∃T' P' tv' k,k<=2/\Wr nu sz w0 hb sb b T0 A cb w T P tv m w' T' P' tv' k/\∃B' ks' Q',For (Tr nu sz (says P' A) h) B' ks' l Q'/\B'.length<=1/\∃v,e = .returned v/\NdO (Off sb b T' cb tv' w') w' (.iface 96 v) (.br hh (B.take i ++ B' ++ B.drop (j - 1)) (ks.take i ++ ks'.map (kidN nu) ++ ks.drop j))
set_option maxRecDepth 100000 in
theorem y_replaced (c:Cg nu sz w0 hb sb b T0 A cb w T P tv m) (s:HpS nu (says P A)) {nv:Value} {n:Nd} {h:Nat} {l:List Pr} {Q:List Nat} (nd:NdO (Off sb b T cb tv w) w nv n) (x:Un nu (Tr nu sz (says P A) h) (h+1) n l Q) (ok:n.Ok) (pk:Pok l) (ri:Rise l) (le:n.size<=46) (pl:l.length<1000000) (hm:m<=90) (hP:P.length+200<=6144) (room:cnt nu (ask nu (says P A))+2<nu / 4) (low:∀u,ask nu (says P A) u<=32)
  (hh:Nat) (ba:Option Addr) (bc:Nat) (B:List ByteArray) (ka:Option Addr) (kc:Nat) (ks:List (Nat×Nat)) (hB:Kys w ba bc B) (hK:Kds w ka kc ks) (oB:∀x,ba=some x->Off sb b T cb tv w x.block) (oK:∀x,ka=some x->Off sb b T cb tv w x.block) (i j:Nat) (h1:1<=j) (hi:i<=B.length) (hi2:i<=ks.length) (hj:j - 1<=B.length) (hj2:j<=ks.length) (hl:ks.length<=100) (hl3:B.length<=100) :
  Calls Tryz.prog 93 #[ptr cb,brV hh ba B.length bc ka ks.length kc,.int .i64 i,.int .i64 j,nv] w fun e w'=>Rpl nu sz w0 hb sb b T0 A cb w T P tv m (h+1) hh B ks i j l w' e:=by
 have h0:=c.on.fr.size
 obtain⟨W,hW⟩:∃W,(w.alloc (.cells #[.int .i64 hh,.slice ba B.length bc,.slice ka ks.length kc] 96)).alloc (.cells #[.int .i64 0,.slice none 0 0,.slice none 0 0] 96)=W:=⟨_,rfl⟩
 have fW:St w W:=hW▸((Fr.refl _ w).alloc _).alloc _
 have oA:W.heap[w.heap.size]? = some (.cells #[.int .i64 hh,.slice ba B.length bc,.slice ka ks.length kc] 96 (0,0)):=by
  have:=heap_alloc_new w (.cells #[.int .i64 hh,.slice ba B.length bc,.slice ka ks.length kc] 96)
  rw[<-hW]
  exact((Fr.refl (fun _=>False) _).alloc _).obj this id
 have oR:W.heap[w.heap.size+1]? = some (.cells #[.int .i64 0,.slice none 0 0,.slice none 0 0] 96 (0,0)):=by
  have:=heap_alloc_new (w.alloc (.cells #[.int .i64 hh,.slice ba B.length bc,.slice ka ks.length kc] 96)) (.cells #[.int .i64 0,.slice none 0 0,.slice none 0 0] 96)
  rw[hW] at this
  simpa using this
 have zW:W.heap.size=w.heap.size+2:=by rw[<-hW];simp
 have WT:=y_written (c.still fW) s (nd.kept fun k hk=>hk.still fW) x ok pk ri le pl hm hP room low
 have of1:Off sb b T cb tv W w.heap.size:=c.fresh (Nat.le_refl _) (by omega)
 have of2:Off sb b T cb tv W (w.heap.size+1):=c.fresh (by omega) (by omega)
 have HC:=Hd (ai fW (ai oA (ai oR (ai of1 (ai of2 (ai (hB.still fW) (ai (hK.still fW) (ai (fun x hx=>((oB x hx).still fW).2) (fun x hx=>((oK x hx).still fW).2)))))))))
 have HW:=Hd hW
 clear hW fW oA oR zW nd x ok pk ri le c s room low of1 of2 hB hK oB oK
 go_enter Tryz.func93,Tryz.ntmps93
 go_wp2_with fail
 rw[uh HW]
 refine WT.mono ?_
 clear WT HW
 rintro e w1 ⟨kv,bv,rfl,T1,P1,tv1,k1,hk1,wr,ka1,kc1,ba1,bc1,B1,ks1,Q1,rfl,rfl,hK1,hB1,oK1,oB1,fo,hb1⟩
 obtain⟨fW,oA,oR,of1,of2,hB,hK,oB,oK⟩:=uh HC
 obtain⟨kk1,of1'⟩:=wr.kp.2 _ of1
 obtain⟨kk2,of2'⟩:=wr.kp.2 _ of2
 have oA1:=kk1.trans oA
 have oR1:=kk2.trans oR
 have hks1:ks1.length<=2:=by have:=fo.2.2.2.1.len;simp at this;omega
 have BW:=b_with hh ba bc B ka kc ks i j ka1 kc1 (ks1.map (kidN nu)) ba1 bc1 B1 w1 (hB.same fun y hy=>(wr.kp.2 _ (oB y hy)).1) (hK.same fun y hy=>(wr.kp.2 _ (oK y hy)).1) hB1 hK1 h1 hi hi2 hj hj2 (by omega) (by simp;omega) (by omega) (by omega)
 have d0:w1.cell? ⟨w.heap.size,0,none⟩=some (.int .i64 hh):=cOo oA1 0
 have d1:w1.cell? ⟨w.heap.size,1,none⟩=some (.slice ba B.length bc):=cOo oA1 1
 have d2:w1.cell? ⟨w.heap.size,2,none⟩=some (.slice ka ks.length kc):=cOo oA1 2
 have HD:=Hd (ai wr (ai oR1 (ai of2' (ai fW fo))))
 clear wr oA1 oR1 of1' of2' kk1 kk2 hB hK oB oK fW oA oR of1 of2 hK1 hB1 oK1 oB1 fo hks1 HC
 generalize B.length=nb at *
 generalize ks.length=nk at *
 generalize (ks1.map (kidN nu)).length=nk1 at *
 generalize hnb1:B1.length=nb1 at *
 go_wp2_with fail
 refine BW.mono ?_
 rintro e w2 ⟨va,vc,ua,uc,rfl,hva,hua,bva,bua,f2⟩
 clear BW d0 d1 d2
 obtain⟨wr,oR1,of2',fW,fo⟩:=uh HD
 have o5:=f2.obj oR1 id
 have r0:w2.cell? ⟨w.heap.size+1,0,none⟩=some (.int .i64 0):=cOo o5 0
 have r1:w2.cell? ⟨w.heap.size+1,1,none⟩=some (.slice none 0 0):=cOo o5 1
 have r2:w2.cell? ⟨w.heap.size+1,2,none⟩=some (.slice none 0 0):=cOo o5 2
 have rz:∀o,w2.frozen? ⟨w.heap.size+1,o,none⟩=false:=fun o=>by simp[World.frozen?,o5]
 have HE:=Hd (ai hva (ai hua (ai bva (ai bua (ai f2 o5)))))
 clear hva hua bva bua f2 o5 wr oR1 of2' fW fo
 generalize hRB:B.take i ++ B1 ++ B.drop (j - 1)=RB at *
 generalize hRK:ks.take i ++ ks1.map (kidN nu) ++ ks.drop j=RK at *
 generalize hg:w.heap.size+1=g at *
 go_wp2_with fail
 obtain⟨hva,hua,bva,bua,f2,o5⟩:=uh HE
 obtain⟨wr,oR1,of2',fW,fo⟩:=uh HD
 have oF:=heap_setCell_same _ g 2 _ _ (.slice ua RK.length uc) (heap_setCell_same _ g 1 _ _ (.slice va RB.length vc) (heap_setCell_same w2 g 0 _ _ (.int .i64 (hh:Nat)) o5))
 obtain⟨w3,hw3⟩:∃w3,((w2.setCell ⟨g,0,none⟩ (.int .i64 (hh:Nat))).setCell ⟨g,1,none⟩ (.slice va RB.length vc)).setCell ⟨g,2,none⟩ (.slice ua RK.length uc)=w3:=⟨_,rfl⟩
 have f6:Fr (fun k=>k=g) w2 w3:=hw3▸(((Fr.refl (fun k=>k=g) w2).setCell (.inl rfl) _).setCell (.inl rfl) _).setCell (.inl rfl) _
 rw[hw3] at oF
 refine bodyPost_ret (results_cell_row Tryz.results93 _ _ g 96 #[.int .i64 hh,.slice va RB.length vc,.slice ua RK.length uc] (0,0) _ (by rfl) (by rw[hw3];exact oF) Tryz.underlying96 rfl (by kernel_rfl)) rfl ?_
 rw[hw3]
 have wr2:=(wr.after fW).still f2
 have og:=(of2'.still f2).2
 have wr3:=wr2.own f6 og (by omega) h0
 have hne:∀y,w1.heap.size<=y->y≠g:=fun y hy e=>by have:=of2'.1;omega
 refine⟨T1,P1,tv1,k1,hk1,wr3,B1,ks1,Q1,fo,by omega,brV hh va RB.length vc ua RK.length uc,rfl,?_⟩
 rw[hRB,hRK]
 exact⟨va,vc,ua,uc,rfl,hva.kept f6 (fun y hy=>hne _ (bva y hy).1),hua.kept f6 (fun y hy=>hne _ (bua y hy).1),fun y hy=>(wr.cg.fresh (w':=w2) (bva y hy).1 (bva y hy).2).turn (f:=f6),fun y hy=>(wr.cg.fresh (w':=w2) (bua y hy).1 (bua y hy).2).turn (f:=f6)⟩
end
end
end Go.Proofs.YtbiopjmpdhcjgaaGreatDoor
