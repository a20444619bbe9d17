/- TreePlays: what nothing hangs on is swept. -/
import Derived.Test.YtbiopjmpdhcjgaaGreatDoorJg
namespace Go.Proofs.YtbiopjmpdhcjgaaGreatDoor
open Go.RowKit
section
variable {nu sz:Nat} {w w' w0:World} {X Y:Nat->Prop} {hb sb b N n1 n2:Nat} {T:Tay} {A:Ab} {s:Int} {base:Nat->Int} {r:Nat} {L:List Pr} {Q:List Nat} {la:Option Addr} {lc:Nat} {ks:List Kl} {kv:Value}
theorem kq_in (Q:List Nat) (ks:List Kl) (u:Nat):u∈(Q :: ks.map (·.1.2.2)).flatten ↔ u∈Q\/inK (kps ks) u:=by
 rw[List.flatten_cons,List.mem_append,List.mem_flatten]
 refine⟨fun h=>h.imp id fun⟨l,hl,hu⟩=>?_,fun h=>h.imp id fun⟨p,hp,hu⟩=>?_⟩
 ·obtain⟨q,hq,rfl⟩:=List.mem_map.1 hl
  exact⟨q.1,List.mem_map.2 ⟨q,hq,rfl⟩,hu⟩
 ·obtain⟨q,hq,rfl⟩:=List.mem_map.1 hp
  exact⟨q.1.2.2,List.mem_map.2 ⟨q,hq,rfl⟩,hu⟩
theorem row_all (w W:World) (r:Nat) (lv:Value) (h1:lv.oneCell'=true) (hW:w.alloc (.cells #[.int .u64 (r:Nat),lv] 35)=W) (ka:Option Addr) (kc:Nat) (ks:List Kl) (S:Sl w 2 ka ks.length kc (rtcl (kvs ks))) (h4:ks.length<=4) :
  ∃va vc W',(Builtin.append_ #[36,36] 36 #[.slice (some ⟨w.heap.size,0,none⟩) 1 1,.slice ka ks.length kc]).run Tryz.prog W = .ok (.slice va ((r,lv) :: kvs ks).length vc) W'/\St w W'/\Sl W' 2 va ((r,lv) :: kvs ks).length vc (rtcl ((r,lv) :: kvs ks)):=by
 have fW:St w W:=hW▸(Fr.refl _ w).alloc _
 have o:W.heap[w.heap.size]? = some (.cells #[.int .u64 (r:Nat),lv] 35 (0,0)):=hW▸heap_alloc_new w _
 have zW:W.heap.size=w.heap.size+1:=by rw[<-hW];simp
 have own0:W.ownsRow w.heap.size 35 2 (.slice (some ⟨w.heap.size,0,none⟩) 1 1) 1 [.int .u64 (r:Nat),lv]:=
  ⟨rfl,.inr ⟨w.heap.size,1,_,rfl,Nat.le_refl _,o,Nat.le_refl _,by unfold maxLen;omega,rfl,rfl⟩⟩
 obtain⟨v',W',hr,row,gr,_⟩:=run_more elt_R 36 own0 (S.still fW) (by omega) (by omega)
 have e:[.int .u64 (r:Nat),lv] ++ rtcl (kvs ks)=rtcl ((r,lv) :: kvs ks):=rfl
 have en:((r,lv) :: kvs ks).length=1+ks.length:=by rw[List.length_cons,kvs_len];omega
 rw[e] at row
 rw[en]
 obtain⟨va,vc,rfl⟩:∃va vc,v' = .slice va (1+ks.length) vc:=by
  rcases rowr_form row with ⟨e,h0⟩ | ⟨gg,cap,e⟩
  ·omega
  ·exact⟨_,cap,e⟩
 have g2:Fr (fun j=>(Value.slice (some ⟨w.heap.size,0,none⟩) 1 1).ownBlock=some j) W W':=(Fr.refl _ _).grown gr (fun r e=>.inl e)
 refine⟨va,vc,W',hr,fW.trans' g2 (fun j hj=>.inr (by simp[Value.ownBlock] at hj;omega)),sl_of_row row (rtcl_one fun p hp=>?_)⟩
 rcases List.mem_cons.1 hp with rfl | hp
 ·exact h1
 ·obtain⟨q,_,rfl⟩:=List.mem_map.1 hp
  rfl
set_option maxRecDepth 100000 in
set_option maxHeartbeats 4000000 in
theorem tp_C2 (h:Hp nu sz w hb sb b T A []) (t:Stds nu sz (says [] A) r L Q (kps ks)) (M:TpM w n1 n2 hb sb r L la lc ks Y kv) (nt:∀k,TpX hb n1 n2 Y kv k->¬tfoot sb b T k) (h4:ks.length<=4) (hl:L.length<=400/\∀q∈ks,q.1.2.1.length<=400) (hm:10 * cnt nu (ask nu (says [] A))+10<=6144) :
  Calls Tryz.prog 27 #[ptr n1,ptr (n1+1),ptr n2,ptr (n2+1)] w fun e w'=>e = .returned (.tuple #[])/\∃T' P',Onx w sb b T w' T' sz A P' false/\Frs nu sz (says P' A) r L Q (kps ks)/\cnt nu (ask nu (says P' A))<=cnt nu (ask nu (says [] A)):=by
 obtain⟨ka,kc,rfl⟩:∃ka kc,kv = .slice ka ks.length kc:=by
  rcases rowr_form M.rk with ⟨e,h0⟩ | ⟨gg,cap,e⟩
  ·exact⟨none,0,by rw[e,h0]⟩
  ·exact⟨_,cap,e⟩
 obtain⟨wD,hwD⟩:∃wD,w.drew=wD:=⟨_,rfl⟩
 have fD:St w wD:=hwD▸(Fr.refl _ w).drewN 1
 have M1:=M.still fD
 obtain⟨W1,hW1⟩:∃W,wD.alloc (.cells #[.int .u64 (r:Nat),.slice la L.length lc] 35)=W:=⟨_,rfl⟩
 obtain⟨va,vc,W2,hap,f2,sl2⟩:=row_all wD W1 r (.slice la L.length lc) rfl hW1 ka kc ks (sl_of_row M1.rk (kvs_one ks)) h4
 have f1:St wD W1:=hW1▸(Fr.refl _ wD).alloc _
 have f02:St w W2:=fD.trans' f2 nE
 have SW:=t_sweepR (h.still f02) t.st va vc ((r,.slice la L.length lc) :: kvs ks) (Q :: ks.map (·.1.2.2)) sl2 (by simp[kvs_len]) (fun i p Q' h1 h2=>by
  match i,h1,h2 with
  | 0,h1,h2=>
   cases (Option.some.inj h1);cases (Option.some.inj h2)
   exact⟨L,t.rt,t.ri,hl.1⟩
  | i+1,h1,h2=>
   rw[List.getElem?_cons_succ] at h1 h2
   rw[List.getElem?_map] at h2
   cases hq:ks[i]? with
   | none=>rw[hq] at h2;cases h2
   | some q=>
    rw[hq] at h2
    have h3:=kvs_at hq
    rw[h1] at h3
    cases (Option.some.inj h2);cases (Option.some.inj h3)
    have hm:=List.mem_of_getElem? hq
    obtain⟨a1,a2,_⟩:=t.kt q.1 (List.mem_map.2 ⟨q,hm,rfl⟩)
    exact⟨q.1.2.1,a1,a2,hl.2 q hm⟩) (by simp[kvs_len];omega) (by simp;omega)
 have HCE:=@Hd _ (fun(w':World) (f:St w w')=>show w'.cell? ⟨n1,0,none⟩=some (ptr sb)/\w'.cell? ⟨n1+1,0,none⟩=some (ptr hb)/\w'.cell? ⟨n2,0,none⟩=some (.int .u64 (r:Nat))/\w'.cell? ⟨n2,1,none⟩=some (.slice la L.length lc)/\w'.cell? ⟨n2+1,0,none⟩=some (.slice ka ks.length kc) from⟨f.cell' M.bs.c id,f.cell' M.bh.c id,f.cell' (cOo M.br.o 0) id,f.cell' (cOo M.br.o 1) id,f.cell' M.bk.c id⟩)
 have HSW:=Hd SW;have HW1:=Hd hW1;have HAP:=Hd hap;have HF:=Hd (ai f02 (ai t (ai f1 fD)))
 have S0:=uh HCE _ fD;have S1:=uh HCE W1 (fD.trans' f1 nE);have S2:=uh HCE W2 f02;have HWD:=Hd hwD
 clear SW hwD hW1 hap f02 t f1 fD M M1 h f2 sl2
 go_enter Tryz.func27,Tryz.ntmps27
 go_wp2_with fail
 refine wp_region_held_drew (S:=fun w'=>w'.cell? ⟨n1,0,none⟩=some (ptr sb)/\w'.cell? ⟨n1+1,0,none⟩=some (ptr hb)/\w'.cell? ⟨n2,0,none⟩=some (.int .u64 (r:Nat))/\w'.cell? ⟨n2,1,none⟩=some (.slice la L.length lc)/\w'.cell? ⟨n2+1,0,none⟩=some (.slice ka ks.length kc)) (by kernel_rfl) (by rw[uh HWD];exact S0) (fun hHeld=>?_)
 rw[uh HWD] at hHeld ⊢
 clear S0
 refine tkO 0 ?_ hHeld rfl ?_ ?_
 rotate_left
 ·intro w q;go_simp;try with_reducible rfl
 simp only[apt,List.set]
 refine tkO 1 ?_ hHeld rfl ?_ ?_
 rotate_left
 ·intro w q;go_simp;try with_reducible rfl
 simp only[apt,List.set]
 refine tkO 2 ?_ hHeld rfl ?_ ?_
 rotate_left
 ·intro w q;go_simp;try with_reducible rfl
 simp only[apt,List.set]
 refine tkO 4 ?_ hHeld rfl ?_ ?_
 rotate_left
 ·intro w q;go_simp;try with_reducible rfl
 simp only[apt,List.set]
 refine rdO 3 rfl (fun K hK=>?_)
 go_simp
 rw[uh HW1]
 refine hK.out _ _ S1 (fun _=>?_)
 clear hK K hHeld
 refine rdO 5 rfl (fun K hK=>?_)
 refine stp_append rfl (.tmp 7) (.tmp 8) 36 rfl _ _ rfl rfl _ W2 (uh HAP) ?_
 refine hK.out _ _ S2 (fun _=>?_)
 clear hK K S1
 simp only[Act.put,List.setIfInBounds_toArray]
 refine rdO 6 rfl (fun K hK=>?_)
 go_simp
 go_wp2_with fail
 refine(uh HSW).mono ?_
 clear HSW
 rintro e w5 ⟨rfl,g5,⟨T5,P5,o5,e5,l5⟩,sg,ak,ke,-⟩
 subst e5
 obtain⟨f02,t,f1,fD⟩:=uh HF
 obtain⟨fs,hcn⟩:=t.swp ⟨sg,ak,ke⟩ (kq_in Q ks)
 have HZ:=Hd (ai (o5.after f02) (ai fs hcn))
 obtain⟨s1,s2,s3,s4,s5⟩:=S2
 refine hK.out _ _ ⟨o5.fr.cell' s1 (nt _ (.inr (.inl rfl))),o5.fr.cell' s2 (nt _ (.inr (.inr (.inl rfl)))),o5.fr.cell' s3 (nt _ (.inr (.inr (.inr (.inl rfl))))),o5.fr.cell' s4 (nt _ (.inr (.inr (.inr (.inl rfl))))),o5.fr.cell' s5 (nt _ (.inr (.inr (.inr (.inr (.inl rfl))))))⟩ (fun hHeld=>?_)
 clear hK K s1 s2 s3 s4 s5 o5 sg ak ke t f1 fD fs hcn f02 HF
 refine wpAnyH_done (by kernel_rfl) ?_ _
 go_wp2_with fail
 go_end0
 obtain⟨o,fs,hcn⟩:=uh HZ
 exact⟨rfl,T5,P5,o,fs,hcn⟩
theorem tp_swp (hc:HpC nu sz w0 X w hb sb b T A N True s base) (M:TpM w n1 n2 hb sb r L la lc ks Y kv) (hX:∀k,TpX hb n1 n2 Y kv k->X k) (t:Stds nu sz (rb base) r L Q (kps ks)) (h4:ks.length<=4) (hl:L.length<=400/\∀q∈ks,q.1.2.1.length<=400) (hm:10 * cnt nu (ask nu (rb base))+10<=6144) (hs:s+30729<4294967296) :
  Calls Tryz.prog 9 #[ptr sb,.func (.func 27) #[] #[ptr n1,ptr (n1+1),ptr n2,ptr (n2+1)]] w fun e w'=>e = .returned (.int .i64 0)/\Fr (fun k=>tfoot sb b T k\/False) w w'/\∃T' A' base',HpC nu sz w0 X w' hb sb b T' A' N True (s+30729) base'/\Frs nu sz (rb base') r L Q (kps ks)/\cnt nu (ask nu (rb base'))<=cnt nu (ask nu (rb base)):=by
 have sy:=hc.says []
 rw[homed_nil] at sy
 have DO:=hc.do_ (V:=fun _=>False) (g:=27) (fi:=#[]) (ca:=#[ptr n1,ptr (n1+1),ptr n2,ptr (n2+1)]) (R:=fun h P' _=>h = .well/\Frs nu sz (says P' A) r L Q (kps ks)/\cnt nu (ask nu (says P' A))<=cnt nu (ask nu (rb base))) (fun k hk=>hk.elim) (fun e=>e) (fun _ _ _ _ _ h _ _=>h) (fun w1 f1=>acts_of (fun _ _=>by kernel_rfl) ((tp_C2 (hc.toHp.still f1) (by rw[sy];exact t) (M.still f1) (fun k hk=>hc.hd.ap k (hX k hk)) h4 hl (by rw[sy];exact hm)).mono (by
  rintro e w' ⟨rfl,T',P',o,fs,hcn⟩
  rw[sy] at hcn
  exact⟨.well,rfl,.inl rfl,T',P',OnxX.of o,rfl,fs,hcn⟩))) hs
 unfold DidH at DO
 refine DO.mono ?_
 rintro e w' ⟨fr,⟨P',T',A',⟨_,fs,hcn⟩,rfl,hc'⟩ | ⟨i,P',T',⟨hi,_⟩,_⟩⟩
 ·rw[hc.says P'] at fs hcn
  exact⟨rfl,fr,T',A',_,hc',fs,hcn⟩
 ·exact(well_errno hi.symm).elim
end
end Go.Proofs.YtbiopjmpdhcjgaaGreatDoor
