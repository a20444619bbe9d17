/- TreePlays: what stands between two changes. -/
import Derived.Test.YtbiopjmpdhcjgaaGreatDoorZ36
import Derived.Test.YtbiopjmpdhcjgaaGreatDoorZ28
namespace Go.Proofs.YtbiopjmpdhcjgaaGreatDoor
open Go.RowKit
abbrev Kl:=Kp×Option Addr×Nat
def kvs (ks:List Kl):List (Nat×Value):=ks.map fun p=>(p.1.1,Value.slice p.2.1 p.1.2.1.length p.2.2)
def kps (ks:List Kl):List Kp:=ks.map (·.1)
theorem kvs_len (ks:List Kl):(kvs ks).length=ks.length:=List.length_map ..
theorem kvs_at {ks:List Kl} {j:Nat} {p:Kl} (h:ks[j]? = some p):(kvs ks)[j]? = some (p.1.1,Value.slice p.2.1 p.1.2.1.length p.2.2):=by
 unfold kvs;rw[List.getElem?_map,h];rfl
theorem rtcl_snd:∀{l:List (Nat×Value)} {k:Nat} {p:Nat×Value},l[k]? = some p->(rtcl l)[k * 2+1]? = some p.2
 | [],_,_,h=>by simp at h
 | q :: l,0,p,h=>by cases (Option.some.inj h:q=p);rfl
 | q :: l,k+1,p,h=>by
  have:=rtcl_snd (l:=l) (k:=k) (p:=p) (by simpa using h)
  rw[show(k+1) * 2+1=k * 2+1+1+1 by omega]
  simpa [rtcl] using this
theorem rtcl_app:∀a b:List (Nat×Value),rtcl (a ++ b)=rtcl a ++ rtcl b
 | [],_=>rfl
 | k :: l,b=>by simp[rtcl,rtcl_app l b]
theorem rtcl_one {l:List (Nat×Value)} (h:∀p∈l,p.2.oneCell'=true):∀u∈rtcl l,u.oneCell'=true:=by
 induction l with
 | nil=>intro u hu;cases hu
 | cons k l ih=>
  intro u hu
  simp only[rtcl,List.mem_cons] at hu
  rcases hu with rfl | rfl | hu
  ·rfl
  ·exact h _ (List.mem_cons_self ..)
  ·exact ih (fun p hp=>h p (List.mem_cons_of_mem _ hp)) u hu
theorem kvs_one (ks:List Kl):∀u∈rtcl (kvs ks),u.oneCell'=true:=rtcl_one fun p hp=>by
 obtain⟨q,_,rfl⟩:=List.mem_map.1 hp
 rfl
theorem elt_R:ElT 35 36 2:=elt_of (z:=.agg #[.int .u64 0,.slice none 0 0]) (bytes:=32) (by kernel_rfl) (by decide) (by decide) (by decide) Tryz.underlying36
structure LiY (w:World) (Y:Nat->Prop) (la:Option Addr) (lc:Nat) (L:List Pr):Prop where
 lf:Lf w la lc L
 y:∀x,la=some x->Y x.block
theorem LiY.kept {w w':World} {Y F:Nat->Prop} {la:Option Addr} {lc:Nat} {L:List Pr} (h:LiY w Y la lc L) (f:Fr F w w') (hF:∀k,Y k->¬F k):LiY w' Y la lc L:=⟨h.lf.kept f (fun x e=>hF _ (h.y x e)),h.y⟩
theorem LiY.more {w:World} {Y Z:Nat->Prop} {la:Option Addr} {lc:Nat} {L:List Pr} (h:LiY w Y la lc L) (hY:∀k,Y k->Z k):LiY w Z la lc L:=⟨h.lf,fun x e=>hY _ (h.y x e)⟩
structure TpM (wr:World) (n1 n2 hb sb r:Nat) (L:List Pr) (la:Option Addr) (lc:Nat) (ks:List Kl) (Y:Nat->Prop) (kv:Value):Prop where
 bs:Box wr n1 (ptr sb)
 bh:Box wr (n1+1) (ptr hb)
 br:RtL wr n2 r (.slice la L.length lc)
 bk:Box wr (n2+1) kv
 rk:wr.ownsRow (n2+2) 35 2 kv ks.length (rtcl (kvs ks))
 ry:∀k,kv.ownBlock=some k->¬Y k
 li:LiY wr Y la lc L
 lk:∀q∈ks,LiY wr Y q.2.1 q.2.2 q.1.2.1
 dY:∀k,Y k->n2+1<k
 d:n1+1<n2
def TpX (hb n1 n2:Nat) (Y:Nat->Prop) (kv:Value):Nat->Prop:=fun k=>k=hb\/k=n1\/k=n1+1\/k=n2\/k=n2+1\/Y k\/kv.ownBlock=some k
section
variable {w w' wr:World} {n1 n2 hb sb r:Nat} {L:List Pr} {la:Option Addr} {lc:Nat} {ks:List Kl} {Y Z F:Nat->Prop} {kv:Value}
theorem TpM.lo (h:TpM w n1 n2 hb sb r L la lc ks Y kv) {k:Nat} (hk:kv.ownBlock=some k):n2+1<k:=by have:=(h.rk.lt k hk).1;omega
theorem TpM.kept (h:TpM w n1 n2 hb sb r L la lc ks Y kv) (f:Fr F w w') (hF:∀k,TpX hb n1 n2 Y kv k->¬F k):TpM w' n1 n2 hb sb r L la lc ks Y kv:=
 have hY:∀k,Y k->¬F k:=fun k hk=>hF k (.inr (.inr (.inr (.inr (.inr (.inl hk))))))
 ⟨h.bs.kept f (hF _ (.inr (.inl rfl))),h.bh.kept f (hF _ (.inr (.inr (.inl rfl)))),h.br.kept f (hF _ (.inr (.inr (.inr (.inl rfl))))),h.bk.kept f (hF _ (.inr (.inr (.inr (.inr (.inl rfl)))))),row_kept h.rk f (fun k hk=>hF k (.inr (.inr (.inr (.inr (.inr (.inr hk))))))),h.ry,h.li.kept f hY,fun q hq=>(h.lk q hq).kept f hY,h.dY,h.d⟩
theorem TpM.still (h:TpM w n1 n2 hb sb r L la lc ks Y kv) (f:St w w'):TpM w' n1 n2 hb sb r L la lc ks Y kv:=h.kept f (fun _ _ x=>x)
theorem TpM.more (h:TpM w n1 n2 hb sb r L la lc ks Y kv) (hY:∀k,Y k->Z k) (hZ:∀k,Z k->n2+1<k/\kv.ownBlock≠some k):TpM w n1 n2 hb sb r L la lc ks Z kv:=
 ⟨h.bs,h.bh,h.br,h.bk,h.rk,fun k hk hz=>(hZ k hz).2 hk,h.li.more hY,fun q hq=>(h.lk q hq).more hY,fun k hk=>(hZ k hk).1,h.d⟩
theorem TpM.root (h:TpM w n1 n2 hb sb r L la lc ks Y kv) {r':Nat} {L':List Pr} {la':Option Addr} {lc':Nat} (l:LiY w Y la' lc' L'):TpM ((w.setCell ⟨n2,0,none⟩ (.int .u64 (r':Nat))).setCell ⟨n2,1,none⟩ (.slice la' L'.length lc')) n1 n2 hb sb r' L' la' lc' ks Y kv:=by
 have f:Fr (fun k=>k=n2) w ((w.setCell ⟨n2,0,none⟩ (.int .u64 (r':Nat))).setCell ⟨n2,1,none⟩ (.slice la' L'.length lc')):=((Fr.refl (fun k=>k=n2) w).setCell (.inl rfl) _).setCell (.inl rfl) _
 have d:=h.d
 have nY:∀k,Y k->¬k=n2:=fun k hk=>by have:=h.dY k hk;omega
 refine⟨h.bs.kept f (show ¬n1=n2 by omega),h.bh.kept f (show ¬n1+1=n2 by omega),⟨?_⟩,h.bk.kept f (show ¬n2+1=n2 by omega),row_kept h.rk f (fun k hk e=>by have:=h.lo hk;have e:k=n2:=e;omega),h.ry,l.kept f nY,fun q hq=>(h.lk q hq).kept f nY,h.dY,h.d⟩
 exact heap_setCell_same _ n2 1 _ _ (.slice la' L'.length lc') (heap_setCell_same w n2 0 _ _ (.int .u64 (r':Nat)) h.br.o)
theorem TpM.keep (h:TpM w n1 n2 hb sb r L la lc ks Y kv) (Q:List Nat) {kv':Value} (f:Fr F w w') (hF:∀k,F k->kv.ownBlock=some k) (hk':∀k,kv'.ownBlock=some k->kv.ownBlock=some k\/w.heap.size<=k) (hY:∀k,Y k->k<w.heap.size) (row:w'.ownsRow (n2+2) 35 2 kv' (ks.length+1) (rtcl (kvs ks) ++ [.int .u64 (r:Nat),.slice la L.length lc])) :
  TpM (w'.setCell ⟨n2+1,0,none⟩ kv') n1 n2 hb sb r L la lc (ks ++ [((r,L,Q),la,lc)]) Y kv':=by
 have d:=h.d
 have lr:=h.bk.lt
 have nk':∀k,kv'.ownBlock=some k->n2+1<k:=fun k hk=>(hk' k hk).elim h.lo (fun e=>by omega)
 have f2:Fr (fun k=>k=n2+1) w' (w'.setCell ⟨n2+1,0,none⟩ kv'):=(Fr.refl (fun k=>k=n2+1) w').setCell (.inl rfl) _
 have nF:∀k,k<=n2+1->¬F k:=fun k hk hf=>by have:=h.lo (hF k hf);omega
 have nY:∀k,Y k->¬F k:=fun k hk hf=>h.ry k (hF k hf) hk
 have nY2:∀k,Y k->¬k=n2+1:=fun k hk=>by have:=h.dY k hk;omega
 have li:∀q∈ks ++ [((r,L,Q),la,lc)],LiY w Y q.2.1 q.2.2 q.1.2.1:=fun q hq=>by
  rcases List.mem_append.1 hq with hq | hq
  ·exact h.lk q hq
  ·rw[List.mem_singleton.1 hq];exact h.li
 refine⟨(h.bs.kept f (nF _ (by omega))).kept f2 (show ¬n1=n2+1 by omega),(h.bh.kept f (nF _ (by omega))).kept f2 (show ¬n1+1=n2+1 by omega),(h.br.kept f (nF _ (by omega))).kept f2 (show ¬n2=n2+1 by omega),(h.bk.kept f (nF _ (by omega))).set kv',?_,fun k hk hy=>(hk' k hk).elim (fun e=>h.ry k e hy) (fun e=>by have:=hY k hy;omega),(h.li.kept f nY).kept f2 nY2,fun q hq=>((li q hq).kept f nY).kept f2 nY2,h.dY,h.d⟩
 have e:rtcl (kvs (ks ++ [((r,L,Q),la,lc)]))=rtcl (kvs ks) ++ [.int .u64 (r:Nat),.slice la L.length lc]:=by
  unfold kvs;rw[List.map_append,rtcl_app];rfl
 rw[e,List.length_append]
 exact row_kept row f2 (fun k hk e=>by have:=nk' k hk;have e:k=n2+1:=e;omega)
end
end Go.Proofs.YtbiopjmpdhcjgaaGreatDoor
