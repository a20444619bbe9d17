/- Joined: Zh Uh. -/
import Derived.Test.YtbpndmghlnadiaaGreatDoorR18
import Derived.Test.YtbpndmghlnadiaaGreatDoorR25
namespace Go.Proofs.YtbpndmghlnadiaaGreatDoor
open Go.RowKit
set_option maxHeartbeats 4000000

section
theorem pkW_inj {B C : List Nat} (hl : B.length = C.length) (hB : ∀ t, B.getD t 0 < 256) (hC : ∀ t, C.getD t 0 < 256) (hn : B.length <= 60000) (e : pkW B = pkW C) : B = C := by
 obtain ⟨_, _, p3⟩ := pack_back (fun t => B.getD t 0) B.length (fun i _ => hB i) hn
 obtain ⟨_, _, q3⟩ := pack_back (fun t => C.getD t 0) C.length (fun i _ => hC i) (by omega)
 apply List.ext_getElem hl
 intro i h1 h2
 have hj : i / 8 < (B.length + 7) / 8 := by omega
 have e1 : (pkW B)[i / 8]? = some (packF (fun t => B.getD t 0) B.length (i / 8 + 1)) := by simp [pkW, hj]
 have e2 : (pkW C)[i / 8]? = some (packF (fun t => C.getD t 0) C.length (i / 8 + 1)) := by simp [pkW, show i / 8 < (C.length + 7) / 8 by omega]
 rw [e, e2] at e1
 have e3 := Option.some.inj e1
 have b1 := p3 i h1
 have b2 := q3 i h2
 unfold byteF at b1 b2
 rw [Nat.add_comm 1 (i / 8)] at b1 b2
 rw [<- e3, b2] at b1
 simpa [List.getD, List.getElem?_eq_getElem h1, List.getElem?_eq_getElem h2] using b1.symm
theorem join_first (L : Nat -> Nat) (Z : Nat -> Nat -> Nat) : ∀ n, ∃ rest, joinL L Z (n + 1) = partL L Z 0 ++ rest
 | 0 => ⟨[], by simp [joinL]⟩
 | n + 1 => by
  obtain ⟨r, e⟩ := join_first L Z n
  exact ⟨r ++ partL L Z (n + 1), by rw [joinL, e, List.append_assoc]⟩
theorem jk_first (k : ByteArray) (K : List ByteArray) (hk : k.size <= 80) : ∃ rest, jk (k :: K) = k.size :: (rowL (byF k) k.size ++ rest) := by
 obtain ⟨r, e⟩ := join_first (kL (k :: K)) (kZ (k :: K)) K.length
 refine ⟨r, ?_⟩
 unfold jk
 rw [List.length_cons, e]
 have e1 : kL (k :: K) 0 = k.size := rfl
 have e2 : kZ (k :: K) 0 = byF k := rfl
 unfold partL
 rw [e1, e2, uv_lo _ (by omega)]
 rfl
theorem first_inj {k k' : ByteArray} {K K' : List ByteArray} (h : k.size <= 80) (h' : k'.size <= 80) (e : jk (k :: K) = jk (k' :: K')) : k = k' := by
 obtain ⟨r, e1⟩ := jk_first k K h
 obtain ⟨r', e2⟩ := jk_first k' K' h'
 rw [e1, e2] at e
 obtain ⟨es, et⟩ := List.cons.inj e
 have hr := List.append_inj_left et (by rw [rowL_len, rowL_len, es])
 rw [<- strB_byF k, <- strB_byF k', es]
 refine strB_congr _ _ _ fun i hi => ?_
 have := congrArg (fun l => l.getD i 0) hr
 replace this : (rowL (byF k) k.size).getD i 0 = (rowL (byF k') k'.size).getD i 0 := this
 rw [rowL_get _ _ _ (by omega), rowL_get _ _ _ (by omega)] at this
 exact this
section
variable {nu sz : Nat} {f : Nat -> Int}
theorem Std.one {u : Nat} {n n' : Nd} (s : Std nu sz f u n) (s' : Std nu sz f u n') : n.high = n'.high /\ n.items = n'.items /\ jk n.keys = jk n'.keys := by
 have l1 := n.wds_len s.ok.kok
 have l2 := n'.wds_len s'.ok.kok
 have hss : n.size = n'.size := s.ak.symm.trans s'.ak
 have e : n.wds = n'.wds := by
  apply List.ext_getElem (by omega)
  intro i h1 h2
  have a1 := s.wd i _ (List.getElem?_eq_getElem h1)
  have a2 := s'.wd i _ (List.getElem?_eq_getElem h2)
  rw [a1] at a2
  exact Int.ofNat_inj.1 a2
 have bnd : ∀ {m : Nd}, Std nu sz f u m -> m.high < 256 /\ m.items.length < 256 /\ kb m.keys <= 300 := fun {m} s => by
  have h1 := s.le
  have h2 := s.ok.h16
  have h3 : m.size = hsz m.items.length (kb m.keys) := rfl
  rw [h3] at h1
  unfold hsz need at h1
  omega
 obtain ⟨b1, b2, b3⟩ := bnd s
 obtain ⟨c1, c2, c3⟩ := bnd s'
 unfold Nd.wds at e
 obtain ⟨eh, et⟩ := List.cons.inj e
 obtain ⟨p1, p2, p3, _, _⟩ := hw_parts n.high n.items.length (kb n.keys) b1 b2 (by omega)
 obtain ⟨q1, q2, q3, _, _⟩ := hw_parts n'.high n'.items.length (kb n'.keys) c1 c2 (by omega)
 rw [eh] at p1 p2 p3
 have e1 : n.high = n'.high := by have := p1.symm.trans q1; omega
 have e2 : n.items.length = n'.items.length := by have := p2.symm.trans q2; omega
 have e3 : kb n.keys = kb n'.keys := by have := p3.symm.trans q3; omega
 obtain ⟨i1, i2⟩ := List.append_inj et e2
 exact ⟨e1, i1, pkW_inj (by rw [jk_len s.ok.kok, jk_len s'.ok.kok, e3]) (jk_lt s.ok.kok) (jk_lt s'.ok.kok) (by rw [jk_len s.ok.kok]; omega) i2⟩
theorem Un.hi {T : Nat -> List Pr -> List Nat -> Prop} {h : Nat} {n : Nd} {l : List Pr} {Q : List Nat} (x : Un nu T h n l Q) : n.high = h := by
 rcases x with ⟨e, rfl, _⟩ | ⟨_, B, ks, rfl, _⟩
 ·exact e.symm
 ·rfl
theorem Tr.hi : ∀ {h h' u : Nat} {l l' : List Pr} {Q Q' : List Nat}, Tr nu sz f h u l Q -> Tr nu sz f h' u l' Q' -> h = h'
 | 0, _, _, _, _, _, _, t, _ => t.elim
 | _, 0, _, _, _, _, _, _, t => t.elim
 | h + 1, h' + 1, _, _, _, _, _, ⟨n, _, s, x, _⟩, ⟨n', _, s', x', _⟩ => by
  have := (s.one s').1
  rw [x.hi, x'.hi] at this
  exact this
theorem Tr.meet : ∀ {h u : Nat} {l l' : List Pr} {Q Q' : List Nat}, Tr nu sz f h u l Q -> Tr nu sz f h u l' Q' -> ∃ p ∈ l, ∃ q ∈ l', p.1 = q.1
 | 0, _, _, _, _, _, t, _ => t.elim
 | h + 1, u, l, l', _, _, ⟨n, _, s, x, _⟩, ⟨n', _, s', x', _⟩ => by
  obtain ⟨o1, o2, o3⟩ := s.one s'
  rcases x with ⟨e, rfl, hne, _⟩ | ⟨h2, B, ks, rfl, fo⟩
  ·rcases x' with ⟨_, rfl, hne', _⟩ | ⟨h2', _⟩
   ·cases l with
    | nil => exact absurd rfl hne
    | cons p l =>
     cases l' with
     | nil => exact absurd rfl hne'
     | cons q l' =>
      refine ⟨p, List.mem_cons_self .., q, List.mem_cons_self .., ?_⟩
      exact first_inj (s.ok.kok p.1 (by simp [Nd.keys])).2 (s'.ok.kok q.1 (by simp [Nd.keys])).2 o3
   ·omega
  ·rcases x' with ⟨e, _⟩ | ⟨_, B', ks', rfl, fo'⟩
   ·omega
   ·cases ks with
    | nil => have := fo.2.2.2.1.len; simp at this
    | cons k ks =>
     cases ks' with
     | nil => have := fo'.2.2.2.1.len; simp at this
     | cons k' ks' =>
      have b1 := s.ok.form.2.2.2 (kidN nu k) (by simp)
      have b2 := s'.ok.form.2.2.2 (kidN nu k') (by simp)
      have ei : itN (kidN nu k).1 (kidN nu k).2 = itN (kidN nu k').1 (kidN nu k').2 := by
       have := congrArg (fun l => l.getD 0 0) o2
       simpa [Nd.items] using this
      obtain ⟨p1, _, _⟩ := it_parts _ _ b1.1 b1.2
      obtain ⟨q1, _, _⟩ := it_parts _ _ b2.1 b2.2
      rw [ei] at p1
      have ea : (kidN nu k).1 = (kidN nu k').1 := by have := p1.symm.trans q1; omega
      have eu : k.1 = k'.1 := by
       have : fi nu + 8 * k.1 = fi nu + 8 * k'.1 := ea
       omega
      have t1 := fo.1 k (List.mem_cons_self ..)
      have t2 := fo'.1 k' (List.mem_cons_self ..)
      rw [<- eu] at t2
      obtain ⟨p, hp, q, hq, e⟩ := Tr.meet t1 t2
      exact ⟨p, (fo.sub (List.mem_cons_self ..)).1.subset hp, q, (fo'.sub (List.mem_cons_self ..)).1.subset hq, e⟩
theorem Tr.at : ∀ {h u : Nat} {l : List Pr} {Q : List Nat}, Tr nu sz f h u l Q -> ∀ v ∈ Q, ∃ h' l' Q', h' <= h /\ Tr nu sz f h' v l' Q' /\ ∀ p ∈ l', p ∈ l
 | 0, _, _, _, t, _, _ => t.elim
 | h + 1, u, l, Q, t, v, hv => by
  obtain ⟨n, Q', s, x, e⟩ := t
  rw [e] at hv
  rcases List.mem_cons.1 hv with rfl | hv
  ·exact ⟨h + 1, l, Q, Nat.le_refl _, ⟨n, Q', s, x, e⟩, fun _ hp => hp⟩
  ·rcases x with ⟨_, _, _, rfl⟩ | ⟨h2, B, ks, e1, fo⟩
   ·cases hv
   ·rw [fo.2.2.1] at hv
    obtain ⟨r, hr, hv⟩ := List.mem_flatten.1 hv
    obtain ⟨k, hk, rfl⟩ := List.mem_map.1 hr
    obtain ⟨h', l', Q2, h1, h3, h4⟩ := (fo.1 k hk).at v hv
    exact ⟨h', l', Q2, by omega, h3, fun p hp => (fo.sub hk).1.subset (h4 p hp)⟩
theorem Tr.nodup : ∀ {h u : Nat} {l : List Pr} {Q : List Nat}, Tr nu sz f h u l Q -> Rise l -> Q.Nodup
 | 0, _, _, _, t, _ => t.elim
 | h + 1, u, l, Q, t, ri => by
  have t0 := t
  obtain ⟨n, Q', s, x, e⟩ := t
  rw [e]
  rcases x with ⟨_, _, _, rfl⟩ | ⟨h2, B, ks, e1, fo⟩
  ·simp
  ·rw [List.nodup_cons]
   refine ⟨fun hu => ?_, ?_⟩
   ·rw [fo.2.2.1] at hu
    obtain ⟨r, hr, hu⟩ := List.mem_flatten.1 hu
    obtain ⟨k, hk, rfl⟩ := List.mem_map.1 hr
    obtain ⟨h', l', Q2, h1, h3, h4⟩ := (fo.1 k hk).at u hu
    have := t0.hi h3
    omega
   ·rw [fo.2.2.1]
    refine List.pairwise_flatten.2 ⟨fun r hr => ?_, ?_⟩
    ·obtain ⟨k, hk, rfl⟩ := List.mem_map.1 hr
     exact (fo.1 k hk).nodup (ri.sub (fo.sub hk).1)
    ·have hp : (ks.map (·.2.1)).Pairwise fun a b => ∀ p ∈ a, ∀ q ∈ b, ltK p.1 q.1 := by
      have := ri
      rw [fo.2.1] at this
      exact (List.pairwise_flatten.1 this).2
     rw [List.pairwise_map] at hp ⊢
     refine List.Pairwise.imp_of_mem ?_ hp
     intro a b ha hb hab v hva v' hvb ev
     subst ev
     obtain ⟨h1, l1, Q1, _, t1, s1⟩ := (fo.1 a ha).at v hva
     obtain ⟨h3, l3, Q3, _, t3, s3⟩ := (fo.1 b hb).at v hvb
     have eh := t1.hi t3
     subst eh
     obtain ⟨p, hp, q, hq, e⟩ := t1.meet t3
     have := hab p (s1 p hp) q (s3 q hq)
     rw [e] at this
     exact ltK_irr _ this
end
end

section
section
variable {nu sz : Nat} {w w' w0 : World} {hb sb b : Nat} {T : Tay} {A : Ab} {P : List (Int × Int)}
theorem y_takenC (h : Hp nu sz w hb sb b T A P) (s : HpS nu (says P A)) (u : Nat) (hne : ask nu (says P A) u ≠ 0) {b2 b3 b4 : Nat} (c2 : w.cell? ⟨b2, 0, none⟩ = some (ptr hb)) (c3 : w.cell? ⟨b3, 0, none⟩ = some (.int .i64 ((fi nu + 8 * u : Nat) : Int))) (c4 : w.cell? ⟨b4, 0, none⟩ = some (.int .i64 0)) (z4 : w.frozen? ⟨b4, 0, none⟩ = false) :
  Calls Tryz.prog 134 #[ptr b2, ptr b3, ptr b4] w fun e w' => e = .returned (.tuple #[]) /\ ∃ q, w' = (w.drewN q).setCell ⟨b4, 0, none⟩ (.int .i64 (ask nu (says P A) u : Nat)) := by
 have SZ := h_size h.hp h.reads s.wd u (s.inv.asks u hne).1 (begs_of s.inv hne)
 rw [show ((fi nu : Int) + (u : Int) * 8) = ((fi nu + 8 * u : Nat) : Int) by omega] at SZ
 have HSZ := Hd SZ
 clear SZ h s hne
 generalize fi nu + 8 * u = p at *
 go_enter Tryz.func134, Tryz.ntmps134
 go_wp2_with fail
 refine (uh HSZ).mono ?_
 clear HSZ
 rintro e w1 ⟨rfl, q, rfl⟩
 have c4' : (w.drewN q).cell? ⟨b4, 0, none⟩ = some (.int .i64 0) := c4
 have z4' : (w.drewN q).frozen? ⟨b4, 0, none⟩ = false := z4
 clear c4 z4 c2 c3
 go_wp2
 go_end0
 exact ⟨rfl, q, rfl⟩
set_option maxRecDepth 20000 in
theorem y_taken (h : Hp nu sz w hb sb b T A P) (s : HpS nu (says P A)) (u : Nat) (hne : ask nu (says P A) u ≠ 0) :
  Calls Tryz.prog 81 #[ptr hb, .int .i64 ((fi nu + 8 * u : Nat) : Int), .int .i64 (ask nu (says P A) u : Nat)] w fun e w' => e = .returned (.bool true) /\ St w w' := by
 obtain ⟨pz, hpz⟩ : ∃ pz, fi nu + 8 * u = pz := ⟨_, rfl⟩
 obtain ⟨W1, hW1⟩ : ∃ W1, w.alloc (.cells #[ptr hb] 24) = W1 := ⟨_, rfl⟩
 obtain ⟨W2, hW2⟩ : ∃ W2, W1.alloc (.cells #[.int .i64 (pz : Int)] 3) = W2 := ⟨_, rfl⟩
 obtain ⟨W3, hW3⟩ : ∃ W3, W2.alloc (.cells #[.int .i64 0] 3) = W3 := ⟨_, rfl⟩
 obtain ⟨g, hg⟩ : ∃ g, w.heap.size = g := ⟨_, rfl⟩
 have z1 : W1.heap.size = g + 1 := by rw [<- hW1]; simp [hg]
 have z2 : W2.heap.size = g + 2 := by rw [<- hW2]; simp; omega
 have z3 : W3.heap.size = g + 3 := by rw [<- hW3]; simp; omega
 have f1 : St w W1 := hW1 ▸ (Fr.refl _ w).alloc _
 have f2 : St W1 W2 := hW2 ▸ (Fr.refl _ W1).alloc _
 have f3 : St W2 W3 := hW3 ▸ (Fr.refl _ W2).alloc _
 have f23 : St W1 W3 := f2.trans' f3 nE
 have f03 : St w W3 := f1.trans' f23 nE
 have b1 : Box W3 g (ptr hb) := by
  have := Box.new w (ptr hb) 24
  rw [hW1, hg] at this; exact this.kept f23 id
 have b2 : Box W3 (g + 1) (.int .i64 (pz : Int)) := by
  have := Box.new W1 (.int .i64 (pz : Int)) 3
  rw [hW2, z1] at this; exact this.kept f3 id
 have b3 : Box W3 (g + 2) (.int .i64 0) := by
  have := Box.new W2 (.int .i64 0) 3
  rw [hW3, z2] at this; exact this
 have TR : Calls Tryz.prog 64 #[.func (.func 134) #[] #[ptr g, ptr (g + 1), ptr (g + 2)]] W3 fun e w' => ∃ h : How, e = .returned (.tuple #[h.v, .bool h.is]) /\ (h = .well /\ Fr (fun k => k = g + 2) W3 w' /\ Box w' (g + 2) (.int .i64 (ask nu (says P A) u : Nat))) :=
  try_fr (F := fun k => k = g + 2) (fun k hk => by omega) (acts_of (fun _ _ => by kernel_rfl) ((y_takenC (h.still (f03.alloc box)) s u hne (b1.alloc box).c (by rw [hpz]; exact (b2.alloc box).c) (b3.alloc box).c (b3.alloc box).z).mono (by
   rintro e w' ⟨rfl, q, rfl⟩
   have fr1 : Fr (fun k => k = g + 2) (W3.alloc box) (((W3.alloc box).drewN q).setCell ⟨g + 2, 0, none⟩ (.int .i64 (ask nu (says P A) u : Nat))) := ((Fr.refl (fun k => k = g + 2) (W3.alloc box)).drewN q).setCell (.inl rfl) _
   refine ⟨.well, rfl, fr1, fun w2 f2 => ⟨rfl, ?_, ?_⟩⟩
   ·exact (((Fr.refl (fun k => k = g + 2) W3).alloc box).trans fr1).trans' f2 (fun k hk => .inr (by omega))
   ·exact (((b3.alloc box).kept ((Fr.refl (fun _ => False) _).drewN q) id).set _).kept f2 (fun e => by have e : g + 2 = W3.heap.size := e; omega))))
 have ER := g_errno (R := fun h w' => h = .well /\ Fr (fun k => k = g + 2) W3 w' /\ Box w' (g + 2) (.int .i64 (ask nu (says P A) u : Nat))) TR (fun h w' x => .inl x.1)
 have HER := Hd ER; have HW := Hd (ai hW1 (ai hW2 hW3)); have HF := Hd f03
 rw [hpz]
 clear h s hne TR ER f1 f2 f3 f23 f03 b1 b2 b3 hW1 hW2 hW3 z1 z2 z3
 generalize ask nu (says P A) u = ak at *
 go_enter Tryz.func81, Tryz.ntmps81
 go_wp2_with fail
 rw [(uh HW).1, (uh HW).2.1, (uh HW).2.2, show g + 1 + 1 = g + 2 from rfl]
 refine (uh HER).mono ?_
 clear HER HW
 rintro e w4 (⟨rfl, -, f4, b4⟩ | ⟨i, -, e, _⟩)
 ·have c4 := b4.c
  have HF4 := Hd ((uh HF).trans' f4 (fun k hk => .inr (by omega)))
  clear f4 b4 HF
  go_wp2_with fail
  go_ret
  exact ⟨by simp, uh HF4⟩
 ·exact (well_errnoG e.symm).elim
end
end
end Go.Proofs.YtbpndmghlnadiaaGreatDoor
