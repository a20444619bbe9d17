/- Joined: Ma Kl Kf Kg. -/
import Derived.Test.YtbpndmghlnadiaaGreatDoorR15
import Derived.Test.YtbpndmghlnadiaaGreatDoorR31
import Derived.Test.YtbpndmghlnadiaaGreatDoorR38
namespace Go.Proofs.YtbpndmghlnadiaaGreatDoor
open Go.RowKit
set_option maxHeartbeats 4000000

section
theorem geo32 : Geo 2456 20368 := ⟨by omega, by omega, by decide, by omega, fun u h1 h2 => by have := fi_mono (u := 2457) (v := u) (by omega); have e : fi 2457 = 720 := (by decide); omega⟩
section
variable {nu sz : Nat} {w w' w0 : World} {hb sb b bs bh br bi : Nat} {T : Tay} {A : Ab} {P : List (Int × Int)} {r i : Nat} {L : List Pr} {Q : List Nat}
set_option maxRecDepth 20000 in
theorem tmC1 (h : Hp nu sz w hb sb b T A P) (t : Tre nu sz (says P A) r L Q) (hl : L.length <= 130) (hP : P.length <= 100) (hnu : 2 * L.length + 30 < nu / 4) (hi : i < 200)
  (cs : w.cell? ⟨bs, 0, none⟩ = some (ptr sb)) (ch : w.cell? ⟨bh, 0, none⟩ = some (ptr hb)) (Br : Box w br (.int .u64 (r : Nat))) (ci : w.cell? ⟨bi, 0, none⟩ = some (.int .i64 (i : Nat))) (nt : ∀ k, k = bs \/ k = bh \/ k = br \/ k = bi -> ¬ tfoot sb b T k)
  (ne : bs ≠ br /\ bh ≠ br /\ bi ≠ br /\ hb ≠ br /\ 0 ≠ br) :
  Calls Tryz.prog 7 #[ptr bs, ptr bh, ptr br, ptr bi] w fun e w' => e = .returned (.tuple #[]) /\ PutS nu sz (fun k => k = br) w sb b T A br (putP L (kyB i) i) w' := by
 have fD : St w w.drew := (Fr.refl _ w).drewN 1
 have KY := l11_key i hi w.drew
 have PUT : ∀ w1, St w w1 -> Calls Tryz.prog 8 #[ptr sb, ptr hb, .int .u64 (r : Nat), .string (kyB i), .int .u64 (i : Nat)] w1 _ := fun w1 f1 => y_Put (h.still f1) t.st t.rt t.pk t.ri (by omega) (kyB i) i (by rw [kyB_size]; omega) (by omega) (by omega) (by have := t.cnt; omega) t.low
 have lbs : bs < w.heap.size := World.block_lt_of_cell? _ _ cs
 have lbh : bh < w.heap.size := World.block_lt_of_cell? _ _ ch
 have lbi : bi < w.heap.size := World.block_lt_of_cell? _ _ ci
 have lbr := Br.lt
 have cr := Br.c
 have HK := Hd KY; have HP := @Hd _ PUT
 have HX := Hd (ai h (ai t (ai hl (ai hP (ai hnu (ai Br fD)))))); have HNT := @Hd _ nt
 have wu : IntKind.u64.wrap (i : Nat) = (i : Nat) := (wrap_small _ (by omega) (by omega)).2
 clear KY PUT h t hl hP hnu Br nt fD
 go_enter Tryz.func7, Tryz.ntmps7
 go_wp2_with fail
 refine wp_region_held_drew (S := fun w' => w'.cell? ⟨bs, 0, none⟩ = some (ptr sb) /\ w'.cell? ⟨bh, 0, none⟩ = some (ptr hb) /\ w'.cell? ⟨bi, 0, none⟩ = some (.int .i64 (i : Nat))) (by kernel_rfl) ⟨cs, ch, ci⟩ (fun hHeld => ?_)
 refine tkO 0 ?_ hHeld rfl ?_ ?_
 rotate_left
 ·intro w q;go_simp;try with_reducible rfl
 simp only [apt, List.set]
 refine tkO 1 ?_ hHeld rfl ?_ ?_
 rotate_left
 ·intro w q;go_simp;try with_reducible rfl
 simp only [apt, List.set]
 refine tkO 3 ?_ hHeld rfl ?_ ?_
 rotate_left
 ·intro w q;go_simp;try with_reducible rfl
 simp only [apt, List.set]
 refine tkO 5 ?_ hHeld rfl ?_ ?_
 rotate_left
 ·intro w q;go_simp;try with_reducible rfl
 simp only [apt, List.set]
 refine tkO 6 ?_ hHeld rfl ?_ ?_
 rotate_left
 ·intro w q;go_simp;try with_reducible rfl
 simp only [apt, List.set]
 clear wu
 refine wpAnyH_ready (rs := [2, 4]) (by kernel_rfl) (by simp) ?_
 refine AllReadyH.cons rfl (fun K hK => ?_) (AllReadyH.cons rfl (fun K hK => ?_) AllReadyH.nil)
 ·go_simp
  refine hK.out _ _ hHeld (fun _ => ?_)
  clear hK K
  refine rdO 4 rfl (fun K hK => ?_)
  go_simp
  go_wp2_with fail
  refine (uh HK).mono ?_
  clear HK
  rintro e w1 ⟨rfl, f1⟩
  have f01 : St w w1 := (uh HX).2.2.2.2.2.2.trans' f1 nE
  have hHeld1 : w1.cell? ⟨bs, 0, none⟩ = some (ptr sb) /\ w1.cell? ⟨bh, 0, none⟩ = some (ptr hb) /\ w1.cell? ⟨bi, 0, none⟩ = some (.int .i64 (i : Nat)) := ⟨f01.cell' cs id, f01.cell' ch id, f01.cell' ci id⟩
  refine hK.out _ _ hHeld1 (fun _ => ?_)
  clear hK K f1
  have hS1 := hHeld1
  refine rdO 7 rfl (fun K hK => ?_)
  go_simp
  go_wp2_with fail
  refine (uh HP w1 f01).mono ?_
  rintro e w2 ⟨r', rfl, T2, P2, Q2, k2, hk2, o2, l2, ch2, hr2, rt2⟩
  obtain ⟨h, t, hl, hP, hnu, Br, fD⟩ := uh HX
  have h2 := (h.still f01).call o2
  have o02 : Onx w sb b T w2 T2 sz A P2 false := o2.after f01
  have nt2 : ∀ k, k = bs \/ k = bh \/ k = br \/ k = bi -> ¬ tfoot sb b T2 k := fun k hk => o02.other (by rcases hk with rfl | rfl | rfl | rfl <;> assumption) (uh HNT k hk)
  have cs2 : w2.cell? ⟨bs, 0, none⟩ = some (ptr sb) := o02.fr.cell' cs (uh HNT bs (by simp))
  have ch2' : w2.cell? ⟨bh, 0, none⟩ = some (ptr hb) := o02.fr.cell' ch (uh HNT bh (by simp))
  have ci2 : w2.cell? ⟨bi, 0, none⟩ = some (.int .i64 (i : Nat)) := o02.fr.cell' ci (uh HNT bi (by simp))
  have Br2 := Br.kept o02.fr (uh HNT br (by simp))
  obtain ⟨W3, hW3⟩ : ∃ W3, w2.setCell ⟨br, 0, none⟩ (.int .u64 (r' : Nat)) = W3 := ⟨_, rfl⟩
  have f3 : Fr (fun k => k = br) w2 W3 := hW3 ▸ Fr.box w2 br _
  have Br3 : Box W3 br (.int .u64 (r' : Nat)) := hW3 ▸ Br2.set _
  have cs3 : W3.cell? ⟨bs, 0, none⟩ = some (ptr sb) := f3.cell' cs2 ne.1
  have ch3 : W3.cell? ⟨bh, 0, none⟩ = some (ptr hb) := f3.cell' ch2' ne.2.1
  have ci3 : W3.cell? ⟨bi, 0, none⟩ = some (.int .i64 (i : Nat)) := f3.cell' ci2 ne.2.2.1
  have h3 := h2.turn f3 (fun k hk => by rw [hk]; exact nt2 br (by simp)) ne.2.2.2.1 ne.2.2.2.2
  have ri2 : Rise (putP L (kyB i) i) := putP_rise t.ri
  have pk2 : Pok (putP L (kyB i) i) := t.pk.put (by rw [kyB_size]; omega) (by omega)
  have ln2 := putP_len (kyB i) i L
  obtain ⟨W4, hW4⟩ : ∃ W4, W3.alloc (.cells #[.int .u64 (r' : Nat), .slice none 0 0] 35) = W4 := ⟨_, rfl⟩
  have f4 : St W3 W4 := hW4 ▸ (Fr.refl _ W3).alloc _
  have SL := sl_root W3 W4 r' hW4
  have few2 := ch2.few
  have cn := t.cnt
  have SW := t_sweepR (h3.still f4) ch2.st (some ⟨W3.heap.size, 0, none⟩) 1 [(r', .slice none 0 0)] [Q2] SL rfl (fun j p Q' h1 h2 => by
   match j, h1, h2 with
   | 0, h1, h2 =>
    cases (Option.some.inj h1); cases (Option.some.inj h2)
    exact ⟨_, rt2, ri2, by omega⟩
   | j + 1, h1, _ => simp at h1) (by simp) (by omega)
  have HSW := Hd SW
  have HE := Hd (show ∀ w5 g, To sz W4 sb b T2 A w5 g (P2.length + 10 * cnt nu (ask nu (says P2 A))) -> HpS nu g -> (∀ u, ask nu g u = if u ∈ [Q2].flatten then ask nu (says P2 A) u else 0) -> (∀ i, fi nu <= i -> g i = says P2 A i) -> PutS nu sz (fun k => k = br) w sb b T A br (putP L (kyB i) i) w5 from fun w5 g tg sg ak ke => by
   obtain ⟨T5, P5, o5, e5, l5⟩ := tg
   subst e5
   have sw : Swp nu (says P2 A) (says P5 A) Q2 := ⟨sg, fun u => by rw [ak]; simp, ke⟩
   refine ⟨T5, P5, r', Q2, (((OnxX.of o02).var f3 (fun k hk => hk) (fun k hk => by rw [hk]; exact nt2 br (by simp))).quiet f4).trans o5, ?_, hr2, t.put rt2 sw ri2 pk2⟩
   exact (Br3.kept f4 id).kept o5.fr (nt2 br (by simp)))
  have c3 := Br3.c; have c2 := Br2.c; have z2 := Br2.z
  have HW3 := Hd hW3; have HW4 := Hd hW4
  refine hK.out _ _ ⟨cs2, ch2', ci2⟩ (fun _ => ?_)
  clear hK K SW h2 o02 o2 nt2 f3 h3 ri2 pk2 ln2 few2 cn f4 SL hW4 h t hl hP hnu Br Br2 Br3 fD l2 ch2 hr2 rt2 hk2 HX HP HNT cs2 ch2' ci2 hS1 hW3
  refine rdO 8 rfl (fun K hK => ?_)
  go_simp
  rw [uh HW3]
  refine hK.out _ _ ⟨cs3, ch3, ci3⟩ (fun _ => ?_)
  clear hK K c2 z2
  refine wpAnyH_done (by kernel_rfl) ?_ _
  go_wp2_with fail
  rw [uh HW4]
  refine (uh HSW).mono ?_
  rintro e w5 ⟨rfl, g, tg, sg, ak, ke, -⟩
  have HQ := Hd (uh HE w5 g tg sg ak ke)
  clear HSW HE tg sg ak ke
  go_wp2_with fail
  go_end0
  exact ⟨rfl, uh HQ⟩
 ·go_simp
  go_wp2_with fail
  refine (uh HK).mono ?_
  clear HK
  rintro e w1 ⟨rfl, f1⟩
  have f01 : St w w1 := (uh HX).2.2.2.2.2.2.trans' f1 nE
  have hHeld1 : w1.cell? ⟨bs, 0, none⟩ = some (ptr sb) /\ w1.cell? ⟨bh, 0, none⟩ = some (ptr hb) /\ w1.cell? ⟨bi, 0, none⟩ = some (.int .i64 (i : Nat)) := ⟨f01.cell' cs id, f01.cell' ch id, f01.cell' ci id⟩
  have cr1 : w1.cell? ⟨br, 0, none⟩ = some (.int .u64 (r : Nat)) := f01.cell' cr id
  refine hK.out _ _ hHeld1 (fun _ => ?_)
  clear hK K f1
  refine rdO 2 rfl (fun K hK => ?_)
  go_simp
  refine hK.out _ _ hHeld1 (fun _ => ?_)
  clear hK K cr1
  have hS1 := hHeld1
  refine rdO 7 rfl (fun K hK => ?_)
  go_simp
  go_wp2_with fail
  refine (uh HP w1 f01).mono ?_
  rintro e w2 ⟨r', rfl, T2, P2, Q2, k2, hk2, o2, l2, ch2, hr2, rt2⟩
  obtain ⟨h, t, hl, hP, hnu, Br, fD⟩ := uh HX
  have h2 := (h.still f01).call o2
  have o02 : Onx w sb b T w2 T2 sz A P2 false := o2.after f01
  have nt2 : ∀ k, k = bs \/ k = bh \/ k = br \/ k = bi -> ¬ tfoot sb b T2 k := fun k hk => o02.other (by rcases hk with rfl | rfl | rfl | rfl <;> assumption) (uh HNT k hk)
  have cs2 : w2.cell? ⟨bs, 0, none⟩ = some (ptr sb) := o02.fr.cell' cs (uh HNT bs (by simp))
  have ch2' : w2.cell? ⟨bh, 0, none⟩ = some (ptr hb) := o02.fr.cell' ch (uh HNT bh (by simp))
  have ci2 : w2.cell? ⟨bi, 0, none⟩ = some (.int .i64 (i : Nat)) := o02.fr.cell' ci (uh HNT bi (by simp))
  have Br2 := Br.kept o02.fr (uh HNT br (by simp))
  obtain ⟨W3, hW3⟩ : ∃ W3, w2.setCell ⟨br, 0, none⟩ (.int .u64 (r' : Nat)) = W3 := ⟨_, rfl⟩
  have f3 : Fr (fun k => k = br) w2 W3 := hW3 ▸ Fr.box w2 br _
  have Br3 : Box W3 br (.int .u64 (r' : Nat)) := hW3 ▸ Br2.set _
  have cs3 : W3.cell? ⟨bs, 0, none⟩ = some (ptr sb) := f3.cell' cs2 ne.1
  have ch3 : W3.cell? ⟨bh, 0, none⟩ = some (ptr hb) := f3.cell' ch2' ne.2.1
  have ci3 : W3.cell? ⟨bi, 0, none⟩ = some (.int .i64 (i : Nat)) := f3.cell' ci2 ne.2.2.1
  have h3 := h2.turn f3 (fun k hk => by rw [hk]; exact nt2 br (by simp)) ne.2.2.2.1 ne.2.2.2.2
  have ri2 : Rise (putP L (kyB i) i) := putP_rise t.ri
  have pk2 : Pok (putP L (kyB i) i) := t.pk.put (by rw [kyB_size]; omega) (by omega)
  have ln2 := putP_len (kyB i) i L
  obtain ⟨W4, hW4⟩ : ∃ W4, W3.alloc (.cells #[.int .u64 (r' : Nat), .slice none 0 0] 35) = W4 := ⟨_, rfl⟩
  have f4 : St W3 W4 := hW4 ▸ (Fr.refl _ W3).alloc _
  have SL := sl_root W3 W4 r' hW4
  have few2 := ch2.few
  have cn := t.cnt
  have SW := t_sweepR (h3.still f4) ch2.st (some ⟨W3.heap.size, 0, none⟩) 1 [(r', .slice none 0 0)] [Q2] SL rfl (fun j p Q' h1 h2 => by
   match j, h1, h2 with
   | 0, h1, h2 =>
    cases (Option.some.inj h1); cases (Option.some.inj h2)
    exact ⟨_, rt2, ri2, by omega⟩
   | j + 1, h1, _ => simp at h1) (by simp) (by omega)
  have HSW := Hd SW
  have HE := Hd (show ∀ w5 g, To sz W4 sb b T2 A w5 g (P2.length + 10 * cnt nu (ask nu (says P2 A))) -> HpS nu g -> (∀ u, ask nu g u = if u ∈ [Q2].flatten then ask nu (says P2 A) u else 0) -> (∀ i, fi nu <= i -> g i = says P2 A i) -> PutS nu sz (fun k => k = br) w sb b T A br (putP L (kyB i) i) w5 from fun w5 g tg sg ak ke => by
   obtain ⟨T5, P5, o5, e5, l5⟩ := tg
   subst e5
   have sw : Swp nu (says P2 A) (says P5 A) Q2 := ⟨sg, fun u => by rw [ak]; simp, ke⟩
   refine ⟨T5, P5, r', Q2, (((OnxX.of o02).var f3 (fun k hk => hk) (fun k hk => by rw [hk]; exact nt2 br (by simp))).quiet f4).trans o5, ?_, hr2, t.put rt2 sw ri2 pk2⟩
   exact (Br3.kept f4 id).kept o5.fr (nt2 br (by simp)))
  have c3 := Br3.c; have c2 := Br2.c; have z2 := Br2.z
  have HW3 := Hd hW3; have HW4 := Hd hW4
  refine hK.out _ _ ⟨cs2, ch2', ci2⟩ (fun _ => ?_)
  clear hK K SW h2 o02 o2 nt2 f3 h3 ri2 pk2 ln2 few2 cn f4 SL hW4 h t hl hP hnu Br Br2 Br3 fD l2 ch2 hr2 rt2 hk2 HX HP HNT cs2 ch2' ci2 hS1 hW3
  refine rdO 8 rfl (fun K hK => ?_)
  go_simp
  rw [uh HW3]
  refine hK.out _ _ ⟨cs3, ch3, ci3⟩ (fun _ => ?_)
  clear hK K c2 z2
  refine wpAnyH_done (by kernel_rfl) ?_ _
  go_wp2_with fail
  rw [uh HW4]
  refine (uh HSW).mono ?_
  rintro e w5 ⟨rfl, g, tg, sg, ak, ke, -⟩
  have HQ := Hd (uh HE w5 g tg sg ak ke)
  clear HSW HE tg sg ak ke
  go_wp2_with fail
  go_end0
  exact ⟨rfl, uh HQ⟩
end
theorem getP_no {x : ByteArray} : ∀ {l : List Pr}, getP l x = none -> ∀ p ∈ l, p.1 ≠ x
 | [], _, p, hp => by cases hp
 | q :: l, h, p, hp => by
  unfold getP at h
  split at h
  ·cases h
  ·next e =>
   rcases List.mem_cons.1 hp with rfl | hp
   ·exact e
   ·exact getP_no h p hp
def DelS (nu sz : Nat) (w : World) (sb b : Nat) (T : Tay) (A : Ab) (br bg : Nat) (L' : List Pr) (w' : World) : Prop :=
 ∃ T' P' r' Q', OnxX (fun k => k = br \/ k = bg) w sb b T w' T' sz A P' false /\ Box w' br (.int .u64 ((r' : Nat) : Int)) /\ Box w' bg (.bool true) /\ Tre nu sz (says P' A) r' L' Q'
section
variable {nu sz : Nat} {w w' w0 : World} {hb sb b bs bh br bi bg : Nat} {T : Tay} {A : Ab} {P : List (Int × Int)} {r i : Nat} {L : List Pr} {Q : List Nat} {vg : Value}
set_option maxRecDepth 20000 in
theorem tmC2 (h : Hp nu sz w hb sb b T A P) (t : Tre nu sz (says P A) r L Q) (hl : L.length <= 130) (hP : P.length <= 100) (hnu : 2 * L.length + 30 < nu / 4) (hi : i < 200) {v : Nat} (hin : (kyB i, v) ∈ L)
  (cs : w.cell? ⟨bs, 0, none⟩ = some (ptr sb)) (ch : w.cell? ⟨bh, 0, none⟩ = some (ptr hb)) (Br : Box w br (.int .u64 (r : Nat))) (ci : w.cell? ⟨bi, 0, none⟩ = some (.int .i64 (i : Nat))) (Bg : Box w bg (.bool false)) (nt : ∀ k, k = bs \/ k = bh \/ k = br \/ k = bi \/ k = bg -> ¬ tfoot sb b T k)
  (ne : bs ≠ br /\ bh ≠ br /\ bi ≠ br /\ hb ≠ br /\ 0 ≠ br) (ne2 : bs ≠ bg /\ bh ≠ bg /\ bi ≠ bg /\ hb ≠ bg /\ 0 ≠ bg /\ br ≠ bg) :
  Calls Tryz.prog 15 #[ptr bs, ptr bh, ptr br, ptr bi, ptr bg] w fun e w' => e = .returned (.tuple #[]) /\ DelS nu sz w sb b T A br bg (delP L (kyB i)) w' := by
 have fD : St w w.drew := (Fr.refl _ w).drewN 1
 have KY := l11_key i hi w.drew
 have DEL : ∀ w1, St w w1 -> Calls Tryz.prog 16 #[ptr sb, ptr hb, .int .u64 (r : Nat), .string (kyB i)] w1 fun e w' => ∃ r' : Nat, e = .returned (.tuple #[.int .u64 (r' : Nat), .bool true]) /\ DelE nu sz w1 sb b T A P (delP L (kyB i)) w' r' := fun w1 f1 => (y_Del (h.still f1) t.st t.rt t.pk t.ri (by omega) (kyB i) (by omega) (by have := t.cnt; omega) t.low).mono (by
  rintro e w' (⟨e0, _⟩ | ⟨_, _, hh⟩)
  ·exact absurd rfl (getP_no e0 _ hin)
  ·exact hh)
 have lbs : bs < w.heap.size := World.block_lt_of_cell? _ _ cs
 have lbh : bh < w.heap.size := World.block_lt_of_cell? _ _ ch
 have lbi : bi < w.heap.size := World.block_lt_of_cell? _ _ ci
 have lbr := Br.lt
 have lbg := Bg.lt
 have cr := Br.c
 have HK := Hd KY; have HP := @Hd _ DEL
 have HX := Hd (ai h (ai t (ai hl (ai hP (ai hnu (ai Br (ai Bg fD))))))); have HNT := @Hd _ nt
 clear KY DEL h t hl hP hnu Br Bg nt fD hin
 go_enter Tryz.func15, Tryz.ntmps15
 go_wp2_with fail
 refine wp_region_held_drew (S := fun w' => w'.cell? ⟨bs, 0, none⟩ = some (ptr sb) /\ w'.cell? ⟨bh, 0, none⟩ = some (ptr hb) /\ w'.cell? ⟨bi, 0, none⟩ = some (.int .i64 (i : Nat))) (by kernel_rfl) ⟨cs, ch, ci⟩ (fun hHeld => ?_)
 refine tkO 0 ?_ hHeld rfl ?_ ?_
 rotate_left
 ·intro w q;go_simp;try with_reducible rfl
 simp only [apt, List.set]
 refine tkO 1 ?_ hHeld rfl ?_ ?_
 rotate_left
 ·intro w q;go_simp;try with_reducible rfl
 simp only [apt, List.set]
 refine tkO 3 ?_ hHeld rfl ?_ ?_
 rotate_left
 ·intro w q;go_simp;try with_reducible rfl
 simp only [apt, List.set]
 refine wpAnyH_ready (rs := [2, 4]) (by kernel_rfl) (by simp) ?_
 refine AllReadyH.cons rfl (fun K hK => ?_) (AllReadyH.cons rfl (fun K hK => ?_) AllReadyH.nil)
 ·go_simp
  refine hK.out _ _ hHeld (fun _ => ?_)
  clear hK K
  refine rdO 4 rfl (fun K hK => ?_)
  go_simp
  go_wp2_with fail
  refine (uh HK).mono ?_
  clear HK
  rintro e w1 ⟨rfl, f1⟩
  have f01 : St w w1 := (uh HX).2.2.2.2.2.2.2.trans' f1 nE
  have hHeld1 : w1.cell? ⟨bs, 0, none⟩ = some (ptr sb) /\ w1.cell? ⟨bh, 0, none⟩ = some (ptr hb) /\ w1.cell? ⟨bi, 0, none⟩ = some (.int .i64 (i : Nat)) := ⟨f01.cell' cs id, f01.cell' ch id, f01.cell' ci id⟩
  refine hK.out _ _ hHeld1 (fun _ => ?_)
  clear hK K f1
  have hS1 := hHeld1
  refine rdO 5 rfl (fun K hK => ?_)
  go_simp
  go_wp2_with fail
  refine (uh HP w1 f01).mono ?_
  rintro e w2 ⟨r', rfl, T2, P2, Q2, k2, hk2, o2, l2, ch2, rt2⟩
  obtain ⟨h, t, hl, hP, hnu, Br, Bg, fD⟩ := uh HX
  have h2 := (h.still f01).call o2
  have o02 : Onx w sb b T w2 T2 sz A P2 false := o2.after f01
  have nt2 : ∀ k, k = bs \/ k = bh \/ k = br \/ k = bi \/ k = bg -> ¬ tfoot sb b T2 k := fun k hk => o02.other (by rcases hk with rfl | rfl | rfl | rfl | rfl <;> assumption) (uh HNT k hk)
  have cs2 : w2.cell? ⟨bs, 0, none⟩ = some (ptr sb) := o02.fr.cell' cs (uh HNT bs (by simp))
  have ch2' : w2.cell? ⟨bh, 0, none⟩ = some (ptr hb) := o02.fr.cell' ch (uh HNT bh (by simp))
  have ci2 : w2.cell? ⟨bi, 0, none⟩ = some (.int .i64 (i : Nat)) := o02.fr.cell' ci (uh HNT bi (by simp))
  have Br2 := Br.kept o02.fr (uh HNT br (by simp))
  have Bg2 := Bg.kept o02.fr (uh HNT bg (by simp))
  obtain ⟨W3, hW3⟩ : ∃ W3, w2.setCell ⟨br, 0, none⟩ (.int .u64 (r' : Nat)) = W3 := ⟨_, rfl⟩
  obtain ⟨W4, hW4⟩ : ∃ W4, W3.setCell ⟨bg, 0, none⟩ (.bool true) = W4 := ⟨_, rfl⟩
  have f3 : Fr (fun k => k = br) w2 W3 := hW3 ▸ Fr.box w2 br _
  have f4 : Fr (fun k => k = bg) W3 W4 := hW4 ▸ Fr.box W3 bg _
  have f24 : Fr (fun k => k = br \/ k = bg) w2 W4 := (f3.mono (fun _ hk => .inl (.inl hk))).trans' f4 (fun _ hk => .inl (.inr hk))
  have Br3 : Box W3 br (.int .u64 (r' : Nat)) := hW3 ▸ Br2.set _
  have Bg3 := Bg2.kept f3 (fun e => ne2.2.2.2.2.2 e.symm)
  have Br4 := Br3.kept f4 (fun e => ne2.2.2.2.2.2 e)
  have Bg4 : Box W4 bg (.bool true) := hW4 ▸ Bg3.set _
  have hS3 : W3.cell? ⟨bs, 0, none⟩ = some (ptr sb) /\ W3.cell? ⟨bh, 0, none⟩ = some (ptr hb) /\ W3.cell? ⟨bi, 0, none⟩ = some (.int .i64 (i : Nat)) := ⟨f3.cell' cs2 ne.1, f3.cell' ch2' ne.2.1, f3.cell' ci2 ne.2.2.1⟩
  have hS4 : W4.cell? ⟨bs, 0, none⟩ = some (ptr sb) /\ W4.cell? ⟨bh, 0, none⟩ = some (ptr hb) /\ W4.cell? ⟨bi, 0, none⟩ = some (.int .i64 (i : Nat)) := ⟨f4.cell' hS3.1 ne2.1, f4.cell' hS3.2.1 ne2.2.1, f4.cell' hS3.2.2 ne2.2.2.1⟩
  have h4 := h2.turn f24 (fun k hk => by rcases hk with rfl | rfl; exact nt2 _ (by simp); exact nt2 _ (by simp)) (fun e => e.elim ne.2.2.2.1 ne2.2.2.2.1) (fun e => e.elim ne.2.2.2.2 ne2.2.2.2.2.1)
  have ri2 : Rise (delP L (kyB i)) := t.ri.sub (delP_sub _ _)
  have pk2 : Pok (delP L (kyB i)) := t.pk.sub (delP_sub _ _)
  have ln2 := (delP_sub (kyB i) L).length_le
  obtain ⟨W5, hW5⟩ : ∃ W5, W4.alloc (.cells #[.int .u64 (r' : Nat), .slice none 0 0] 35) = W5 := ⟨_, rfl⟩
  have f5 : St W4 W5 := hW5 ▸ (Fr.refl _ W4).alloc _
  have SL := sl_root W4 W5 r' hW5
  have few2 := ch2.few
  have cn := t.cnt
  have SW := t_sweepR (h4.still f5) ch2.st (some ⟨W4.heap.size, 0, none⟩) 1 [(r', .slice none 0 0)] [Q2] SL rfl (fun j p Q' h1 h2 => by
   match j, h1, h2 with
   | 0, h1, h2 =>
    cases (Option.some.inj h1); cases (Option.some.inj h2)
    exact ⟨_, rt2, ri2, by omega⟩
   | j + 1, h1, _ => simp at h1) (by simp) (by omega)
  have HSW := Hd SW
  have HE := Hd (show ∀ w5 g, To sz W5 sb b T2 A w5 g (P2.length + 10 * cnt nu (ask nu (says P2 A))) -> HpS nu g -> (∀ u, ask nu g u = if u ∈ [Q2].flatten then ask nu (says P2 A) u else 0) -> (∀ i, fi nu <= i -> g i = says P2 A i) -> DelS nu sz w sb b T A br bg (delP L (kyB i)) w5 from fun w5 g tg sg ak ke => by
   obtain ⟨T5, P5, o5, e5, l5⟩ := tg
   subst e5
   have sw : Swp nu (says P2 A) (says P5 A) Q2 := ⟨sg, fun u => by rw [ak]; simp, ke⟩
   refine ⟨T5, P5, r', Q2, (((OnxX.of o02).var f24 (fun k hk => hk) (fun k hk => by rcases hk with rfl | rfl; exact nt2 _ (by simp); exact nt2 _ (by simp))).quiet f5).trans o5, ?_, ?_, t.put rt2 sw ri2 pk2⟩
   ·exact (Br4.kept f5 id).kept o5.fr (nt2 br (by simp))
   ·exact (Bg4.kept f5 id).kept o5.fr (nt2 bg (by simp)))
  have c4 := Br4.c; have c2 := Br2.c; have z2 := Br2.z; have c3 := Bg3.c; have z3 := Bg3.z
  have HW3 := Hd hW3; have HW4 := Hd hW4; have HW5 := Hd hW5
  refine hK.out _ _ ⟨cs2, ch2', ci2⟩ (fun _ => ?_)
  clear hK K SW h2 o02 o2 nt2 f3 f4 f24 h4 ri2 pk2 ln2 few2 cn f5 SL hW5 h t hl hP hnu Br Bg Br2 Bg2 Br3 Bg3 Br4 Bg4 fD l2 ch2 rt2 hk2 HX HP HNT hS1 hW3 hW4
  refine rdO 6 rfl (fun K hK => ?_)
  go_simp
  refine hK.out _ _ ⟨cs2, ch2', ci2⟩ (fun _ => ?_)
  clear hK K
  replace hHeld := ai cs2 (ai ch2' ci2)
  refine tkO 7 ?_ hHeld rfl ?_ ?_
  rotate_left
  ·intro w q;go_simp;try with_reducible rfl
  simp only [apt, List.set]
  refine tkO 8 ?_ hHeld rfl ?_ ?_
  rotate_left
  ·intro w q;go_simp;try with_reducible rfl
  simp only [apt, List.set]
  clear hHeld
  refine rdO 9 rfl (fun K hK => ?_)
  go_simp
  rw [uh HW3]
  refine hK.out _ _ hS3 (fun _ => ?_)
  clear hK K c2 z2
  refine rdO 10 rfl (fun K hK => ?_)
  go_simp
  rw [uh HW4]
  refine hK.out _ _ hS4 (fun _ => ?_)
  clear hK K c3 z3 hS3
  refine wpAnyH_done (by kernel_rfl) ?_ _
  obtain ⟨x1, x2, -⟩ := hS4
  go_wp2_with fail
  rw [uh HW5]
  refine (uh HSW).mono ?_
  rintro e w5 ⟨rfl, g, tg, sg, ak, ke, -⟩
  have HQ := Hd (uh HE w5 g tg sg ak ke)
  clear HSW HE tg sg ak ke
  go_wp2_with fail
  go_end0
  exact ⟨rfl, uh HQ⟩
 ·go_simp
  go_wp2_with fail
  refine (uh HK).mono ?_
  clear HK
  rintro e w1 ⟨rfl, f1⟩
  have f01 : St w w1 := (uh HX).2.2.2.2.2.2.2.trans' f1 nE
  have hHeld1 : w1.cell? ⟨bs, 0, none⟩ = some (ptr sb) /\ w1.cell? ⟨bh, 0, none⟩ = some (ptr hb) /\ w1.cell? ⟨bi, 0, none⟩ = some (.int .i64 (i : Nat)) := ⟨f01.cell' cs id, f01.cell' ch id, f01.cell' ci id⟩
  have cr1 : w1.cell? ⟨br, 0, none⟩ = some (.int .u64 (r : Nat)) := f01.cell' cr id
  refine hK.out _ _ hHeld1 (fun _ => ?_)
  clear hK K f1
  refine rdO 2 rfl (fun K hK => ?_)
  go_simp
  refine hK.out _ _ hHeld1 (fun _ => ?_)
  clear hK K cr1
  have hS1 := hHeld1
  refine rdO 5 rfl (fun K hK => ?_)
  go_simp
  go_wp2_with fail
  refine (uh HP w1 f01).mono ?_
  rintro e w2 ⟨r', rfl, T2, P2, Q2, k2, hk2, o2, l2, ch2, rt2⟩
  obtain ⟨h, t, hl, hP, hnu, Br, Bg, fD⟩ := uh HX
  have h2 := (h.still f01).call o2
  have o02 : Onx w sb b T w2 T2 sz A P2 false := o2.after f01
  have nt2 : ∀ k, k = bs \/ k = bh \/ k = br \/ k = bi \/ k = bg -> ¬ tfoot sb b T2 k := fun k hk => o02.other (by rcases hk with rfl | rfl | rfl | rfl | rfl <;> assumption) (uh HNT k hk)
  have cs2 : w2.cell? ⟨bs, 0, none⟩ = some (ptr sb) := o02.fr.cell' cs (uh HNT bs (by simp))
  have ch2' : w2.cell? ⟨bh, 0, none⟩ = some (ptr hb) := o02.fr.cell' ch (uh HNT bh (by simp))
  have ci2 : w2.cell? ⟨bi, 0, none⟩ = some (.int .i64 (i : Nat)) := o02.fr.cell' ci (uh HNT bi (by simp))
  have Br2 := Br.kept o02.fr (uh HNT br (by simp))
  have Bg2 := Bg.kept o02.fr (uh HNT bg (by simp))
  obtain ⟨W3, hW3⟩ : ∃ W3, w2.setCell ⟨br, 0, none⟩ (.int .u64 (r' : Nat)) = W3 := ⟨_, rfl⟩
  obtain ⟨W4, hW4⟩ : ∃ W4, W3.setCell ⟨bg, 0, none⟩ (.bool true) = W4 := ⟨_, rfl⟩
  have f3 : Fr (fun k => k = br) w2 W3 := hW3 ▸ Fr.box w2 br _
  have f4 : Fr (fun k => k = bg) W3 W4 := hW4 ▸ Fr.box W3 bg _
  have f24 : Fr (fun k => k = br \/ k = bg) w2 W4 := (f3.mono (fun _ hk => .inl (.inl hk))).trans' f4 (fun _ hk => .inl (.inr hk))
  have Br3 : Box W3 br (.int .u64 (r' : Nat)) := hW3 ▸ Br2.set _
  have Bg3 := Bg2.kept f3 (fun e => ne2.2.2.2.2.2 e.symm)
  have Br4 := Br3.kept f4 (fun e => ne2.2.2.2.2.2 e)
  have Bg4 : Box W4 bg (.bool true) := hW4 ▸ Bg3.set _
  have hS3 : W3.cell? ⟨bs, 0, none⟩ = some (ptr sb) /\ W3.cell? ⟨bh, 0, none⟩ = some (ptr hb) /\ W3.cell? ⟨bi, 0, none⟩ = some (.int .i64 (i : Nat)) := ⟨f3.cell' cs2 ne.1, f3.cell' ch2' ne.2.1, f3.cell' ci2 ne.2.2.1⟩
  have hS4 : W4.cell? ⟨bs, 0, none⟩ = some (ptr sb) /\ W4.cell? ⟨bh, 0, none⟩ = some (ptr hb) /\ W4.cell? ⟨bi, 0, none⟩ = some (.int .i64 (i : Nat)) := ⟨f4.cell' hS3.1 ne2.1, f4.cell' hS3.2.1 ne2.2.1, f4.cell' hS3.2.2 ne2.2.2.1⟩
  have h4 := h2.turn f24 (fun k hk => by rcases hk with rfl | rfl; exact nt2 _ (by simp); exact nt2 _ (by simp)) (fun e => e.elim ne.2.2.2.1 ne2.2.2.2.1) (fun e => e.elim ne.2.2.2.2 ne2.2.2.2.2.1)
  have ri2 : Rise (delP L (kyB i)) := t.ri.sub (delP_sub _ _)
  have pk2 : Pok (delP L (kyB i)) := t.pk.sub (delP_sub _ _)
  have ln2 := (delP_sub (kyB i) L).length_le
  obtain ⟨W5, hW5⟩ : ∃ W5, W4.alloc (.cells #[.int .u64 (r' : Nat), .slice none 0 0] 35) = W5 := ⟨_, rfl⟩
  have f5 : St W4 W5 := hW5 ▸ (Fr.refl _ W4).alloc _
  have SL := sl_root W4 W5 r' hW5
  have few2 := ch2.few
  have cn := t.cnt
  have SW := t_sweepR (h4.still f5) ch2.st (some ⟨W4.heap.size, 0, none⟩) 1 [(r', .slice none 0 0)] [Q2] SL rfl (fun j p Q' h1 h2 => by
   match j, h1, h2 with
   | 0, h1, h2 =>
    cases (Option.some.inj h1); cases (Option.some.inj h2)
    exact ⟨_, rt2, ri2, by omega⟩
   | j + 1, h1, _ => simp at h1) (by simp) (by omega)
  have HSW := Hd SW
  have HE := Hd (show ∀ w5 g, To sz W5 sb b T2 A w5 g (P2.length + 10 * cnt nu (ask nu (says P2 A))) -> HpS nu g -> (∀ u, ask nu g u = if u ∈ [Q2].flatten then ask nu (says P2 A) u else 0) -> (∀ i, fi nu <= i -> g i = says P2 A i) -> DelS nu sz w sb b T A br bg (delP L (kyB i)) w5 from fun w5 g tg sg ak ke => by
   obtain ⟨T5, P5, o5, e5, l5⟩ := tg
   subst e5
   have sw : Swp nu (says P2 A) (says P5 A) Q2 := ⟨sg, fun u => by rw [ak]; simp, ke⟩
   refine ⟨T5, P5, r', Q2, (((OnxX.of o02).var f24 (fun k hk => hk) (fun k hk => by rcases hk with rfl | rfl; exact nt2 _ (by simp); exact nt2 _ (by simp))).quiet f5).trans o5, ?_, ?_, t.put rt2 sw ri2 pk2⟩
   ·exact (Br4.kept f5 id).kept o5.fr (nt2 br (by simp))
   ·exact (Bg4.kept f5 id).kept o5.fr (nt2 bg (by simp)))
  have c4 := Br4.c; have c2 := Br2.c; have z2 := Br2.z; have c3 := Bg3.c; have z3 := Bg3.z
  have HW3 := Hd hW3; have HW4 := Hd hW4; have HW5 := Hd hW5
  refine hK.out _ _ ⟨cs2, ch2', ci2⟩ (fun _ => ?_)
  clear hK K SW h2 o02 o2 nt2 f3 f4 f24 h4 ri2 pk2 ln2 few2 cn f5 SL hW5 h t hl hP hnu Br Bg Br2 Bg2 Br3 Bg3 Br4 Bg4 fD l2 ch2 rt2 hk2 HX HP HNT hS1 hW3 hW4
  refine rdO 6 rfl (fun K hK => ?_)
  go_simp
  refine hK.out _ _ ⟨cs2, ch2', ci2⟩ (fun _ => ?_)
  clear hK K
  replace hHeld := ai cs2 (ai ch2' ci2)
  refine tkO 7 ?_ hHeld rfl ?_ ?_
  rotate_left
  ·intro w q;go_simp;try with_reducible rfl
  simp only [apt, List.set]
  refine tkO 8 ?_ hHeld rfl ?_ ?_
  rotate_left
  ·intro w q;go_simp;try with_reducible rfl
  simp only [apt, List.set]
  clear hHeld
  refine rdO 9 rfl (fun K hK => ?_)
  go_simp
  rw [uh HW3]
  refine hK.out _ _ hS3 (fun _ => ?_)
  clear hK K c2 z2
  refine rdO 10 rfl (fun K hK => ?_)
  go_simp
  rw [uh HW4]
  refine hK.out _ _ hS4 (fun _ => ?_)
  clear hK K c3 z3 hS3
  refine wpAnyH_done (by kernel_rfl) ?_ _
  obtain ⟨x1, x2, -⟩ := hS4
  go_wp2_with fail
  rw [uh HW5]
  refine (uh HSW).mono ?_
  rintro e w5 ⟨rfl, g, tg, sg, ak, ke, -⟩
  have HQ := Hd (uh HE w5 g tg sg ak ke)
  clear HSW HE tg sg ak ke
  go_wp2_with fail
  go_end0
  exact ⟨rfl, uh HQ⟩
end
end

section
theorem law_open (n N : Nat) (hn : N * 8 = 12400 + n) (hn0 : 0 < n) (hN : N <= 8192) (w : World) :
  Calls Tryz.prog 25 #[.int .i64 ((N : Int) * 8)] w fun e w' => ∃ b sb T A, e = .returned (.tuple #[ptr b, ptr sb]) /\ Opd w b sb n T A w' := by
 have K := new_any N (by omega) hN w
 have HK := Hd K
 have h1 := eq_nil_dev
 clear K
 go_enter Tryz.func25, Tryz.ntmps25
 go_wp2_with fail
 refine (uh HK).mono ?_
 clear HK
 unfold NewOk
 rintro e w1 ⟨rfl, L, d, f, nw⟩
 have K2 := open_new n N hn hn0 w d f nw
 have HK := Hd K2
 clear K2 d f nw
 go_wp2_with fail
 refine (uh HK).mono ?_
 clear HK
 rintro e w2 ⟨sb, T, A, rfl, o⟩
 have HO := Hd o
 clear o
 go_wp2
 go_ret2
 exact ⟨_, sb, T, A, rfl, uh HO⟩
section
variable {nu sz : Nat}
set_option maxRecDepth 20000 in
theorem l8_open (G : Geo nu sz) {N : Nat} (hN8 : N * 8 = 12400 + sz) (w : World) (tab : TabL w) : Calls Tryz.prog 5 #[.int .i64 ((N : Int) * 8)] w fun e w' => ∃ b sb hb T A base, e = .returned (.tuple #[ptr b, ptr sb, ptr hb]) /\ HpC nu sz w (fun k => k = hb) w' hb sb b T A N True 43021 base /\ NewH nu (rb base) := by
 obtain ⟨g1, g2, g3, g4, g5, g6⟩ := G.b
 have K : Calls Tryz.prog 25 #[.int .i64 ((N : Int) * 8)] w _ := law_open sz N hN8 (by omega) (by omega) w
 have l0 : 0 < w.heap.size := World.block_lt_of_cell? _ _ (tab 0 (by omega))
 have h1 := eq_nil_stor
 have HK := Hd K; have HT := Hd tab
 clear K tab
 go_enter Tryz.func5, Tryz.ntmps5
 go_wp2_with fail
 refine (uh HK).mono ?_
 clear HK
 rintro e w1 ⟨b, sb, T, A, rfl, o⟩
 obtain ⟨N', f, hN, c, k⟩ := o.calm
 have hN' : N' = N := by omega
 subst hN'
 have tab1 : TabL w1 := fun j hj => o.fr.cell' (uh HT j hj) id
 have OP := h_open_by (R := fun P' => Began nu (says [] A) (says P' A)) G o.st c k tab1 (fun ht => by have := o.new 0 ht; omega) (by omega) (fun w2 hb bx hp bc => (h_openC_new hp (by simp) (fun i hi => by
  rw [says_base c k []]; rfl) bc).mono (by
  rintro e w3 ⟨rfl, g, ⟨T', P', o', eg, -⟩, bg⟩
  subst eg
  exact ⟨rfl, T', P', o', bg⟩))
 have HOP := Hd OP; have HO := Hd o; have HC := Hd (ai c k)
 clear OP o c k tab1
 go_wp2_with fail
 refine (uh HOP).mono ?_
 clear HOP
 rintro e w2 (⟨hb, P', T', A', rfl, lh, hl, bg, o2, nh, f', c', k'⟩ | ⟨_, _, _, _, _, _, hg, _⟩)
 ·have HX := Hd (ai lh (ai hl (ai bg (ai o2 (ai nh (ai c' k'))))))
  clear lh hl bg o2 nh c' k'
  go_wp2
  go_ret3
  obtain ⟨lh, hl, bg, o2, nh, c', k'⟩ := uh HX
  have o := uh HO
  refine ⟨b, sb, hb, T', A', homed P' (fun _ => 0), rfl, ⟨⟨o2.st, o.fr.trans' o2.fr (fun k hk => .inr (o.new k hk)), fun k hk => (o2.sub k hk).elim (o.new k) (fun x => Nat.le_trans o.fr.size x), fun k hk => by subst hk; exact nh, fun k hk => by subst hk; exact ⟨Nat.le_trans o.fr.size lh, World.block_lt_of_cell? _ _ hl.c0⟩⟩, ⟨f', c', k'⟩, hl, rfl, l0⟩, ?_⟩
  rw [<- says_base (uh HC).1 (uh HC).2 P']
  exact ⟨bg.st, bg.ak, bg.root⟩
 ·exact absurd trivial hg
end
end
def AwY (lo bl bo : Nat) (Y : Nat -> Prop) (h : How) (_P : List (Int × Int)) (w' : World) : Prop :=
 h = .well /\ ∃ v, (Y bl /\ Y bo /\ ∀ k, v.ownBlock = some k -> Y k) /\ Box w' bl v /\ Box w' bo (.bool true) /\ w'.ownsRow lo 43 2 v 2 (pcl awL)
theorem AwY_stays (lo bl bo : Nat) : StaysY (AwY lo bl bo) := by
 rintro Y h P w w' F ⟨q, v, ⟨y1, y2, y3⟩, b1, b2, r⟩ hf hn
 exact ⟨q, v, ⟨y1, y2, y3⟩, b1.kept hf (hn bl y1), b2.kept hf (hn bo y2), row_kept r hf (fun k hk => hn k (y3 k hk))⟩
theorem eq_pair (w : World) : (binOp .eql 43 (.agg #[.string ⟨#[97]⟩, .int .u64 1]) (.agg #[.string ⟨#[97]⟩, .int .u64 1])).run Tryz.prog w = .ok (.bool true) w := by kernel_rfl
set_option maxRecDepth 20000 in
theorem l11_awake (w : World) (tab : TabL w) : Calls Tryz.prog 19 #[] w fun e w' => e = .returned (.bool true) /\ St w w' := by
 have K : Calls Tryz.prog 5 #[.int .i64 24576] w _ := l8_open geo24 (N := 3072) (by omega) w tab
 have h1 := eq_nil_heap
 have h2 := mf
 have HK := Hd K
 clear K tab
 go_enter Tryz.func19, Tryz.ntmps19
 go_wp2_with fail
 refine (uh HK).mono ?_
 clear HK
 rintro e w1 ⟨b, sb, hb, T, A, base, rfl, hc, nw⟩
 obtain ⟨W1, hW1⟩ : ∃ W1, w1.alloc (.cells #[ptr sb] 23) = W1 := ⟨_, rfl⟩
 obtain ⟨W2, hW2⟩ : ∃ W2, W1.alloc (.cells #[ptr hb] 24) = W2 := ⟨_, rfl⟩
 obtain ⟨W3, hW3⟩ : ∃ W3, W2.alloc (.cells #[.slice none 0 0] 33) = W3 := ⟨_, rfl⟩
 obtain ⟨W4, hW4⟩ : ∃ W4, W3.alloc (.cells #[.bool false] 4) = W4 := ⟨_, rfl⟩
 obtain ⟨n1, hn1⟩ : ∃ n1, w1.heap.size = n1 := ⟨_, rfl⟩
 have z1 : W1.heap.size = n1 + 1 := by rw [<- hW1]; simp [hn1]
 have z2 : W2.heap.size = n1 + 2 := by rw [<- hW2]; simp; omega
 have z3 : W3.heap.size = n1 + 3 := by rw [<- hW3]; simp; omega
 have f12 : St W1 W2 := hW2 ▸ (Fr.refl _ W1).alloc _
 have f23 : St W2 W3 := hW3 ▸ (Fr.refl _ W2).alloc _
 have f34 : St W3 W4 := hW4 ▸ (Fr.refl _ W3).alloc _
 have f24 : St W2 W4 := f23.trans' f34 nE
 have hc1 := hc.more (.cells #[ptr sb] 23)
 rw [hW1, hn1] at hc1
 have hc2 := hc1.more (.cells #[ptr hb] 24)
 rw [hW2, z1] at hc2
 have hc3 := hc2.more (.cells #[.slice none 0 0] 33)
 rw [hW3, z2] at hc3
 have hc4 := hc3.more (.cells #[.bool false] 4)
 rw [hW4, z3] at hc4
 have bs4 : Box W4 n1 (ptr sb) := by
  have := Box.new w1 (ptr sb) 23
  rw [hW1, hn1] at this; exact (this.kept f12 id).kept f24 id
 have bh2 : Box W2 (n1 + 1) (ptr hb) := by
  have := Box.new W1 (ptr hb) 24
  rw [hW2, z1] at this; exact this
 have bh4 := bh2.kept f24 id
 have bl4 : Box W4 (n1 + 2) (.slice none 0 0) := by
  have := Box.new W2 (.slice none 0 0) 33
  rw [hW3, z2] at this; exact this.kept f34 id
 have bo4 : Box W4 (n1 + 3) (.bool false) := by
  have := Box.new W3 (.bool false) 4
  rw [hW4, z3] at this; exact this
 have lhb : hb < n1 := by rw [<- hn1]; exact (hc.hd.xl hb hc.xh).2
 have l0 : 0 < n1 := by rw [<- hn1]; exact Nat.lt_of_lt_of_le hc.l0 hc.hd.fr.size
 have sy := hc.says []
 rw [homed_nil] at sy
 have DO := hc4.doZ (V := fun k => k = n1 + 2 \/ k = n1 + 3) (g := 51) (fi := #[]) (ca := #[ptr n1, ptr (n1 + 1), ptr (n1 + 2), ptr (n1 + 3)]) (R := AwY 0 (n1 + 2) (n1 + 3))
  (fun k hk => by rcases hk with e | e; exact .inl (.inr e); exact .inr e) (by omega) (AwY_stays _ _ _) (fun w3 f3 => acts_of (fun _ _ => by kernel_rfl) ((awC11 (hc4.toHp.still f3) (by rw [sy]; exact nw.st) (by rw [sy]; exact nw.ak) (by simp) (by omega) (f3.cell' bs4.c id) (f3.cell' bh4.c id) (bl4.kept f3 id) (bo4.kept f3 id) (fun k hk => by
   rcases hk with rfl | rfl | rfl | rfl
   ·exact hc4.hd.ap _ (.inl (.inl (.inl (.inr rfl))))
   ·exact hc4.hd.ap _ (.inl (.inl (.inr rfl)))
   ·exact hc4.hd.ap _ (.inl (.inr rfl))
   ·exact hc4.hd.ap _ (.inr rfl)) (by omega)).mono (by
   rintro e w4 ⟨rfl, T', P', v, o, b1, b2, r, nv, n2, n3⟩
   refine ⟨.well, rfl, .inl rfl, T', P', fun k => k = n1 + 2 \/ k = n1 + 3 \/ v.ownBlock = some k, o, fun k hk => ?_, rfl, v, ⟨.inl rfl, .inr (.inl rfl), fun k hk => .inr (.inr hk)⟩, b1, b2, row_lo r (Nat.zero_le _)⟩
   rcases hk with rfl | rfl | hk
   ·exact ⟨b1.lt, n2, .inl (.inl rfl)⟩
   ·exact ⟨b2.lt, n3, .inl (.inr rfl)⟩
   ·exact ⟨(r.lt k hk).2, nv k hk, .inr (r.lt k hk).1⟩))) (by omega)
 have bsc := bs4.c; have bhc := bh2.c
 have HDO := Hd DO; have HW := Hd (ai hW1 (ai hW2 (ai hW3 hW4)))
 rw [<- hW4, <- hW3, <- hW2, <- hW1] at bsc
 rw [<- hW2, <- hW1] at bhc
 clear DO hc hc1 hc2 hc3 hc4 bs4 bh2 bh4 bl4 bo4 nw sy f12 f23 f34 f24 hW1 hW2 hW3 hW4 lhb l0 z1 z2 z3
 go_wp2_with fail
 obtain ⟨hW1, hW2, hW3, hW4⟩ := uh HW
 rw [hW1, hW2, hW3, hW4]
 clear hW1 hW2 hW3 hW4 HW bsc bhc
 unfold DidZ at HDO
 refine (uh HDO).mono ?_
 clear HDO
 rintro e w6 ⟨fr6, ⟨P', T', A', Y, ⟨_, v, _, b1, b2, r⟩, rfl, hc6⟩ | ⟨i, P', T', Y, ⟨hq, _⟩, _⟩⟩
 ·obtain ⟨g, cap, ev⟩ : ∃ g cap, v = .slice (some ⟨g, 0, none⟩) 2 cap := by
   rcases rowp_form r with ⟨_, h0⟩ | ⟨g, cap, e⟩
   ·exact absurd h0 (by decide)
   ·exact ⟨g, cap, e⟩
  subst ev
  have SL := sl_of_row r pcl_one
  have cA : w6.cell? ⟨g, 0, none⟩ = some (.string ⟨#[97]⟩) := by
   obtain ⟨x, o, e, c⟩ := SL.cells 0 _ (pcl_at (l := awL) (k := 0) rfl).1
   cases e; exact c
  have cB : w6.cell? ⟨g, 1, none⟩ = some (.int .u64 1) := by
   obtain ⟨x, o, e, c⟩ := SL.cells 1 _ (pcl_at (l := awL) (k := 0) rfl).2
   cases e; exact c
  have c1 := b1.c; have c2 := b2.c
  have e1 := eq_pair
  have HFF := Hd hc6.hd.fr
  clear SL hc6 r fr6 b1 b2
  go_wp2
  go_ret
  exact ⟨rfl, uh HFF⟩
 ·cases hq

section
section
variable {nu sz : Nat} {w w' w0 w1 : World} {X Y : Nat -> Prop} {hb sb b : Nat} {T : Tay} {A : Ab} {N : Nat} {free : Prop} {s : Int} {base : Nat -> Int}
theorem HpC.back (h : HpC nu sz w1 X w hb sb b T A N free s base) (f : St w0 w1) (l0 : 0 < w0.heap.size) (hY : ∀ k, Y k -> X k \/ (w0.heap.size <= k /\ k < w1.heap.size)) (hy : Y hb) : HpC nu sz w0 Y w hb sb b T A N free s base := by
 refine ⟨⟨h.hd.st, f.trans' h.hd.fr nE, fun k hk => Nat.le_trans f.size (h.hd.new k hk), fun k hk => ?_, fun k hk => ?_⟩, h.cl, h.hp, hy, l0⟩
 ·rcases hY k hk with e | e
  ·exact h.hd.ap k e
  ·exact fun ht => by have := h.hd.new k ht; omega
 ·rcases hY k hk with e | e
  ·exact ⟨Nat.le_trans f.size (h.hd.xl k e).1, (h.hd.xl k e).2⟩
  ·exact ⟨e.1, Nat.lt_of_lt_of_le e.2 h.hd.fr.size⟩
end
section
variable {nu sz : Nat} {w w' w0 : World} {X : Nat -> Prop} {hb sb b bs bh br bi N : Nat} {T : Tay} {A : Ab} {s : Int} {base : Nat -> Int} {r i : Nat} {L : List Pr} {Q : List Nat}
def TwR (nu sz : Nat) (A : Ab) (br : Nat) (L' : List Pr) (h : How) (P' : List (Int × Int)) (w' : World) : Prop := h = .well /\ ∃ r' Q', Box w' br (.int .u64 ((r' : Nat) : Int)) /\ r' ≠ 0 /\ Tre nu sz (says P' A) r' L' Q'
theorem TwR_stays (nu sz : Nat) (A : Ab) (br : Nat) (L' : List Pr) : Stays (fun k => k = br) (TwR nu sz A br L') := by
 rintro h P w w' F ⟨q, r', Q', b1, t⟩ hf hn
 exact ⟨q, r', Q', b1.kept hf (hn br rfl), t⟩
theorem put_do {g : Nat} {fi ca : Array Value} {L' : List Pr} (hc : HpC nu sz w0 X w hb sb b T A N True s base) (hX : X br) (hh : hb ≠ br) (en : ∀ args w, (callFunc g args).run Tryz.prog w = .ok (.enter g args) w)
  (C : ∀ w1, St w w1 -> Calls Tryz.prog g (fi ++ ca) w1 fun e w' => e = .returned (.tuple #[]) /\ PutS nu sz (fun k => k = br) w1 sb b T A br L' w') (hs : s + 30729 < 4294967296) :
  Calls Tryz.prog 6 #[ptr sb, .func (.func g) fi ca] w fun e w' => e = .returned (.int .i64 0) /\ Fr (fun k => tfoot sb b T k \/ k = br) w w' /\ ∃ T' A' base' r' Q', HpC nu sz w0 X w' hb sb b T' A' N True (s + 30729) base' /\ Box w' br (.int .u64 ((r' : Nat) : Int)) /\ r' ≠ 0 /\ Tre nu sz (rb base') r' L' Q' := by
 have DO := hc.do_ (V := fun k => k = br) (g := g) (fi := fi) (ca := ca) (R := TwR nu sz A br L') (fun k hk => by rw [hk]; exact hX) hh (TwR_stays nu sz A br L') (fun w3 f3 => acts_of en ((C w3 f3).mono (by
  rintro e w4 ⟨rfl, T', P', r', Q', o, b1, h0, t⟩
  exact ⟨.well, rfl, .inl rfl, T', P', o, rfl, r', Q', b1, h0, t⟩))) hs
 unfold DidH at DO
 refine DO.mono ?_
 rintro e w' ⟨fr, ⟨P', T', A', ⟨_, r', Q', b1, h0, t⟩, rfl, hc'⟩ | ⟨i, P', T', ⟨hi, _⟩, _⟩⟩
 ·rw [hc.says P'] at t
  exact ⟨rfl, fr, T', A', _, r', Q', hc', b1, h0, t⟩
 ·exact (well_errno hi.symm).elim
end
end
end Go.Proofs.YtbpndmghlnadiaaGreatDoor
