/- Joined: Ko Kn Kp. -/
import Derived.Test.YtkaplgmjdfmpmaaGreatDoorP31
import Derived.Test.YtkaplgmjdfmpmaaGreatDoorP32
import Derived.Test.YtkaplgmjdfmpmaaGreatDoorP34
namespace Go.Proofs.YtkaplgmjdfmpmaaGreatDoor
open Go.RowKit

section
def PutO (nu sz : Nat) (w : World) (sb b : Nat) (T : Tay) (A : Ab) (f : Nat → Int) (b2 : Nat) (L' : List Pr) (w' : World) : Prop :=
  ∃ T' P' r' Q' k, OnxX (fun k => k = b2) w sb b T w' T' sz A P' false ∧ Box w' b2 (.int .u64 ((r' : Nat) : Int)) ∧ r' ≠ 0 ∧ k ≤ 20 ∧ Chg nu f k (says P' A) ∧ Rt nu sz (says P' A) r' L' Q'

section
variable {nu sz : Nat} {w w' w0 : World} {hb sb b bs bh br bi b2 : Nat} {T : Tay} {A : Ab} {P : List (Int × Int)} {r r2 : Nat} {L L2 : List Pr} {Q Q2 : List Nat} {a1 : Int}
set_option maxRecDepth 20000 in
set_option maxHeartbeats 4000000 in
theorem tsC2 (h : Hp nu sz w hb sb b T A P) (t : Tre nu sz (says P A) r L Q) (hl : L.length ≤ 130) (hP : P.length ≤ 100) (hnu : 2 * L.length + 30 < nu / 4)
    (cs : w.cell? ⟨bs, 0, none⟩ = some (ptr sb)) (ch : w.cell? ⟨bh, 0, none⟩ = some (ptr hb)) (Br : RtO w br r) (ci : w.cell? ⟨bi, 0, none⟩ = some (.int .i64 a1)) (B2 : Box w b2 (.int .u64 0)) (nt : ∀ k, k = bs ∨ k = bh ∨ k = br ∨ k = bi ∨ k = b2 → ¬ tfoot sb b T k)
    (ne : bs ≠ b2 ∧ bh ≠ b2 ∧ bi ≠ b2 ∧ br ≠ b2) :
    Calls Tryz.prog 35 #[ptr bs, ptr bh, ptr br, ptr bi, ptr b2] w fun e w' => e = .returned (.tuple #[]) ∧ PutO nu sz w sb b T A (says P A) b2 (putP L (kyB (msk a1 63)) 99) w' := by
  have fD : Still w w.drew := (Fr.refl _ w).drewN 1
  obtain ⟨i, hi⟩ : ∃ i, msk a1 63 = i := ⟨_, rfl⟩
  have mk : bits .and .i64 a1 63 = (i : Int) := by rw [← hi]; exact mask63 a1
  have hi63 : i ≤ 63 := by rw [← hi]; exact Nat.and_le_right
  rw [hi]
  have KY := l11_key i (by omega) w.drew
  have PUT : ∀ w1, Still w w1 → Calls Tryz.prog 11 #[ptr sb, ptr hb, .int .u64 (r : Nat), .string (kyB i), .int .u64 99] w1 _ := fun w1 f1 => y_Put (h.still f1) t.st t.rt t.pk t.ri (by omega) (kyB i) 99 (by rw [kyB_size]; omega) (by omega) (by omega) (by have := t.cnt; omega) t.low
  have lbs : bs < w.heap.size := World.block_lt_of_cell? _ _ cs
  have lbh : bh < w.heap.size := World.block_lt_of_cell? _ _ ch
  have lbi : bi < w.heap.size := World.block_lt_of_cell? _ _ ci
  have lbr := Br.lt
  have cr : w.cell? ⟨br, 0, none⟩ = some (.int .u64 (r : Nat)) := cell_of_obj Br.o 0
  have HK := hide KY; have HP := @hide _ PUT
  have HX := hide (And.intro h (And.intro B2 fD)); have HNT := @hide _ nt
  clear KY PUT h t hl hP hnu Br nt fD B2 hi
  go_enter Tryz.func35, Tryz.ntmps35
  go_wp2_with fail
  refine wp_region_held_drew (S := fun w' => w'.cell? ⟨bs, 0, none⟩ = some (ptr sb) ∧ w'.cell? ⟨bh, 0, none⟩ = some (ptr hb) ∧ w'.cell? ⟨bi, 0, none⟩ = some (.int .i64 a1) ∧ w'.cell? ⟨br, 0, none⟩ = some (.int .u64 (r : Nat))) (by kernel_rfl) ⟨cs, ch, ci, cr⟩ (fun hHeld => ?_)
  refine take_l 0 (v := ?_) rfl (by kernel_rfl) (by kernel_rfl) (by kernel_rfl) (fun _ _ _ h => h) (Or.inl ⟨by rfl, ?_⟩) hHeld ?_
  rotate_left
  · (intro w hSw; (try dsimp only at hSw); go_simp; (try with_reducible rfl))
  simp only [Act.put, List.setIfInBounds_toArray, List.set_cons_zero, List.set_cons_succ]
  refine take_l 1 (v := ?_) rfl (by kernel_rfl) (by kernel_rfl) (by kernel_rfl) (fun _ _ _ h => h) (Or.inl ⟨by rfl, ?_⟩) hHeld ?_
  rotate_left
  · (intro w hSw; (try dsimp only at hSw); go_simp; (try with_reducible rfl))
  simp only [Act.put, List.setIfInBounds_toArray, List.set_cons_zero, List.set_cons_succ]
  refine take_l 2 (v := ?_) rfl (by kernel_rfl) (by kernel_rfl) (by kernel_rfl) (fun _ _ _ h => h) (Or.inl ⟨by rfl, ?_⟩) hHeld ?_
  rotate_left
  · (intro w hSw; (try dsimp only at hSw); go_simp; (try with_reducible rfl))
  simp only [Act.put, List.setIfInBounds_toArray, List.set_cons_zero, List.set_cons_succ]
  refine take_l 3 (v := ?_) rfl (by kernel_rfl) (by kernel_rfl) (by kernel_rfl) (fun _ _ _ h => h) (Or.inl ⟨by rfl, ?_⟩) hHeld ?_
  rotate_left
  · (intro w hSw; (try dsimp only at hSw); go_simp; (try with_reducible rfl))
  simp only [Act.put, List.setIfInBounds_toArray, List.set_cons_zero, List.set_cons_succ]
  refine take_l 4 (v := ?_) rfl (by kernel_rfl) (by kernel_rfl) (by kernel_rfl) (fun _ _ _ h => h) (Or.inl ⟨by rfl, ?_⟩) hHeld ?_
  rotate_left
  · (intro w hSw; (try dsimp only at hSw); go_simp; (try with_reducible rfl))
  simp only [Act.put, List.setIfInBounds_toArray, List.set_cons_zero, List.set_cons_succ]
  refine take_l 5 (v := ?_) rfl (by kernel_rfl) (by kernel_rfl) (by kernel_rfl) (fun _ _ _ h => h) (Or.inl ⟨by rfl, ?_⟩) hHeld ?_
  rotate_left
  · (intro w hSw; (try dsimp only at hSw); go_simp; (try with_reducible rfl))
  simp only [Act.put, List.setIfInBounds_toArray, List.set_cons_zero, List.set_cons_succ]
  refine wpAnyH_ready (rs := [6]) (by kernel_rfl) (by simp) ?_
  refine AllReadyH.cons rfl (fun K hK => ?_) AllReadyH.nil
  go_simp
  go_wp2_with fail
  refine (unhide HK).mono ?_
  clear HK
  rintro e w1 ⟨rfl, f1⟩
  have f01 : Still w w1 := (unhide HX).2.2.trans' f1 (fun _ x => x.elim)
  refine hK.out _ _ ⟨f01.cell' cs (fun x => x), f01.cell' ch (fun x => x), f01.cell' ci (fun x => x), f01.cell' cr (fun x => x)⟩ (fun _ => ?_)
  clear hK K f1
  refine wpAnyH_ready (rs := [7]) (by kernel_rfl) (by simp) ?_
  refine AllReadyH.cons rfl (fun K hK => ?_) AllReadyH.nil
  go_simp
  go_wp2_with fail
  refine (unhide HP w1 f01).mono ?_
  rintro e w2 ⟨r', rfl, T2, P2, Q2, k2, hk2, o2, l2, ch2, hr2, rt2⟩
  obtain ⟨h, B2, fD⟩ := unhide HX
  have o02 : Onx w sb b T w2 T2 sz A P2 false := o2.after f01
  have lb2 := B2.lt
  have nt2 : ∀ k, k = bs ∨ k = bh ∨ k = br ∨ k = bi ∨ k = b2 → ¬ tfoot sb b T2 k := fun k hk => o02.other (by rcases hk with rfl | rfl | rfl | rfl | rfl <;> assumption) (unhide HNT k hk)
  have cs2 : w2.cell? ⟨bs, 0, none⟩ = some (ptr sb) := o02.fr.cell' cs (unhide HNT bs (by simp))
  have ch2' : w2.cell? ⟨bh, 0, none⟩ = some (ptr hb) := o02.fr.cell' ch (unhide HNT bh (by simp))
  have ci2 : w2.cell? ⟨bi, 0, none⟩ = some (.int .i64 a1) := o02.fr.cell' ci (unhide HNT bi (by simp))
  have cr2 : w2.cell? ⟨br, 0, none⟩ = some (.int .u64 (r : Nat)) := o02.fr.cell' cr (unhide HNT br (by simp))
  have B22 := B2.kept o02.fr (unhide HNT b2 (by simp))
  obtain ⟨W3, hW3⟩ : ∃ W3, w2.setCell ⟨b2, 0, none⟩ (.int .u64 (r' : Nat)) = W3 := ⟨_, rfl⟩
  have f3 : Fr (fun k => k = b2) w2 W3 := hW3 ▸ Fr.box w2 b2 _
  have HE := hide (show PutO nu sz w sb b T A (says P A) b2 (putP L (kyB i) 99) W3 from ⟨T2, P2, r', Q2, k2, (OnxX.of o02).var f3 (fun k hk => hk) (fun k hk => by rw [hk]; exact nt2 b2 (by simp)), hW3 ▸ B22.set _, hr2, hk2, ch2, rt2⟩)
  have S3 : W3.cell? ⟨bs, 0, none⟩ = some (ptr sb) ∧ W3.cell? ⟨bh, 0, none⟩ = some (ptr hb) ∧ W3.cell? ⟨bi, 0, none⟩ = some (.int .i64 a1) ∧ W3.cell? ⟨br, 0, none⟩ = some (.int .u64 (r : Nat)) := ⟨f3.cell' cs2 ne.1, f3.cell' ch2' ne.2.1, f3.cell' ci2 ne.2.2.1, f3.cell' cr2 ne.2.2.2⟩
  have c2 := B22.c; have z2 := B22.z
  have HW3 := hide hW3
  refine hK.out _ _ ⟨cs2, ch2', ci2, cr2⟩ (fun _ => ?_)
  clear hK K o02 o2 nt2 f3 h B2 B22 fD l2 ch2 hr2 rt2 hk2 HX HP HNT cs2 ch2' ci2 cr2 hW3
  refine wpAnyH_ready (rs := [8]) (by kernel_rfl) (by simp) ?_
  refine AllReadyH.cons rfl (fun K hK => ?_) AllReadyH.nil
  go_simp
  rw [unhide HW3]
  refine hK.out _ _ S3 (fun _ => ?_)
  clear hK K c2 z2
  refine wpAnyH_done (by kernel_rfl) ?_ _
  go_wp2_with fail
  go_end0
  exact ⟨rfl, unhide HE⟩

theorem sl_root2 (w W : World) (r r2 : Nat) (hW : w.alloc (.cells #[.int .u64 (r : Nat), .slice none 0 0, .int .u64 (r2 : Nat), .slice none 0 0] 35) = W) : Sl W 2 (some ⟨w.heap.size, 0, none⟩) ([(r, Value.slice none 0 0), (r2, Value.slice none 0 0)] : List (Nat × Value)).length 2 (rtcl [(r, .slice none 0 0), (r2, .slice none 0 0)]) := by
  have o : W.heap[w.heap.size]? = some (.cells #[.int .u64 (r : Nat), .slice none 0 0, .int .u64 (r2 : Nat), .slice none 0 0] 35 (0, 0)) := hW ▸ heap_alloc_new w _
  exact ⟨rfl, Nat.le_refl _, (fun e => by cases e), (fun u hu => by
    simp only [rtcl, List.mem_cons, List.not_mem_nil, or_false] at hu
    rcases hu with rfl | rfl | rfl | rfl <;> rfl), (fun j u hu => ⟨w.heap.size, 0, rfl, by
    rw [Nat.zero_add, cell_of_obj o j, ← hu]
    simp [rtcl]⟩), (fun x e => by cases e; rfl)⟩
structure Two (nu sz : Nat) (f : Nat → Int) (r : Nat) (L : List Pr) (Q : List Nat) (r2 : Nat) (L2 : List Pr) (Q2 : List Nat) : Prop where
  st : HpS nu f
  rt : Rt nu sz f r L Q
  rt2 : Rt nu sz f r2 L2 Q2
  ri : Rise L ∧ Rise L2
  ln : L.length ≤ 200 ∧ L2.length ≤ 200

set_option maxRecDepth 20000 in
set_option maxHeartbeats 4000000 in
theorem tsC3 (h : Hp nu sz w hb sb b T A P) (t : Two nu sz (says P A) r L Q r2 L2 Q2) (hP : P.length ≤ 100) (hc : cnt nu (ask nu (says P A)) ≤ 500)
    (cs : w.cell? ⟨bs, 0, none⟩ = some (ptr sb)) (ch : w.cell? ⟨bh, 0, none⟩ = some (ptr hb)) (Br : RtO w br r) (B2 : w.cell? ⟨b2, 0, none⟩ = some (.int .u64 (r2 : Nat))) :
    Calls Tryz.prog 36 #[ptr bs, ptr bh, ptr br, ptr b2] w fun e w' => e = .returned (.tuple #[]) ∧ ∃ T' P', Onx w sb b T w' T' sz A P' false ∧ Swp nu (says P A) (says P' A) (Q ++ Q2) := by
  obtain ⟨W4, hW4⟩ : ∃ W4, w.alloc (.cells #[.int .u64 (r : Nat), .slice none 0 0, .int .u64 (r2 : Nat), .slice none 0 0] 35) = W4 := ⟨_, rfl⟩
  have f4 : Still w W4 := hW4 ▸ (Fr.refl _ w).alloc _
  have SL := sl_root2 w W4 r r2 hW4
  have SW := t_sweepR (h.still f4) t.st (some ⟨w.heap.size, 0, none⟩) 2 [(r, .slice none 0 0), (r2, .slice none 0 0)] [Q, Q2] SL rfl (fun j p Q' h1 h2 => by
    match j, h1, h2 with
    | 0, h1, h2 =>
      cases (Option.some.inj h1); cases (Option.some.inj h2)
      exact ⟨_, t.rt, t.ri.1, by have := t.ln; omega⟩
    | 1, h1, h2 =>
      cases (Option.some.inj h1); cases (Option.some.inj h2)
      exact ⟨_, t.rt2, t.ri.2, by have := t.ln; omega⟩
    | j + 2, h1, _ => simp at h1) (by simp) (by omega)
  have c0 := cell_of_obj Br.o 0; have c1 := cell_of_obj Br.o 1
  have HSW := hide SW; have HW := hide hW4; have HF := hide f4
  clear SW SL hW4 f4 h t hP hc Br
  go_enter Tryz.func36, Tryz.ntmps36
  go_wp2_with fail
  rw [unhide HW]
  refine (unhide HSW).mono ?_
  rintro e w5 ⟨rfl, g, ⟨T5, P5, o5, e5, l5⟩, sg, ak, ke, -⟩
  subst e5
  have HQ := hide (And.intro o5 (And.intro sg (And.intro ak ke)))
  clear HSW o5 sg ak ke
  go_wp2_with fail
  go_end0
  obtain ⟨o5, sg, ak, ke⟩ := unhide HQ
  exact ⟨rfl, T5, P5, o5.after (unhide HF), sg, fun u => by rw [ak]; simp, ke⟩
end
end

section
theorem sum_list {n : Nat} (f : Nat → Nat) : ∀ {Q : List Nat}, Q.Nodup → (∀ v ∈ Q, v < n) → (Q.map f).sum = sumTo (fun u => if u ∈ Q then f u else 0) n
  | [], _, _ => by
    rw [sumTo_zero fun u _ => by simp]
    rfl
  | a :: Q, d, h => by
    obtain ⟨d1, d2⟩ := List.nodup_cons.1 d
    have ih := sum_list f d2 (fun v hv => h v (List.mem_cons_of_mem _ hv))
    have e : sumTo (fun u => if u ∈ a :: Q then f u else 0) n = sumTo (fun u => (if u = a then f u else 0) + (if u ∈ Q then f u else 0)) n := sumTo_congr fun u _ => by
      by_cases e : u = a
      · subst e; simp [d1]
      · by_cases g : u ∈ Q
        · simp [g, e]
        · simp [g, e]
    rw [e, sumTo_add, sumTo_point (u := a) (h a (List.mem_cons_self ..)) (fun v _ hv => if_neg hv), if_pos rfl, List.map_cons, List.sum_cons, ih]
theorem len_list {n : Nat} {Q : List Nat} (d : Q.Nodup) (h : ∀ v ∈ Q, v < n) : Q.length = sumTo (fun u => if u ∈ Q then 1 else 0) n := by
  rw [← sum_list (fun _ => 1) d h]
  clear d h
  induction Q with
  | nil => rfl
  | cons a Q ih => rw [List.map_cons, List.sum_cons, ← ih, List.length_cons, Nat.add_comm]
theorem share_count {nu : Nat} {K : Nat → Nat} {Q Q2 : List Nat} (d : Q.Nodup) (d2 : Q2.Nodup) (h : ∀ v ∈ Q, v < nu) (h2 : ∀ v ∈ Q2, v < nu) (hK : ∀ u, K u ≠ 0 ↔ u ∈ Q ∨ u ∈ Q2) : cnt nu K + (Q.map fun v => if v ∈ Q2 then 1 else 0).sum = Q.length + Q2.length := by
  rw [sum_list (fun v => if v ∈ Q2 then 1 else 0) d h, len_list d h, len_list d2 h2, ← sumTo_add]
  unfold cnt
  rw [← sumTo_add]
  refine sumTo_congr fun u _ => ?_
  have := hK u
  by_cases e : K u = 0
  · have h1 : ¬ u ∈ Q := fun x => (this.2 (.inl x)) e
    have h2 : ¬ u ∈ Q2 := fun x => (this.2 (.inr x)) e
    simp [e, h1, h2]
  · by_cases h1 : u ∈ Q
    · by_cases h2 : u ∈ Q2 <;> simp [e, h1, h2]
    · have h2 : u ∈ Q2 := (this.1 e).resolve_left h1
      simp [e, h1, h2]
theorem inP_le {nu : Nat} {K K' : Nat → Nat} (h : ∀ u, K' u = K u ∨ K' u = 0) : inP nu K' ≤ inP nu K := by
  refine sumTo_le fun u _ => ?_
  have p : ∀ k, (pc K' k (u / 2 ^ k)).toNat ≤ (pc K k (u / 2 ^ k)).toNat := fun k => by
    unfold pc
    rcases h (u / 2 ^ k * 2 ^ k) with e | e
    · rw [e]; exact Nat.le_refl _
    · rw [e]; simp
  unfold cv sum7
  exact Nat.add_le_add (Nat.add_le_add (Nat.add_le_add (Nat.add_le_add (Nat.add_le_add (Nat.add_le_add (p 0) (p 1)) (p 2)) (p 3)) (p 4)) (p 5)) (p 6)
theorem perm_of {α : Type} [DecidableEq α] : ∀ (Q : List α) (ts : List α), Q.Nodup → (∀ x ∈ Q, x ∈ ts) → ts.length = Q.length → ts.Perm Q
  | [], ts, _, _, hl => by
    rw [List.length_eq_zero_iff.1 hl]
  | a :: Q, ts, d, h, hl => by
    obtain ⟨d1, d2⟩ := List.nodup_cons.1 d
    have ha := h a (List.mem_cons_self ..)
    refine (List.perm_cons_erase ha).trans (List.Perm.cons a (perm_of Q (ts.erase a) d2 (fun x hx => ?_) ?_))
    · exact (List.mem_erase_of_ne (fun e : x = a => d1 (by rw [← e]; exact hx))).2 (h x (List.mem_cons_of_mem _ hx))
    · rw [List.length_erase_of_mem ha, hl]; simp
def plI (nu v : Nat) : Int := ((fi nu + 8 * v : Nat) : Int)
theorem plI_inj {nu u v : Nat} (h : plI nu u = plI nu v) : u = v := by unfold plI at h; omega
theorem pl_nodup {nu : Nat} : ∀ {Q : List Nat}, Q.Nodup → (Q.map (plI nu)).Nodup
  | [], _ => List.nodup_nil
  | a :: Q, d => by
    obtain ⟨d1, d2⟩ := List.nodup_cons.1 d
    refine List.nodup_cons.2 ⟨fun h => ?_, pl_nodup d2⟩
    obtain ⟨v, hv, e⟩ := List.mem_map.1 h
    exact d1 (plI_inj e ▸ hv)
theorem pl_perm {nu : Nat} {Q : List Nat} {ts : List Int} (d : Q.Nodup) (h : ∀ x, x ∈ ts ↔ ∃ v ∈ Q, x = ((fi nu + 8 * v : Nat) : Int)) (hl : ts.length = Q.length) : ts.Perm (Q.map (plI nu)) :=
  perm_of _ _ (pl_nodup d) (fun x hx => by
    obtain ⟨v, hv, e⟩ := List.mem_map.1 hx
    exact (h x).2 ⟨v, hv, e.symm⟩) (by rw [hl, List.length_map])
theorem count_nodup {α : Type} [DecidableEq α] (x : α) : ∀ {l : List α}, l.Nodup → l.count x = if x ∈ l then 1 else 0
  | [], _ => by simp
  | a :: l, d => by
    obtain ⟨d1, d2⟩ := List.nodup_cons.1 d
    rw [List.count_cons, count_nodup x d2]
    by_cases e : a = x
    · subst e; simp [d1]
    · have e2 : ¬ x = a := fun h => e h.symm
      simp [e, e2]
theorem count_in {nu : Nat} {Q Q2 : List Nat} {ta tb : List Int} (d2 : Q2.Nodup) (pa : ta.Perm (Q.map (plI nu))) (pb : tb.Perm (Q2.map (plI nu))) : (ta.map fun x => tb.count x).sum = (Q.map fun v => if v ∈ Q2 then 1 else 0).sum := by
  rw [(pa.map fun x => tb.count x).sum_nat, List.map_map]
  congr 1
  refine List.map_congr_left fun v _ => ?_
  show tb.count (plI nu v) = _
  rw [pb.count_eq, count_nodup _ (pl_nodup d2)]
  by_cases h : v ∈ Q2
  · rw [if_pos h, if_pos (List.mem_map.2 ⟨v, h, rfl⟩)]
  · rw [if_neg h, if_neg (fun x => by
      obtain ⟨u, hu, e⟩ := List.mem_map.1 x
      exact h (plI_inj e ▸ hu))]
end

section
section
variable {nu sz : Nat} {w w' w0 : World} {X : Nat → Prop} {hb sb b bs bh br bi b2 N : Nat} {T : Tay} {A : Ab} {s : Int} {base : Nat → Int} {r r2 i : Nat} {L L2 : List Pr} {Q Q2 : List Nat}
theorem put_doG {g : Nat} {fi ca : Array Value} {L' : List Pr} {B : World → Nat → Prop} (hB : ∀ w w' F r, B w r → Fr F w w' → ¬ F br → B w' r) (hc : HpC nu sz w0 X w hb sb b T A N True s base) (hX : X br) (hh : hb ≠ br) (en : ∀ args w, (callFunc g args).run Tryz.prog w = .ok (.enter g args) w)
    (C : ∀ w1, Still w w1 → Calls Tryz.prog g (fi ++ ca) w1 fun e w' => e = .returned (.tuple #[]) ∧ PutG nu sz (fun k => k = br) w1 sb b T A B L' w') (hs : s + 30729 < 4294967296) :
    Calls Tryz.prog 9 #[ptr sb, .func (.func g) fi ca] w fun e w' => e = .returned (.int .i64 0) ∧ Fr (fun k => tfoot sb b T k ∨ k = br) w w' ∧ ∃ T' A' base' r' Q', HpC nu sz w0 X w' hb sb b T' A' N True (s + 30729) base' ∧ B w' r' ∧ r' ≠ 0 ∧ Tre nu sz (rb base') r' L' Q' := by
  have DO := hc.do_ (V := fun k => k = br) (g := g) (fi := fi) (ca := ca) (R := fun h P' w' => h = .well ∧ ∃ r' Q', B w' r' ∧ r' ≠ 0 ∧ Tre nu sz (says P' A) r' L' Q') (fun k hk => by rw [hk]; exact hX) hh (by
    rintro h P w w' F ⟨q, r', Q', b1, t⟩ hf hn
    exact ⟨q, r', Q', hB _ _ _ _ b1 hf (hn br rfl), t⟩) (fun w3 f3 => acts_of en ((C w3 f3).mono (by
    rintro e w4 ⟨rfl, T', P', r', Q', o, b1, h0, t⟩
    exact ⟨.well, rfl, .inl rfl, T', P', o, rfl, r', Q', b1, h0, t⟩))) hs
  unfold DidH at DO
  refine DO.mono ?_
  rintro e w' ⟨fr, ⟨P', T', A', ⟨_, r', Q', b1, h0, t⟩, rfl, hc'⟩ | ⟨i, P', T', ⟨hi, _⟩, _⟩⟩
  · rw [hc.says P'] at t
    exact ⟨rfl, fr, T', A', _, r', Q', hc', b1, h0, t⟩
  · exact (well_errno hi.symm).elim
theorem two_do {g : Nat} {fi ca : Array Value} {L' : List Pr} (hc : HpC nu sz w0 X w hb sb b T A N True s base) (hX : X b2) (hh : hb ≠ b2) (en : ∀ args w, (callFunc g args).run Tryz.prog w = .ok (.enter g args) w)
    (C : ∀ w1, Still w w1 → Calls Tryz.prog g (fi ++ ca) w1 fun e w' => e = .returned (.tuple #[]) ∧ PutO nu sz w1 sb b T A (rb base) b2 L' w') (hs : s + 30729 < 4294967296) :
    Calls Tryz.prog 9 #[ptr sb, .func (.func g) fi ca] w fun e w' => e = .returned (.int .i64 0) ∧ Fr (fun k => tfoot sb b T k ∨ k = b2) w w' ∧ ∃ T' A' base' r' Q' k, HpC nu sz w0 X w' hb sb b T' A' N True (s + 30729) base' ∧ Box w' b2 (.int .u64 ((r' : Nat) : Int)) ∧ r' ≠ 0 ∧ k ≤ 20 ∧ Chg nu (rb base) k (rb base') ∧ Rt nu sz (rb base') r' L' Q' := by
  have DO := hc.do_ (V := fun k => k = b2) (g := g) (fi := fi) (ca := ca) (R := fun h P' w' => h = .well ∧ ∃ r' Q' k, Box w' b2 (.int .u64 ((r' : Nat) : Int)) ∧ r' ≠ 0 ∧ k ≤ 20 ∧ Chg nu (rb base) k (says P' A) ∧ Rt nu sz (says P' A) r' L' Q') (fun k hk => by rw [hk]; exact hX) hh (by
    rintro h P w w' F ⟨q, r', Q', k, b1, t⟩ hf hn
    exact ⟨q, r', Q', k, b1.kept hf (hn b2 rfl), t⟩) (fun w3 f3 => acts_of en ((C w3 f3).mono (by
    rintro e w4 ⟨rfl, T', P', r', Q', k, o, b1, t⟩
    exact ⟨.well, rfl, .inl rfl, T', P', o, rfl, r', Q', k, b1, t⟩))) hs
  unfold DidH at DO
  refine DO.mono ?_
  rintro e w' ⟨fr, ⟨P', T', A', ⟨_, r', Q', k, b1, h0, hk, c, t⟩, rfl, hc'⟩ | ⟨i, P', T', ⟨hi, _⟩, _⟩⟩
  · rw [hc.says P'] at t c
    exact ⟨rfl, fr, T', A', _, r', Q', k, hc', b1, h0, hk, c, t⟩
  · exact (well_errno hi.symm).elim
theorem sweep_do {g : Nat} {fi ca : Array Value} {U : List Nat} (hc : HpC nu sz w0 X w hb sb b T A N True s base) (en : ∀ args w, (callFunc g args).run Tryz.prog w = .ok (.enter g args) w)
    (C : ∀ w1, Still w w1 → Calls Tryz.prog g (fi ++ ca) w1 fun e w' => e = .returned (.tuple #[]) ∧ ∃ T' P', Onx w1 sb b T w' T' sz A P' false ∧ Swp nu (rb base) (says P' A) U) (hs : s + 30729 < 4294967296) :
    Calls Tryz.prog 9 #[ptr sb, .func (.func g) fi ca] w fun e w' => e = .returned (.int .i64 0) ∧ Fr (fun k => tfoot sb b T k ∨ False) w w' ∧ ∃ T' A' base', HpC nu sz w0 X w' hb sb b T' A' N True (s + 30729) base' ∧ Swp nu (rb base) (rb base') U := by
  have DO := hc.do_ (V := fun _ => False) (g := g) (fi := fi) (ca := ca) (R := fun h P' _ => h = .well ∧ Swp nu (rb base) (says P' A) U) (fun k hk => hk.elim) (fun h => h) (by
    rintro h P w w' F ⟨q, t⟩ hf hn
    exact ⟨q, t⟩) (fun w3 f3 => acts_of en ((C w3 f3).mono (by
    rintro e w4 ⟨rfl, T', P', o, t⟩
    exact ⟨.well, rfl, .inl rfl, T', P', OnxX.of o, rfl, t⟩))) hs
  unfold DidH at DO
  refine DO.mono ?_
  rintro e w' ⟨fr, ⟨P', T', A', ⟨_, t⟩, rfl, hc'⟩ | ⟨i, P', T', ⟨hi, _⟩, _⟩⟩
  · rw [hc.says P'] at t
    exact ⟨rfl, fr, T', A', _, hc', t⟩
  · exact (well_errno hi.symm).elim
end
end
end Go.Proofs.YtkaplgmjdfmpmaaGreatDoor
