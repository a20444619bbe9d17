/- Joined: Kd Kb Ke Kl Kf Kg Kq Kh. -/
import Derived.Test.YtkaplgmjdfmpmaaGreatDoorP05
import Derived.Test.YtkaplgmjdfmpmaaGreatDoorP14
import Derived.Test.YtkaplgmjdfmpmaaGreatDoorP31
namespace Go.Proofs.YtkaplgmjdfmpmaaGreatDoor
open Go.RowKit

section
theorem Fr.box (w : World) (r : Nat) (v : Value) : Fr (fun k => k = r) w (w.setCell ⟨r, 0, none⟩ v) := (Fr.refl (fun k => k = r) w).setCell (.inl rfl) v
def awL : List Pr := [(⟨#[97]⟩, 1), (⟨#[98]⟩, 2)]
theorem awL_is : putP (putP [] ⟨#[98]⟩ 2) ⟨#[97]⟩ 1 = awL := by
  have h1 : ¬ ltK ⟨#[98]⟩ ⟨#[97]⟩ := by decide
  have h2 : ¬ (⟨#[98]⟩ : ByteArray) = ⟨#[97]⟩ := by decide
  simp [putP, h1, h2, awL]
theorem awG_is : getP awL ⟨#[98]⟩ = some 2 := by
  have h2 : ¬ (⟨#[97]⟩ : ByteArray) = ⟨#[98]⟩ := by decide
  simp [getP, awL, h2]
theorem rowp_form {w : World} {lo n : Nat} {v : Value} {xs : List Value} (h : w.ownsRow lo 43 2 v n xs) : (v = .slice none 0 0 ∧ n = 0) ∨ ∃ g cap, v = .slice (some ⟨g, 0, none⟩) n cap := by
  rcases h.2 with ⟨e, h0⟩ | ⟨g, cap, _, e, _⟩
  · exact .inl ⟨e, h0⟩
  · exact .inr ⟨g, cap, e⟩

section
variable {nu sz : Nat} {w w' w0 : World} {hb sb b bs bh bl bo : Nat} {T : Tay} {A : Ab} {P : List (Int × Int)} {v1 v2 : Value}
set_option maxRecDepth 20000 in
set_option maxHeartbeats 4000000 in
theorem awC11 (h : Hp nu sz w hb sb b T A P) (s : HpS nu (says P A)) (ak : ask nu (says P A) = fun _ => 0) (hP : P.length + 4600 ≤ 6144) (hnu : 60 < nu / 4)
    (cs : w.cell? ⟨bs, 0, none⟩ = some (ptr sb)) (ch : w.cell? ⟨bh, 0, none⟩ = some (ptr hb)) (Bl : Box w bl v1) (Bo : Box w bo v2) (nt : ∀ k, k = bs ∨ k = bh ∨ k = bl ∨ k = bo → ¬ tfoot sb b T k)
    (ne : bs ≠ bl ∧ bs ≠ bo ∧ bl ≠ bo ∧ hb ≠ bl ∧ 0 ≠ bl) :
    Calls Tryz.prog 62 #[ptr bs, ptr bh, ptr bl, ptr bo] w fun e w' => e = .returned (.tuple #[]) ∧ ∃ T' P' v, OnxX (fun k => k = bl ∨ k = bo) w sb b T w' T' sz A P' false ∧ Box w' bl v ∧ Box w' bo (.bool true) ∧ w'.ownsRow w.heap.size 43 2 v 2 (pcl awL) ∧ (∀ k, v.ownBlock = some k → ¬ tfoot sb b T' k) ∧ ¬ tfoot sb b T' bl ∧ ¬ tfoot sb b T' bo := by
  have fD : Still w w.drew := (Fr.refl _ w).drewN 1
  have low0 : ∀ u, ask nu (says P A) u ≤ 32 := fun u => by rw [ak]; exact Nat.zero_le _
  have c0 : cnt nu (ask nu (says P A)) = 0 := by rw [ak, cnt_none]
  have PUT1 : Calls Tryz.prog 11 #[ptr sb, ptr hb, .int .u64 0, .string ⟨#[98]⟩, .int .u64 2] w.drew _ := y_Put (h.still fD) s (r := 0) (l := []) (Q := []) (.inl ⟨rfl, rfl, rfl⟩) (fun p hp => by cases hp) List.Pairwise.nil (by simp) ⟨#[98]⟩ 2 (by decide) (by omega) (by omega) (by omega) low0
  have lbs : bs < w.heap.size := World.block_lt_of_cell? _ _ cs
  have lbh : bh < w.heap.size := World.block_lt_of_cell? _ _ ch
  have lbl := Bl.lt; have lbo := Bo.lt
  have HP1 := hide PUT1
  have HX := hide (And.intro h (And.intro fD (And.intro hP (And.intro low0 (And.intro c0 (And.intro hnu (And.intro Bl Bo))))))); have HNT := @hide _ nt
  clear PUT1 h fD low0 c0 hP hnu s ak Bl Bo nt
  go_enter Tryz.func62, Tryz.ntmps62
  go_wp2_with fail
  refine wp_region_held_drew (S := fun w' => w'.cell? ⟨bs, 0, none⟩ = some (ptr sb) ∧ w'.cell? ⟨bh, 0, none⟩ = some (ptr hb)) (by kernel_rfl) ⟨cs, ch⟩ (fun hHeld => ?_)
  refine take_l 0 (v := ?_) rfl (by kernel_rfl) (by kernel_rfl) (by kernel_rfl) (fun _ _ _ h => h) (Or.inl ⟨by rfl, ?_⟩) hHeld ?_
  rotate_left
  · (intro w hSw; (try dsimp only at hSw); go_simp; (try with_reducible rfl))
  simp only [Act.put, List.setIfInBounds_toArray, List.set_cons_zero, List.set_cons_succ]
  refine take_l 1 (v := ?_) rfl (by kernel_rfl) (by kernel_rfl) (by kernel_rfl) (fun _ _ _ h => h) (Or.inl ⟨by rfl, ?_⟩) hHeld ?_
  rotate_left
  · (intro w hSw; (try dsimp only at hSw); go_simp; (try with_reducible rfl))
  simp only [Act.put, List.setIfInBounds_toArray, List.set_cons_zero, List.set_cons_succ]
  refine take_l 2 (v := ?_) rfl (by kernel_rfl) (by kernel_rfl) (by kernel_rfl) (fun _ _ _ h => h) (Or.inl ⟨by rfl, ?_⟩) hHeld ?_
  rotate_left
  · (intro w hSw; (try dsimp only at hSw); go_simp; (try with_reducible rfl))
  simp only [Act.put, List.setIfInBounds_toArray, List.set_cons_zero, List.set_cons_succ]
  refine take_l 3 (v := ?_) rfl (by kernel_rfl) (by kernel_rfl) (by kernel_rfl) (fun _ _ _ h => h) (Or.inl ⟨by rfl, ?_⟩) hHeld ?_
  rotate_left
  · (intro w hSw; (try dsimp only at hSw); go_simp; (try with_reducible rfl))
  simp only [Act.put, List.setIfInBounds_toArray, List.set_cons_zero, List.set_cons_succ]
  refine wpAnyH_ready (rs := [4]) (by kernel_rfl) (by simp) ?_
  refine AllReadyH.cons rfl (fun K hK => ?_) AllReadyH.nil
  go_simp
  go_wp2_with fail
  refine (unhide HP1).mono ?_
  clear HP1
  rintro e w2 ⟨r1, rfl, T2, P2, Q1, k1, hk1, o2, l2, ch2, hr1, rt1⟩
  obtain ⟨h, fD, hP, low0, c0, hnu, Bl, Bo⟩ := unhide HX
  have h2 := (h.still fD).call o2
  have o02 : Onx w sb b T w2 T2 sz A P2 false := o2.after fD
  have few2 := ch2.few
  have PUT2 := y_Put h2 ch2.st rt1 (fun p hp => by rcases putP_mem hp with rfl | hp; exact ⟨by decide, by decide⟩; cases hp) (putP_rise List.Pairwise.nil) (by simp [putP]) ⟨#[97]⟩ 1 (by decide) (by omega) (by omega) (by omega) (ch2.low low0)
  have cs2 : w2.cell? ⟨bs, 0, none⟩ = some (ptr sb) := o02.fr.cell' cs (unhide HNT bs (by simp))
  have ch2' : w2.cell? ⟨bh, 0, none⟩ = some (ptr hb) := o02.fr.cell' ch (unhide HNT bh (by simp))
  have HP2 := hide PUT2
  have HX2 := hide (And.intro h2 (And.intro o02 (And.intro ch2 (And.intro rt1 (And.intro Bl Bo)))))
  clear PUT2 h fD hP low0 c0 hnu h2 o02 o2 ch2 rt1 few2 l2 Bl Bo HX hr1 hk1
  refine hK.out _ _ ⟨cs2, ch2'⟩ (fun _ => ?_)
  clear hK K
  refine wpAnyH_ready (rs := [5]) (by kernel_rfl) (by simp) ?_
  refine AllReadyH.cons rfl (fun K hK => ?_) AllReadyH.nil
  go_simp
  go_wp2_with fail
  refine (unhide HP2).mono ?_
  clear HP2
  rintro e w3 ⟨r2, rfl, T3, P3, Q2, k2, hk2, o3, l3, ch3, hr2, rt2⟩
  rw [awL_is] at rt2
  obtain ⟨h2, o02, ch2, rt1, Bl, Bo⟩ := unhide HX2
  have h3 := h2.call o3
  have o03 : Onx w sb b T w3 T3 sz A P3 false := o02.trans o3
  have nt3 : ∀ k, k = bs ∨ k = bh ∨ k = bl ∨ k = bo → ¬ tfoot sb b T3 k := fun k hk => o03.other (by rcases hk with rfl | rfl | rfl | rfl <;> assumption) (unhide HNT k hk)
  have cs3 : w3.cell? ⟨bs, 0, none⟩ = some (ptr sb) := o03.fr.cell' cs (unhide HNT bs (by simp))
  have ch3' : w3.cell? ⟨bh, 0, none⟩ = some (ptr hb) := o03.fr.cell' ch (unhide HNT bh (by simp))
  have Bl3 := Bl.kept o03.fr (unhide HNT bl (by simp)); have Bo3 := Bo.kept o03.fr (unhide HNT bo (by simp))
  have riL : Rise awL := awL_is ▸ putP_rise (putP_rise List.Pairwise.nil)
  have pkL : Pok awL := fun p hp => by
    rcases List.mem_cons.1 hp with rfl | hp
    · exact ⟨by decide, by decide⟩
    · rw [List.mem_singleton.1 hp]; exact ⟨by decide, by decide⟩
  have RG := y_Range h3 rt2 riL pkL ⟨#[]⟩ ⟨#[]⟩ 9 (by omega) (by decide)
  rw [rgP_all (show ((awL.length : Nat) : Int) ≤ 9 by decide)] at RG
  have GT : ∀ w4, Fr (fun k => k = bl) w3 w4 → Calls Tryz.prog 17 #[ptr sb, .int .u64 (r2 : Nat), .string ⟨#[98]⟩] w4 fun e w' => e = .returned (.tuple #[.int .u64 2, .bool true]) ∧ Still w4 w' := fun w4 f4 => by
    have := y_Get (h3.turn f4 (fun k hk => by rw [hk]; exact nt3 bl (by simp)) (fun e => ne.2.2.2.1 e) (fun e => ne.2.2.2.2 e)) rt2 riL ⟨#[98]⟩
    rw [awG_is] at this
    exact this
  have LN : ∀ w4, Fr (fun k => k = bl) w3 w4 → Calls Tryz.prog 15 #[ptr sb, .int .u64 (r2 : Nat)] w4 fun e w' => e = .returned (.int .i64 2) ∧ Still w4 w' := fun w4 f4 => y_Len (h3.turn f4 (fun k hk => by rw [hk]; exact nt3 bl (by simp)) (fun e => ne.2.2.2.1 e) (fun e => ne.2.2.2.2 e)) rt2 (by decide)
  have HRG := hide RG; have HGT := @hide _ GT; have HLN := @hide _ LN
  have HY := hide (And.intro o03 (And.intro nt3 (And.intro Bl3 Bo3)))
  have lz := o03.fr.size
  have ht3 : ∀ k, tfoot sb b T3 k → k < w3.heap.size := h3.st.lt
  have HT3 := @hide _ ht3
  clear RG GT LN h2 o02 ch2 rt1 Bl Bo h3 o03 o3 ch3 rt2 nt3 Bl3 Bo3 riL pkL HX2 HNT l3 hr2 hk2 cs2 ch2' ht3
  refine hK.out _ _ ⟨cs3, ch3'⟩ (fun _ => ?_)
  clear hK K hHeld cs ch
  refine wpAnyH_ready (rs := [6]) (by kernel_rfl) (by simp) ?_
  refine AllReadyH.cons rfl (fun K hK => ?_) AllReadyH.nil
  go_simp
  refine hK.out _ _ ⟨cs3, ch3'⟩ (fun _ => ?_)
  clear hK K
  refine wpAnyH_done (by kernel_rfl) ?_ _
  go_wp2_with fail
  refine (unhide HRG).mono ?_
  clear HRG
  rintro e w4 ⟨v, rfl, rv, f4⟩
  obtain ⟨o03, nt3, Bl3, Bo3⟩ := unhide HY
  have Bl4 := Bl3.kept f4 (fun x => x)
  have c4 := Bl4.c; have z4 := Bl4.z
  have HB4 := hide (And.intro Bl4 rv); have HF4 := hide f4
  obtain ⟨g, cap, ev⟩ : ∃ g cap, v = .slice (some ⟨g, 0, none⟩) 2 cap := by
    rcases rowp_form rv with ⟨_, h0⟩ | ⟨g, cap, e⟩
    · exact absurd h0 (by decide)
    · exact ⟨g, cap, e⟩
  obtain ⟨W5, hW5⟩ : ∃ W5, w4.setCell ⟨bl, 0, none⟩ v = W5 := ⟨_, rfl⟩
  have f5 : Fr (fun k => k = bl) w4 W5 := hW5 ▸ Fr.box w4 bl _
  have f35 : Fr (fun k => k = bl) w3 W5 := (f4.mono (fun _ x => x.elim)).trans' f5 (fun _ hk => .inl hk)
  have Bl5 : Box W5 bl v := hW5 ▸ Bl4.set _
  have cs5 : W5.cell? ⟨bs, 0, none⟩ = some (ptr sb) := f35.cell' cs3 ne.1
  have rv5 : W5.ownsRow w3.heap.size 43 2 v awL.length (pcl awL) := row_kept rv f5 (fun k hk e => by have := (rv.lt k hk).1; have := Bl3.lt; have e : k = bl := e; omega)
  have GT5 := unhide HGT W5 f35
  have HX5 := hide (And.intro o03 (And.intro nt3 (And.intro Bo3 (And.intro f35 (And.intro Bl5 rv5))))); have HW5 := hide hW5; have HG5 := hide GT5
  rw [← hW5, ev] at cs5
  clear o03 nt3 Bl3 Bo3 Bl4 rv f4 GT5 f5 f35 Bl5 rv5 HB4 HF4 HY HGT hW5
  subst ev
  go_wp2_with fail
  rw [unhide HW5]
  refine (unhide HG5).mono ?_
  clear HG5
  rintro e w6 ⟨rfl, f6⟩
  obtain ⟨o03, nt3, Bo3, f35, Bl5, rv5⟩ := unhide HX5
  have f36 : Fr (fun k => k = bl) w3 w6 := f35.trans' f6 (fun _ x => x.elim)
  have Bo6 : Box w6 bo v2 := Bo3.kept f36 (fun e => ne.2.2.1 e.symm)
  have Bl6 := Bl5.kept f6 (fun x => x)
  have cs6 : w6.cell? ⟨bs, 0, none⟩ = some (ptr sb) := f36.cell' cs3 ne.1
  have LN6 := unhide HLN w6 f36
  have HL6 := hide LN6; have HX6 := hide (And.intro f36 (And.intro Bo6 (And.intro Bl6 (own_still rv5 f6))))
  clear o03 nt3 Bo3 f35 Bl5 rv5 f6 f36 Bo6 Bl6 LN6 HLN cs5 c4 z4
  go_wp2_with fail
  refine (unhide HL6).mono ?_
  clear HL6
  rintro e w7 ⟨rfl, f7⟩
  obtain ⟨f36, Bo6, Bl6, rv6⟩ := unhide HX6
  obtain ⟨o03, nt3, -⟩ := unhide HX5
  have Bo7 := Bo6.kept f7 (fun x => x)
  have c7 := Bo7.c; have z7 := Bo7.z
  obtain ⟨W8, hW8⟩ : ∃ W8, w7.setCell ⟨bo, 0, none⟩ (.bool true) = W8 := ⟨_, rfl⟩
  have f8 : Fr (fun k => k = bo) w7 W8 := hW8 ▸ Fr.box w7 bo _
  have Bo8 : Box W8 bo (.bool true) := hW8 ▸ Bo7.set _
  have HE := hide (show ∃ T' P' v, OnxX (fun k => k = bl ∨ k = bo) w sb b T W8 T' sz A P' false ∧ Box W8 bl v ∧ Box W8 bo (.bool true) ∧ W8.ownsRow w.heap.size 43 2 v 2 (pcl awL) ∧ (∀ k, v.ownBlock = some k → ¬ tfoot sb b T' k) ∧ ¬ tfoot sb b T' bl ∧ ¬ tfoot sb b T' bo from by
    have rv7 := own_still rv6 f7
    have lo3 : bo < w3.heap.size := Nat.lt_of_lt_of_le lbo lz
    refine ⟨T3, P3, _, (((OnxX.of o03).var (f36.trans' f7 (fun _ x => x.elim)) (fun k hk => .inl hk) (fun k hk => by rw [hk]; exact nt3 bl (by simp)))).var f8 (fun k hk => .inr hk) (fun k hk => by rw [hk]; exact nt3 bo (by simp)), (Bl6.kept f7 (fun x => x)).kept f8 (fun e => ne.2.2.1 e), Bo8, row_lo (row_kept rv7 f8 (fun k hk e => by have := (rv7.lt k hk).1; have e : k = bo := e; omega)) lz, fun k hk ht => by have := (rv7.lt k hk).1; have := unhide HT3 k ht; omega, nt3 bl (by simp), nt3 bo (by simp)⟩)
  have HW8 := hide hW8
  clear o03 nt3 f36 Bo6 Bl6 rv6 Bo7 hW8 f8 Bo8 f7 HX5 HX6
  go_wp2_with fail
  rw [unhide HW8]
  go_end0
  exact ⟨rfl, unhide HE⟩
end
end

section
def kyF (i : Nat) : Nat → Nat := fun k => if k = 0 then 97 + i * 7 % 16 else if k = 1 then 97 + i * 5 % 26 else if k = 2 then 97 + i % 26 else 97 + i / 26
def kyB (i : Nat) : ByteArray := ⟨#[107]⟩ ++ strB (kyF i) 4
theorem kyB_size (i : Nat) : (kyB i).size = 5 := by
  unfold kyB
  rw [ByteArray.size_append, strB_size]; rfl
theorem kyF_lt (i : Nat) (hi : i < 200) (k : Nat) : kyF i k < 256 := by unfold kyF; split; omega; split; omega; split; omega; omega
theorem kyB_inj {i j : Nat} (hi : i < 200) (hj : j < 200) (e : kyB i = kyB j) : i = j := by
  have e1 : (kyB i).data.toList = (kyB j).data.toList := by rw [e]
  unfold kyB strB at e1
  simp only [ByteArray.data_append, Array.toList_append, strOfNums_data, rowL] at e1
  have e2 := List.append_cancel_left e1
  have e3 : ∀ k, k < 4 → kyF i k = kyF j k := fun k hk => by
    have := congrArg (fun l => l[k]?) e2
    simp [hk] at this
    have h1 := kyF_lt i hi k
    have h2 := kyF_lt j hj k
    have h3 := congrArg UInt8.toNat this
    simp at h3
    omega
  have h2 := e3 2 (by omega)
  have h3 := e3 3 (by omega)
  simp [kyF] at h2 h3
  omega

set_option maxRecDepth 20000 in
set_option maxHeartbeats 2000000 in
theorem l11_key (i : Nat) (hi : i < 200) (w : World) : Calls Tryz.prog 12 #[.int .i64 (i : Nat)] w fun e w' => e = .returned (.string (kyB i)) ∧ Still w w' := by
  obtain ⟨W, hW⟩ : ∃ W, w.alloc (.cells #[.int .u8 (97 + (i : Int) * 7 % 16), .int .u8 (97 + (i : Int) * 5 % 26), .int .u8 (97 + (i : Int) % 26), .int .u8 (97 + (i : Int) / 26)] 5) = W := ⟨_, rfl⟩
  have o1 : W.heap[w.heap.size]? = some (.cells #[.int .u8 (97 + (i : Int) * 7 % 16), .int .u8 (97 + (i : Int) * 5 % 26), .int .u8 (97 + (i : Int) % 26), .int .u8 (97 + (i : Int) / 26)] 5 (0, 0)) := hW ▸ heap_alloc_new w _
  have hN : Nats .u8 W (some ⟨w.heap.size, 0, none⟩) 4 (kyF i) := fun k hk => by
    refine ⟨_, _, rfl, ?_⟩
    rcases (show k = 0 ∨ k = 1 ∨ k = 2 ∨ k = 3 by omega) with rfl | rfl | rfl | rfl
    · exact cell_of_obj o1 0
    · exact cell_of_obj o1 1
    · exact cell_of_obj o1 2
    · exact cell_of_obj o1 3
  have cv := conv_str W (some ⟨w.heap.size, 0, none⟩) 4 4 (kyF i) hN
  have HF := hide (show Still w W from hW ▸ (Fr.refl _ w).alloc _)
  rw [← hW] at cv
  have HW := hide hW
  clear hW o1 hN
  go_enter Tryz.func12, Tryz.ntmps12
  go_wp2_with fail
  go_ret
  rw [unhide HW]
  exact ⟨rfl, unhide HF⟩
end

section
theorem sl_root (w W : World) (r : Nat) (hW : w.alloc (.cells #[.int .u64 (r : Nat), .slice none 0 0] 35) = W) : Sl W 2 (some ⟨w.heap.size, 0, none⟩) ([(r, Value.slice none 0 0)] : List (Nat × Value)).length 1 (rtcl [(r, .slice none 0 0)]) := by
  have o : W.heap[w.heap.size]? = some (.cells #[.int .u64 (r : Nat), .slice none 0 0] 35 (0, 0)) := hW ▸ heap_alloc_new w _
  exact ⟨rfl, Nat.le_refl _, (fun e => by cases e), (fun u hu => by
    simp only [rtcl, List.mem_cons, List.not_mem_nil, or_false] at hu
    rcases hu with rfl | rfl <;> rfl), (fun j u hu => ⟨w.heap.size, 0, rfl, by
    rw [Nat.zero_add, cell_of_obj o j, ← hu]
    simp [rtcl]⟩), (fun x e => by cases e; rfl)⟩
def PutS (nu sz : Nat) (V : Nat → Prop) (w : World) (sb b : Nat) (T : Tay) (A : Ab) (br : Nat) (L' : List Pr) (w' : World) : Prop :=
  ∃ T' P' r' Q', OnxX V w sb b T w' T' sz A P' false ∧ Box w' br (.int .u64 ((r' : Nat) : Int)) ∧ r' ≠ 0 ∧ Tre nu sz (says P' A) r' L' Q'

section
variable {nu sz : Nat} {w w' w0 : World} {hb sb b bs bh br bi : Nat} {T : Tay} {A : Ab} {P : List (Int × Int)} {r i : Nat} {L : List Pr} {Q : List Nat}
set_option maxRecDepth 20000 in
set_option maxHeartbeats 4000000 in
theorem twC1 (h : Hp nu sz w hb sb b T A P) (t : Tre nu sz (says P A) r L Q) (hl : L.length ≤ 130) (hP : P.length ≤ 100) (hnu : 2 * L.length + 30 < nu / 4) (hi : i < 200)
    (cs : w.cell? ⟨bs, 0, none⟩ = some (ptr sb)) (ch : w.cell? ⟨bh, 0, none⟩ = some (ptr hb)) (Br : Box w br (.int .u64 (r : Nat))) (ci : w.cell? ⟨bi, 0, none⟩ = some (.int .i64 (i : Nat))) (nt : ∀ k, k = bs ∨ k = bh ∨ k = br ∨ k = bi → ¬ tfoot sb b T k)
    (ne : bs ≠ br ∧ bh ≠ br ∧ bi ≠ br ∧ hb ≠ br ∧ 0 ≠ br) :
    Calls Tryz.prog 23 #[ptr bs, ptr bh, ptr br, ptr bi] w fun e w' => e = .returned (.tuple #[]) ∧ PutS nu sz (fun k => k = br) w sb b T A br (putP L (kyB i) i) w' := by
  have fD : Still w w.drew := (Fr.refl _ w).drewN 1
  have KY := l11_key i hi w.drew
  have PUT : ∀ w1, Still w w1 → Calls Tryz.prog 11 #[ptr sb, ptr hb, .int .u64 (r : Nat), .string (kyB i), .int .u64 (i : Nat)] w1 _ := fun w1 f1 => y_Put (h.still f1) t.st t.rt t.pk t.ri (by omega) (kyB i) i (by rw [kyB_size]; omega) (by omega) (by omega) (by have := t.cnt; omega) t.low
  have lbs : bs < w.heap.size := World.block_lt_of_cell? _ _ cs
  have lbh : bh < w.heap.size := World.block_lt_of_cell? _ _ ch
  have lbi : bi < w.heap.size := World.block_lt_of_cell? _ _ ci
  have lbr := Br.lt
  have cr := Br.c
  have HK := hide KY; have HP := @hide _ PUT
  have HX := hide (And.intro h (And.intro t (And.intro hl (And.intro hP (And.intro hnu (And.intro Br fD)))))); have HNT := @hide _ nt
  have wu : IntKind.u64.wrap (i : Nat) = (i : Nat) := (wrap_small _ (by omega) (by omega)).2
  clear KY PUT h t hl hP hnu Br nt fD
  go_enter Tryz.func23, Tryz.ntmps23
  go_wp2_with fail
  refine wp_region_held_drew (S := fun w' => w'.cell? ⟨bs, 0, none⟩ = some (ptr sb) ∧ w'.cell? ⟨bh, 0, none⟩ = some (ptr hb) ∧ w'.cell? ⟨bi, 0, none⟩ = some (.int .i64 (i : Nat))) (by kernel_rfl) ⟨cs, ch, ci⟩ (fun hHeld => ?_)
  refine take_l 0 (v := ?_) rfl (by kernel_rfl) (by kernel_rfl) (by kernel_rfl) (fun _ _ _ h => h) (Or.inl ⟨by rfl, ?_⟩) hHeld ?_
  rotate_left
  · (intro w hSw; (try dsimp only at hSw); go_simp; (try with_reducible rfl))
  simp only [Act.put, List.setIfInBounds_toArray, List.set_cons_zero, List.set_cons_succ]
  refine take_l 1 (v := ?_) rfl (by kernel_rfl) (by kernel_rfl) (by kernel_rfl) (fun _ _ _ h => h) (Or.inl ⟨by rfl, ?_⟩) hHeld ?_
  rotate_left
  · (intro w hSw; (try dsimp only at hSw); go_simp; (try with_reducible rfl))
  simp only [Act.put, List.setIfInBounds_toArray, List.set_cons_zero, List.set_cons_succ]
  refine take_l 3 (v := ?_) rfl (by kernel_rfl) (by kernel_rfl) (by kernel_rfl) (fun _ _ _ h => h) (Or.inl ⟨by rfl, ?_⟩) hHeld ?_
  rotate_left
  · (intro w hSw; (try dsimp only at hSw); go_simp; (try with_reducible rfl))
  simp only [Act.put, List.setIfInBounds_toArray, List.set_cons_zero, List.set_cons_succ]
  refine take_l 5 (v := ?_) rfl (by kernel_rfl) (by kernel_rfl) (by kernel_rfl) (fun _ _ _ h => h) (Or.inl ⟨by rfl, ?_⟩) hHeld ?_
  rotate_left
  · (intro w hSw; (try dsimp only at hSw); go_simp; (try with_reducible rfl))
  simp only [Act.put, List.setIfInBounds_toArray, List.set_cons_zero, List.set_cons_succ]
  refine take_l 6 (v := ?_) rfl (by kernel_rfl) (by kernel_rfl) (by kernel_rfl) (fun _ _ _ h => h) (Or.inl ⟨by rfl, ?_⟩) hHeld ?_
  rotate_left
  · (intro w hSw; (try dsimp only at hSw); go_simp; (try with_reducible rfl))
  simp only [Act.put, List.setIfInBounds_toArray, List.set_cons_zero, List.set_cons_succ]
  clear wu
  refine wpAnyH_ready (rs := [2, 4]) (by kernel_rfl) (by simp) ?_
  refine AllReadyH.cons rfl (fun K hK => ?_) (AllReadyH.cons rfl (fun K hK => ?_) AllReadyH.nil)
  · go_simp
    refine hK.out _ _ hHeld (fun _ => ?_)
    clear hK K
    refine wpAnyH_ready (rs := [4]) (by kernel_rfl) (by simp) ?_
    refine AllReadyH.cons rfl (fun K hK => ?_) AllReadyH.nil
    go_simp
    go_wp2_with fail
    refine (unhide HK).mono ?_
    clear HK
    rintro e w1 ⟨rfl, f1⟩
    have f01 : Still w w1 := (unhide HX).2.2.2.2.2.2.trans' f1 (fun _ x => x.elim)
    have hHeld1 : w1.cell? ⟨bs, 0, none⟩ = some (ptr sb) ∧ w1.cell? ⟨bh, 0, none⟩ = some (ptr hb) ∧ w1.cell? ⟨bi, 0, none⟩ = some (.int .i64 (i : Nat)) := ⟨f01.cell' cs (fun x => x), f01.cell' ch (fun x => x), f01.cell' ci (fun x => x)⟩
    refine hK.out _ _ hHeld1 (fun _ => ?_)
    clear hK K f1
    have hS1 := hHeld1
    refine wpAnyH_ready (rs := [7]) (by kernel_rfl) (by simp) ?_
    refine AllReadyH.cons rfl (fun K hK => ?_) AllReadyH.nil
    go_simp
    go_wp2_with fail
    refine (unhide HP w1 f01).mono ?_
    rintro e w2 ⟨r', rfl, T2, P2, Q2, k2, hk2, o2, l2, ch2, hr2, rt2⟩
    obtain ⟨h, t, hl, hP, hnu, Br, fD⟩ := unhide HX
    have h2 := (h.still f01).call o2
    have o02 : Onx w sb b T w2 T2 sz A P2 false := o2.after f01
    have nt2 : ∀ k, k = bs ∨ k = bh ∨ k = br ∨ k = bi → ¬ tfoot sb b T2 k := fun k hk => o02.other (by rcases hk with rfl | rfl | rfl | rfl <;> assumption) (unhide HNT k hk)
    have cs2 : w2.cell? ⟨bs, 0, none⟩ = some (ptr sb) := o02.fr.cell' cs (unhide HNT bs (by simp))
    have ch2' : w2.cell? ⟨bh, 0, none⟩ = some (ptr hb) := o02.fr.cell' ch (unhide HNT bh (by simp))
    have ci2 : w2.cell? ⟨bi, 0, none⟩ = some (.int .i64 (i : Nat)) := o02.fr.cell' ci (unhide HNT bi (by simp))
    have Br2 := Br.kept o02.fr (unhide HNT br (by simp))
    obtain ⟨W3, hW3⟩ : ∃ W3, w2.setCell ⟨br, 0, none⟩ (.int .u64 (r' : Nat)) = W3 := ⟨_, rfl⟩
    have f3 : Fr (fun k => k = br) w2 W3 := hW3 ▸ Fr.box w2 br _
    have Br3 : Box W3 br (.int .u64 (r' : Nat)) := hW3 ▸ Br2.set _
    have cs3 : W3.cell? ⟨bs, 0, none⟩ = some (ptr sb) := f3.cell' cs2 ne.1
    have ch3 : W3.cell? ⟨bh, 0, none⟩ = some (ptr hb) := f3.cell' ch2' ne.2.1
    have ci3 : W3.cell? ⟨bi, 0, none⟩ = some (.int .i64 (i : Nat)) := f3.cell' ci2 ne.2.2.1
    have h3 := h2.turn f3 (fun k hk => by rw [hk]; exact nt2 br (by simp)) ne.2.2.2.1 ne.2.2.2.2
    have ri2 : Rise (putP L (kyB i) i) := putP_rise t.ri
    have pk2 : Pok (putP L (kyB i) i) := t.pk.put (by rw [kyB_size]; omega) (by omega)
    have ln2 := putP_len (kyB i) i L
    obtain ⟨W4, hW4⟩ : ∃ W4, W3.alloc (.cells #[.int .u64 (r' : Nat), .slice none 0 0] 35) = W4 := ⟨_, rfl⟩
    have f4 : Still W3 W4 := hW4 ▸ (Fr.refl _ W3).alloc _
    have SL := sl_root W3 W4 r' hW4
    have few2 := ch2.few
    have cn := t.cnt
    have SW := t_sweep (h3.still f4) ch2.st (some ⟨W3.heap.size, 0, none⟩) 1 [(r', .slice none 0 0)] [Q2] SL rfl (fun j p Q' h1 h2 => by
      match j, h1, h2 with
      | 0, h1, h2 =>
        cases (Option.some.inj h1); cases (Option.some.inj h2)
        exact rt2.rq hr2 ri2 (by omega)
      | j + 1, h1, _ => simp at h1) (by simp) (by omega)
    have HSW := hide SW
    have HE := hide (show ∀ w5 g, To sz W4 sb b T2 A w5 g (P2.length + 10 * cnt nu (ask nu (says P2 A))) → HpS nu g → (∀ u, ask nu g u = if u ∈ [Q2].flatten then ask nu (says P2 A) u else 0) → (∀ i, fi nu ≤ i → g i = says P2 A i) → PutS nu sz (fun k => k = br) w sb b T A br (putP L (kyB i) i) w5 from fun w5 g tg sg ak ke => by
      obtain ⟨T5, P5, o5, e5, l5⟩ := tg
      subst e5
      have sw : Swp nu (says P2 A) (says P5 A) Q2 := ⟨sg, fun u => by rw [ak]; simp, ke⟩
      refine ⟨T5, P5, r', Q2, (((OnxX.of o02).var f3 (fun k hk => hk) (fun k hk => by rw [hk]; exact nt2 br (by simp))).quiet f4).trans o5, ?_, hr2, t.put rt2 sw ri2 pk2⟩
      exact (Br3.kept f4 (fun x => x)).kept o5.fr (nt2 br (by simp)))
    have c3 := Br3.c; have c2 := Br2.c; have z2 := Br2.z
    have HW3 := hide hW3; have HW4 := hide hW4
    refine hK.out _ _ ⟨cs2, ch2', ci2⟩ (fun _ => ?_)
    clear hK K SW h2 o02 o2 nt2 f3 h3 ri2 pk2 ln2 few2 cn f4 SL hW4 h t hl hP hnu Br Br2 Br3 fD l2 ch2 hr2 rt2 hk2 HX HP HNT cs2 ch2' ci2 hS1 hW3
    refine wpAnyH_ready (rs := [8]) (by kernel_rfl) (by simp) ?_
    refine AllReadyH.cons rfl (fun K hK => ?_) AllReadyH.nil
    go_simp
    rw [unhide HW3]
    refine hK.out _ _ ⟨cs3, ch3, ci3⟩ (fun _ => ?_)
    clear hK K c2 z2
    refine wpAnyH_done (by kernel_rfl) ?_ _
    go_wp2_with fail
    rw [unhide HW4]
    refine (unhide HSW).mono ?_
    rintro e w5 ⟨rfl, g, tg, sg, ak, ke, -⟩
    have HQ := hide (unhide HE w5 g tg sg ak ke)
    clear HSW HE tg sg ak ke
    go_wp2_with fail
    go_end0
    exact ⟨rfl, unhide HQ⟩
  · go_simp
    go_wp2_with fail
    refine (unhide HK).mono ?_
    clear HK
    rintro e w1 ⟨rfl, f1⟩
    have f01 : Still w w1 := (unhide HX).2.2.2.2.2.2.trans' f1 (fun _ x => x.elim)
    have hHeld1 : w1.cell? ⟨bs, 0, none⟩ = some (ptr sb) ∧ w1.cell? ⟨bh, 0, none⟩ = some (ptr hb) ∧ w1.cell? ⟨bi, 0, none⟩ = some (.int .i64 (i : Nat)) := ⟨f01.cell' cs (fun x => x), f01.cell' ch (fun x => x), f01.cell' ci (fun x => x)⟩
    have cr1 : w1.cell? ⟨br, 0, none⟩ = some (.int .u64 (r : Nat)) := f01.cell' cr (fun x => x)
    refine hK.out _ _ hHeld1 (fun _ => ?_)
    clear hK K f1
    refine wpAnyH_ready (rs := [2]) (by kernel_rfl) (by simp) ?_
    refine AllReadyH.cons rfl (fun K hK => ?_) AllReadyH.nil
    go_simp
    refine hK.out _ _ hHeld1 (fun _ => ?_)
    clear hK K cr1
    have hS1 := hHeld1
    refine wpAnyH_ready (rs := [7]) (by kernel_rfl) (by simp) ?_
    refine AllReadyH.cons rfl (fun K hK => ?_) AllReadyH.nil
    go_simp
    go_wp2_with fail
    refine (unhide HP w1 f01).mono ?_
    rintro e w2 ⟨r', rfl, T2, P2, Q2, k2, hk2, o2, l2, ch2, hr2, rt2⟩
    obtain ⟨h, t, hl, hP, hnu, Br, fD⟩ := unhide HX
    have h2 := (h.still f01).call o2
    have o02 : Onx w sb b T w2 T2 sz A P2 false := o2.after f01
    have nt2 : ∀ k, k = bs ∨ k = bh ∨ k = br ∨ k = bi → ¬ tfoot sb b T2 k := fun k hk => o02.other (by rcases hk with rfl | rfl | rfl | rfl <;> assumption) (unhide HNT k hk)
    have cs2 : w2.cell? ⟨bs, 0, none⟩ = some (ptr sb) := o02.fr.cell' cs (unhide HNT bs (by simp))
    have ch2' : w2.cell? ⟨bh, 0, none⟩ = some (ptr hb) := o02.fr.cell' ch (unhide HNT bh (by simp))
    have ci2 : w2.cell? ⟨bi, 0, none⟩ = some (.int .i64 (i : Nat)) := o02.fr.cell' ci (unhide HNT bi (by simp))
    have Br2 := Br.kept o02.fr (unhide HNT br (by simp))
    obtain ⟨W3, hW3⟩ : ∃ W3, w2.setCell ⟨br, 0, none⟩ (.int .u64 (r' : Nat)) = W3 := ⟨_, rfl⟩
    have f3 : Fr (fun k => k = br) w2 W3 := hW3 ▸ Fr.box w2 br _
    have Br3 : Box W3 br (.int .u64 (r' : Nat)) := hW3 ▸ Br2.set _
    have cs3 : W3.cell? ⟨bs, 0, none⟩ = some (ptr sb) := f3.cell' cs2 ne.1
    have ch3 : W3.cell? ⟨bh, 0, none⟩ = some (ptr hb) := f3.cell' ch2' ne.2.1
    have ci3 : W3.cell? ⟨bi, 0, none⟩ = some (.int .i64 (i : Nat)) := f3.cell' ci2 ne.2.2.1
    have h3 := h2.turn f3 (fun k hk => by rw [hk]; exact nt2 br (by simp)) ne.2.2.2.1 ne.2.2.2.2
    have ri2 : Rise (putP L (kyB i) i) := putP_rise t.ri
    have pk2 : Pok (putP L (kyB i) i) := t.pk.put (by rw [kyB_size]; omega) (by omega)
    have ln2 := putP_len (kyB i) i L
    obtain ⟨W4, hW4⟩ : ∃ W4, W3.alloc (.cells #[.int .u64 (r' : Nat), .slice none 0 0] 35) = W4 := ⟨_, rfl⟩
    have f4 : Still W3 W4 := hW4 ▸ (Fr.refl _ W3).alloc _
    have SL := sl_root W3 W4 r' hW4
    have few2 := ch2.few
    have cn := t.cnt
    have SW := t_sweep (h3.still f4) ch2.st (some ⟨W3.heap.size, 0, none⟩) 1 [(r', .slice none 0 0)] [Q2] SL rfl (fun j p Q' h1 h2 => by
      match j, h1, h2 with
      | 0, h1, h2 =>
        cases (Option.some.inj h1); cases (Option.some.inj h2)
        exact rt2.rq hr2 ri2 (by omega)
      | j + 1, h1, _ => simp at h1) (by simp) (by omega)
    have HSW := hide SW
    have HE := hide (show ∀ w5 g, To sz W4 sb b T2 A w5 g (P2.length + 10 * cnt nu (ask nu (says P2 A))) → HpS nu g → (∀ u, ask nu g u = if u ∈ [Q2].flatten then ask nu (says P2 A) u else 0) → (∀ i, fi nu ≤ i → g i = says P2 A i) → PutS nu sz (fun k => k = br) w sb b T A br (putP L (kyB i) i) w5 from fun w5 g tg sg ak ke => by
      obtain ⟨T5, P5, o5, e5, l5⟩ := tg
      subst e5
      have sw : Swp nu (says P2 A) (says P5 A) Q2 := ⟨sg, fun u => by rw [ak]; simp, ke⟩
      refine ⟨T5, P5, r', Q2, (((OnxX.of o02).var f3 (fun k hk => hk) (fun k hk => by rw [hk]; exact nt2 br (by simp))).quiet f4).trans o5, ?_, hr2, t.put rt2 sw ri2 pk2⟩
      exact (Br3.kept f4 (fun x => x)).kept o5.fr (nt2 br (by simp)))
    have c3 := Br3.c; have c2 := Br2.c; have z2 := Br2.z
    have HW3 := hide hW3; have HW4 := hide hW4
    refine hK.out _ _ ⟨cs2, ch2', ci2⟩ (fun _ => ?_)
    clear hK K SW h2 o02 o2 nt2 f3 h3 ri2 pk2 ln2 few2 cn f4 SL hW4 h t hl hP hnu Br Br2 Br3 fD l2 ch2 hr2 rt2 hk2 HX HP HNT cs2 ch2' ci2 hS1 hW3
    refine wpAnyH_ready (rs := [8]) (by kernel_rfl) (by simp) ?_
    refine AllReadyH.cons rfl (fun K hK => ?_) AllReadyH.nil
    go_simp
    rw [unhide HW3]
    refine hK.out _ _ ⟨cs3, ch3, ci3⟩ (fun _ => ?_)
    clear hK K c2 z2
    refine wpAnyH_done (by kernel_rfl) ?_ _
    go_wp2_with fail
    rw [unhide HW4]
    refine (unhide HSW).mono ?_
    rintro e w5 ⟨rfl, g, tg, sg, ak, ke, -⟩
    have HQ := hide (unhide HE w5 g tg sg ak ke)
    clear HSW HE tg sg ak ke
    go_wp2_with fail
    go_end0
    exact ⟨rfl, unhide HQ⟩
end
end

section
set_option maxHeartbeats 1000000 in
theorem law_open (n N : Nat) (hn : N * 8 = 12400 + n) (hn0 : 0 < n) (hN : N ≤ 8192) (w : World) :
    Calls Tryz.prog 38 #[.int .i64 ((N : Int) * 8)] w fun e w' => ∃ b sb T A, e = .returned (.tuple #[ptr b, ptr sb]) ∧ Opd w b sb n T A w' := by
  have K := new_any N (by omega) hN w
  have HK := hide K
  have h1 := eq_nil_dev
  clear K
  go_enter Tryz.func38, Tryz.ntmps38
  go_wp2_with fail
  refine (unhide HK).mono ?_
  clear HK
  unfold NewOk
  rintro e w1 ⟨rfl, L, d, f, nw⟩
  have K2 := open_new n N hn hn0 w d f nw
  have HK := hide K2
  clear K2 d f nw
  go_wp2_with fail
  refine (unhide HK).mono ?_
  clear HK
  rintro e w2 ⟨sb, T, A, rfl, o⟩
  have HO := hide o
  clear o
  go_wp2
  go_ret2
  exact ⟨_, sb, T, A, rfl, unhide HO⟩

section
variable {nu sz : Nat}
set_option maxRecDepth 20000 in
set_option maxHeartbeats 1000000 in
theorem l8_open (G : Geo nu sz) {N : Nat} (hN8 : N * 8 = 12400 + sz) (w : World) (tab : TabL w) : Calls Tryz.prog 8 #[.int .i64 ((N : Int) * 8)] w fun e w' => ∃ b sb hb T A base, e = .returned (.tuple #[ptr b, ptr sb, ptr hb]) ∧ HpC nu sz w (fun k => k = hb) w' hb sb b T A N True 43021 base ∧ NewH nu (rb base) := by
  obtain ⟨g1, g2, g3, g4, g5, g6⟩ := G.b
  have K : Calls Tryz.prog 38 #[.int .i64 ((N : Int) * 8)] w _ := law_open sz N hN8 (by omega) (by omega) w
  have l0 : 0 < w.heap.size := World.block_lt_of_cell? _ _ (tab 0 (by omega))
  have h1 := eq_nil_stor
  have HK := hide K; have HT := hide tab
  clear K tab
  go_enter Tryz.func8, Tryz.ntmps8
  go_wp2_with fail
  refine (unhide HK).mono ?_
  clear HK
  rintro e w1 ⟨b, sb, T, A, rfl, o⟩
  obtain ⟨N', f, hN, c, k⟩ := o.calm
  have hN' : N' = N := by omega
  subst hN'
  have tab1 : TabL w1 := fun j hj => o.fr.cell' (unhide HT j hj) (fun x => x)
  have OP := h_open_by (R := fun P' => Began nu (says [] A) (says P' A)) G o.st c k tab1 (fun ht => by have := o.new 0 ht; omega) (by omega) (fun w2 hb bx hp bc => (h_openC_new hp (by simp) (fun i hi => by
    rw [says_base c k []]; rfl) bc).mono (by
    rintro e w3 ⟨rfl, g, ⟨T', P', o', eg, -⟩, bg⟩
    subst eg
    exact ⟨rfl, T', P', o', bg⟩))
  have HOP := hide OP; have HO := hide o; have HC := hide (And.intro c k)
  clear OP o c k tab1
  go_wp2_with fail
  refine (unhide HOP).mono ?_
  clear HOP
  rintro e w2 (⟨hb, P', T', A', rfl, lh, hl, bg, o2, nh, f', c', k'⟩ | ⟨_, _, _, _, _, _, hg, _⟩)
  · have HX := hide (And.intro lh (And.intro hl (And.intro bg (And.intro o2 (And.intro nh (And.intro c' k'))))))
    clear lh hl bg o2 nh c' k'
    go_wp2
    go_ret3
    obtain ⟨lh, hl, bg, o2, nh, c', k'⟩ := unhide HX
    have o := unhide HO
    refine ⟨b, sb, hb, T', A', homed P' (fun _ => 0), rfl, ⟨⟨o2.st, o.fr.trans' o2.fr (fun k hk => .inr (o.new k hk)), fun k hk => (o2.sub k hk).elim (o.new k) (fun x => Nat.le_trans o.fr.size x), fun k hk => by subst hk; exact nh, fun k hk => by subst hk; exact ⟨Nat.le_trans o.fr.size lh, World.block_lt_of_cell? _ _ hl.c0⟩⟩, ⟨f', c', k'⟩, hl, rfl, l0⟩, ?_⟩
    rw [← says_base (unhide HC).1 (unhide HC).2 P']
    exact ⟨bg.st, bg.ak, bg.root⟩
  · exact absurd trivial hg
end
end

section
def AwY (lo bl bo : Nat) (Y : Nat → Prop) (h : How) (_P : List (Int × Int)) (w' : World) : Prop :=
  h = .well ∧ ∃ v, (Y bl ∧ Y bo ∧ ∀ k, v.ownBlock = some k → Y k) ∧ Box w' bl v ∧ Box w' bo (.bool true) ∧ w'.ownsRow lo 43 2 v 2 (pcl awL)
theorem AwY_stays (lo bl bo : Nat) : StaysY (AwY lo bl bo) := by
  rintro Y h P w w' F ⟨q, v, ⟨y1, y2, y3⟩, b1, b2, r⟩ hf hn
  exact ⟨q, v, ⟨y1, y2, y3⟩, b1.kept hf (hn bl y1), b2.kept hf (hn bo y2), row_kept r hf (fun k hk => hn k (y3 k hk))⟩
theorem eq_pair (w : World) : (binOp .eql 43 (.agg #[.string ⟨#[97]⟩, .int .u64 1]) (.agg #[.string ⟨#[97]⟩, .int .u64 1])).run Tryz.prog w = .ok (.bool true) w := by kernel_rfl

set_option maxRecDepth 20000 in
set_option maxHeartbeats 4000000 in
theorem l11_awake (w : World) (tab : TabL w) : Calls Tryz.prog 22 #[] w fun e w' => e = .returned (.bool true) ∧ Still w w' := by
  have K : Calls Tryz.prog 8 #[.int .i64 24576] w _ := l8_open geo24 (N := 3072) (by omega) w tab
  have h1 := eq_nil_heap
  have h2 := mf
  have HK := hide K
  clear K tab
  go_enter Tryz.func22, Tryz.ntmps22
  go_wp2_with fail
  refine (unhide HK).mono ?_
  clear HK
  rintro e w1 ⟨b, sb, hb, T, A, base, rfl, hc, nw⟩
  obtain ⟨W1, hW1⟩ : ∃ W1, w1.alloc (.cells #[ptr sb] 23) = W1 := ⟨_, rfl⟩
  obtain ⟨W2, hW2⟩ : ∃ W2, W1.alloc (.cells #[ptr hb] 24) = W2 := ⟨_, rfl⟩
  obtain ⟨W3, hW3⟩ : ∃ W3, W2.alloc (.cells #[.slice none 0 0] 33) = W3 := ⟨_, rfl⟩
  obtain ⟨W4, hW4⟩ : ∃ W4, W3.alloc (.cells #[.bool false] 4) = W4 := ⟨_, rfl⟩
  obtain ⟨n1, hn1⟩ : ∃ n1, w1.heap.size = n1 := ⟨_, rfl⟩
  have z1 : W1.heap.size = n1 + 1 := by rw [← hW1]; simp [hn1]
  have z2 : W2.heap.size = n1 + 2 := by rw [← hW2]; simp; omega
  have z3 : W3.heap.size = n1 + 3 := by rw [← hW3]; simp; omega
  have f12 : Still W1 W2 := hW2 ▸ (Fr.refl _ W1).alloc _
  have f23 : Still W2 W3 := hW3 ▸ (Fr.refl _ W2).alloc _
  have f34 : Still W3 W4 := hW4 ▸ (Fr.refl _ W3).alloc _
  have f24 : Still W2 W4 := f23.trans' f34 (fun _ x => x.elim)
  have hc1 := hc.more (.cells #[ptr sb] 23)
  rw [hW1, hn1] at hc1
  have hc2 := hc1.more (.cells #[ptr hb] 24)
  rw [hW2, z1] at hc2
  have hc3 := hc2.more (.cells #[.slice none 0 0] 33)
  rw [hW3, z2] at hc3
  have hc4 := hc3.more (.cells #[.bool false] 4)
  rw [hW4, z3] at hc4
  have bs4 : Box W4 n1 (ptr sb) := by
    have := Box.new w1 (ptr sb) 23
    rw [hW1, hn1] at this; exact (this.kept f12 (fun x => x)).kept f24 (fun x => x)
  have bh2 : Box W2 (n1 + 1) (ptr hb) := by
    have := Box.new W1 (ptr hb) 24
    rw [hW2, z1] at this; exact this
  have bh4 := bh2.kept f24 (fun x => x)
  have bl4 : Box W4 (n1 + 2) (.slice none 0 0) := by
    have := Box.new W2 (.slice none 0 0) 33
    rw [hW3, z2] at this; exact this.kept f34 (fun x => x)
  have bo4 : Box W4 (n1 + 3) (.bool false) := by
    have := Box.new W3 (.bool false) 4
    rw [hW4, z3] at this; exact this
  have lhb : hb < n1 := by rw [← hn1]; exact (hc.hd.xl hb hc.xh).2
  have l0 : 0 < n1 := by rw [← hn1]; exact Nat.lt_of_lt_of_le hc.l0 hc.hd.fr.size
  have sy := hc.says []
  rw [homed_nil] at sy
  have DO := hc4.doZ (V := fun k => k = n1 + 2 ∨ k = n1 + 3) (g := 62) (fi := #[]) (ca := #[ptr n1, ptr (n1 + 1), ptr (n1 + 2), ptr (n1 + 3)]) (R := AwY 0 (n1 + 2) (n1 + 3))
    (fun k hk => by rcases hk with e | e; exact .inl (.inr e); exact .inr e) (by omega) (AwY_stays _ _ _) (fun w3 f3 => acts_of (fun _ _ => by kernel_rfl) ((awC11 (hc4.toHp.still f3) (by rw [sy]; exact nw.st) (by rw [sy]; exact nw.ak) (by simp) (by omega) (f3.cell' bs4.c (fun x => x)) (f3.cell' bh4.c (fun x => x)) (bl4.kept f3 (fun x => x)) (bo4.kept f3 (fun x => x)) (fun k hk => by
      rcases hk with rfl | rfl | rfl | rfl
      · exact hc4.hd.ap _ (.inl (.inl (.inl (.inr rfl))))
      · exact hc4.hd.ap _ (.inl (.inl (.inr rfl)))
      · exact hc4.hd.ap _ (.inl (.inr rfl))
      · exact hc4.hd.ap _ (.inr rfl)) (by omega)).mono (by
      rintro e w4 ⟨rfl, T', P', v, o, b1, b2, r, nv, n2, n3⟩
      refine ⟨.well, rfl, .inl rfl, T', P', fun k => k = n1 + 2 ∨ k = n1 + 3 ∨ v.ownBlock = some k, o, fun k hk => ?_, rfl, v, ⟨.inl rfl, .inr (.inl rfl), fun k hk => .inr (.inr hk)⟩, b1, b2, row_lo r (Nat.zero_le _)⟩
      rcases hk with rfl | rfl | hk
      · exact ⟨b1.lt, n2, .inl (.inl rfl)⟩
      · exact ⟨b2.lt, n3, .inl (.inr rfl)⟩
      · exact ⟨(r.lt k hk).2, nv k hk, .inr (r.lt k hk).1⟩))) (by omega)
  have bsc := bs4.c; have bhc := bh2.c
  have HDO := hide DO; have HW := hide (And.intro hW1 (And.intro hW2 (And.intro hW3 hW4)))
  rw [← hW4, ← hW3, ← hW2, ← hW1] at bsc
  rw [← hW2, ← hW1] at bhc
  clear DO hc hc1 hc2 hc3 hc4 bs4 bh2 bh4 bl4 bo4 nw sy f12 f23 f34 f24 hW1 hW2 hW3 hW4 lhb l0 z1 z2 z3
  go_wp2_with fail
  obtain ⟨hW1, hW2, hW3, hW4⟩ := unhide HW
  rw [hW1, hW2, hW3, hW4]
  clear hW1 hW2 hW3 hW4 HW bsc bhc
  unfold DidZ at HDO
  refine (unhide HDO).mono ?_
  clear HDO
  rintro e w6 ⟨fr6, ⟨P', T', A', Y, ⟨_, v, _, b1, b2, r⟩, rfl, hc6⟩ | ⟨i, P', T', Y, ⟨hq, _⟩, _⟩⟩
  · obtain ⟨g, cap, ev⟩ : ∃ g cap, v = .slice (some ⟨g, 0, none⟩) 2 cap := by
      rcases rowp_form r with ⟨_, h0⟩ | ⟨g, cap, e⟩
      · exact absurd h0 (by decide)
      · exact ⟨g, cap, e⟩
    subst ev
    have SL := sl_of_row r pcl_one
    have cA : w6.cell? ⟨g, 0, none⟩ = some (.string ⟨#[97]⟩) := by
      obtain ⟨x, o, e, c⟩ := SL.cells 0 _ (pcl_at (l := awL) (k := 0) rfl).1
      cases e; exact c
    have cB : w6.cell? ⟨g, 1, none⟩ = some (.int .u64 1) := by
      obtain ⟨x, o, e, c⟩ := SL.cells 1 _ (pcl_at (l := awL) (k := 0) rfl).2
      cases e; exact c
    have c1 := b1.c; have c2 := b2.c
    have e1 := eq_pair
    have HFF := hide hc6.hd.fr
    clear SL hc6 r fr6 b1 b2
    go_wp2
    go_ret
    exact ⟨rfl, unhide HFF⟩
  · cases hq
end

section
section
variable {nu sz : Nat} {w w' w0 w1 : World} {X Y : Nat → Prop} {hb sb b : Nat} {T : Tay} {A : Ab} {N : Nat} {free : Prop} {s : Int} {base : Nat → Int}
theorem HpC.back (h : HpC nu sz w1 X w hb sb b T A N free s base) (f : Still w0 w1) (l0 : 0 < w0.heap.size) (hY : ∀ k, Y k → X k ∨ (w0.heap.size ≤ k ∧ k < w1.heap.size)) (hy : Y hb) : HpC nu sz w0 Y w hb sb b T A N free s base := by
  refine ⟨⟨h.hd.st, f.trans' h.hd.fr (fun _ x => x.elim), fun k hk => Nat.le_trans f.size (h.hd.new k hk), fun k hk => ?_, fun k hk => ?_⟩, h.cl, h.hp, hy, l0⟩
  · rcases hY k hk with e | e
    · exact h.hd.ap k e
    · exact fun ht => by have := h.hd.new k ht; omega
  · rcases hY k hk with e | e
    · exact ⟨Nat.le_trans f.size (h.hd.xl k e).1, (h.hd.xl k e).2⟩
    · exact ⟨e.1, Nat.lt_of_lt_of_le e.2 h.hd.fr.size⟩
end

section
variable {nu sz : Nat} {w w' w0 : World} {X : Nat → Prop} {hb sb b bs bh br bi N : Nat} {T : Tay} {A : Ab} {s : Int} {base : Nat → Int} {r i : Nat} {L : List Pr} {Q : List Nat}
def TwR (nu sz : Nat) (A : Ab) (br : Nat) (L' : List Pr) (h : How) (P' : List (Int × Int)) (w' : World) : Prop := h = .well ∧ ∃ r' Q', Box w' br (.int .u64 ((r' : Nat) : Int)) ∧ r' ≠ 0 ∧ Tre nu sz (says P' A) r' L' Q'
theorem TwR_stays (nu sz : Nat) (A : Ab) (br : Nat) (L' : List Pr) : Stays (fun k => k = br) (TwR nu sz A br L') := by
  rintro h P w w' F ⟨q, r', Q', b1, t⟩ hf hn
  exact ⟨q, r', Q', b1.kept hf (hn br rfl), t⟩
theorem put_do {g : Nat} {fi ca : Array Value} {L' : List Pr} (hc : HpC nu sz w0 X w hb sb b T A N True s base) (hX : X br) (hh : hb ≠ br) (en : ∀ args w, (callFunc g args).run Tryz.prog w = .ok (.enter g args) w)
    (C : ∀ w1, Still w w1 → Calls Tryz.prog g (fi ++ ca) w1 fun e w' => e = .returned (.tuple #[]) ∧ PutS nu sz (fun k => k = br) w1 sb b T A br L' w') (hs : s + 30729 < 4294967296) :
    Calls Tryz.prog 9 #[ptr sb, .func (.func g) fi ca] w fun e w' => e = .returned (.int .i64 0) ∧ Fr (fun k => tfoot sb b T k ∨ k = br) w w' ∧ ∃ T' A' base' r' Q', HpC nu sz w0 X w' hb sb b T' A' N True (s + 30729) base' ∧ Box w' br (.int .u64 ((r' : Nat) : Int)) ∧ r' ≠ 0 ∧ Tre nu sz (rb base') r' L' Q' := by
  have DO := hc.do_ (V := fun k => k = br) (g := g) (fi := fi) (ca := ca) (R := TwR nu sz A br L') (fun k hk => by rw [hk]; exact hX) hh (TwR_stays nu sz A br L') (fun w3 f3 => acts_of en ((C w3 f3).mono (by
    rintro e w4 ⟨rfl, T', P', r', Q', o, b1, h0, t⟩
    exact ⟨.well, rfl, .inl rfl, T', P', o, rfl, r', Q', b1, h0, t⟩))) hs
  unfold DidH at DO
  refine DO.mono ?_
  rintro e w' ⟨fr, ⟨P', T', A', ⟨_, r', Q', b1, h0, t⟩, rfl, hc'⟩ | ⟨i, P', T', ⟨hi, _⟩, _⟩⟩
  · rw [hc.says P'] at t
    exact ⟨rfl, fr, T', A', _, r', Q', hc', b1, h0, t⟩
  · exact (well_errno hi.symm).elim
end
end

section
def pxN (v : Value) (w : World) : Nat := match v with
  | .pointer (some a) => bxN w a.block
  | _ => 0
theorem pxN_box {w : World} {q m : Nat} (h : Box w q (.int .i64 (m : Nat))) : pxN (ptr q) w = m := h.bxN
theorem ky_new {L : List Pr} {m : Nat} (h : ∀ p ∈ L, ∃ j, j < m ∧ p.1 = kyB j) (hm : m < 200) : ∀ p ∈ L, p.1 ≠ kyB m := fun p hp e => by
  obtain ⟨j, hj, e2⟩ := h p hp
  have := kyB_inj (by omega) hm (e2.symm.trans e)
  omega
theorem ky_put {L : List Pr} {m : Nat} (h : ∀ p ∈ L, ∃ j, j < m ∧ p.1 = kyB j) : ∀ p ∈ putP L (kyB m) m, ∃ j, j < m + 1 ∧ p.1 = kyB j := fun p hp => by
  rcases putP_mem hp with rfl | hp
  · exact ⟨m, by omega, rfl⟩
  · obtain ⟨j, hj, e⟩ := h p hp
    exact ⟨j, by omega, e⟩
end

section
theorem beq_bytes (x y : ByteArray) : (x == y) = decide (x = y) := by
  obtain ⟨a⟩ := x; obtain ⟨b⟩ := y
  show (a == b) = _
  rw [Bool.eq_iff_iff]
  simp
theorem eqs_str (d : Nat) (x y : ByteArray) (w : World) : (Op.equalIn (d + 1) 9 (.string x) (.string y)).run Tryz.prog w = .ok (x == y) w := by
  rw [Op.equalIn]
  simp [run_underlying (P := Tryz.prog) Tryz.underlying9]
theorem eqs_u64 (d : Nat) (x y : Int) (w : World) : (Op.equalIn (d + 1) 27 (.int .u64 x) (.int .u64 y)).run Tryz.prog w = .ok (x == y) w := by
  rw [Op.equalIn]
  simp [run_underlying (P := Tryz.prog) Tryz.underlying27]
theorem part_k (x : ByteArray) (u : Int) (w : World) : (part 9 #[.string x, .int .u64 u] 0).run Tryz.prog w = .ok (.string x) w := by kernel_rfl
theorem part_v (x : ByteArray) (u : Int) (w : World) : (part 27 #[.string x, .int .u64 u] 1).run Tryz.prog w = .ok (.int .u64 u) w := by kernel_rfl
theorem stood_pr : Tryz.prog.stoodInHeld 43 = false := by kernel_rfl
theorem run_prog (w : World) : (program).run Tryz.prog w = .ok Tryz.prog w := rfl
theorem eqs_pr (d : Nat) (x y : ByteArray) (u v : Int) (w : World) : (Op.equalIn (d + 2) 43 (.agg #[.string x, .int .u64 u]) (.agg #[.string y, .int .u64 v])).run Tryz.prog w = .ok ((x == y) && (u == v)) w := by
  have hu := run_underlying (P := Tryz.prog) Tryz.underlying43
  rw [Op.equalIn]
  simp only [Sem.run_bind, hu, Result.andThen_ok, run_prog, stood_pr, Bool.false_eq_true, if_false]
  rw [← Array.forIn_toList]
  simp only [List.forIn_cons, List.forIn_nil, Sem.run_bind, ne_eq, String.reduceEq, not_false_eq_true, if_true, part_k, Result.andThen_ok, eqs_str]
  cases h1 : (x == y)
  · simp
  · cases h2 : (u == v)
    · simp [eqs_u64, h2, part_v]
    · simp [eqs_u64, h2, part_v]
theorem eq_pr (x y : ByteArray) (u v : Int) (w : World) : (binOp .eql 43 (.agg #[.string x, .int .u64 u]) (.agg #[.string y, .int .u64 v])).run Tryz.prog w = .ok (.bool ((x == y) && (u == v))) w := by
  have := eqs_pr 9998 x y u v w
  simp only [binOp, Op.equal, Sem.run_bind]
  rw [show Op.maxDepth = 9998 + 2 from rfl, this]
  rfl
theorem ne_pr (x y : ByteArray) (u v : Int) (w : World) : (binOp .neq 43 (.agg #[.string x, .int .u64 u]) (.agg #[.string y, .int .u64 v])).run Tryz.prog w = .ok (.bool (!((x == y) && (u == v)))) w := by
  have := eqs_pr 9998 x y u v w
  simp only [binOp, Op.equal, Sem.run_bind]
  rw [show Op.maxDepth = 9998 + 2 from rfl, this]
  rfl
theorem eq_self (x : ByteArray) (u : Int) (w : World) : (binOp .eql 43 (.agg #[.string x, .int .u64 u]) (.agg #[.string x, .int .u64 u])).run Tryz.prog w = .ok (.bool true) w := by
  rw [eq_pr, beq_bytes]; simp
theorem ne_self (x : ByteArray) (u : Int) (w : World) : (binOp .neq 43 (.agg #[.string x, .int .u64 u]) (.agg #[.string x, .int .u64 u])).run Tryz.prog w = .ok (.bool false) w := by
  rw [ne_pr, beq_bytes]; simp
end
end Go.Proofs.YtkaplgmjdfmpmaaGreatDoor
