/- Joined: Yu Yx. -/
import Derived.Test.YtkaplgmjdfmpmaaGreatDoorQ20
import Derived.Test.YtkaplgmjdfmpmaaGreatDoorQ21
namespace Go.Proofs.YtkaplgmjdfmpmaaGreatDoor
open Go.RowKit

section
theorem cat3g_S (W : World) (g : Nat) (a1 a2 a3 : Option Addr) (n1 n2 n3 c1 c2 c3 : Nat) (X1 X2 X3 : List Value) (oR : W.heap[g]? = some (.cells #[.slice a1 n1 c1, .slice a2 n2 c2, .slice a3 n3 c3] 93 (0, 0))) (S1 : Sl W 1 a1 n1 c1 X1) (S2 : Sl W 1 a2 n2 c2 X2) (S3 : Sl W 1 a3 n3 c3 X3) (hl : n1 + n2 + n3 ≤ 1000000) :
    Calls Tryz.prog 180 #[.slice (some ⟨g, 0, none⟩) 3 3] W fun e w' => ∃ v, e = .returned v ∧ w'.ownsRow W.heap.size 9 1 v (n1 + n2 + n3) (X1 ++ X2 ++ X3) ∧ Still W w' := by
  have K := cat_S (some ⟨g, 0, none⟩) 3 3 (fun t => if t = 0 then a1 else if t = 1 then a2 else a3) (fun t => if t = 0 then n1 else if t = 1 then n2 else n3) (fun t => if t = 0 then c1 else if t = 1 then c2 else c3) (fun t => if t = 0 then X1 else if t = 1 then X2 else X3) W (fun i hi => by
    rcases (show i = 0 ∨ i = 1 ∨ i = 2 by omega) with rfl | rfl | rfl
    · exact ⟨⟨g, 0, rfl, show W.cell? ⟨g, 0, none⟩ = some (.slice a1 n1 c1) from cell_of_obj oR 0⟩, S1⟩
    · exact ⟨⟨g, 0, rfl, show W.cell? ⟨g, 1, none⟩ = some (.slice a2 n2 c2) from cell_of_obj oR 1⟩, S2⟩
    · exact ⟨⟨g, 0, rfl, show W.cell? ⟨g, 2, none⟩ = some (.slice a3 n3 c3) from cell_of_obj oR 2⟩, S3⟩) (by omega) (by simp [offN]; omega)
  refine K.mono ?_
  rintro e w' ⟨u, rfl, hu, f3⟩
  refine ⟨u, rfl, ?_, f3⟩
  have e1 : offN (fun t => if t = 0 then n1 else if t = 1 then n2 else n3) 3 = n1 + n2 + n3 := by simp [offN]
  have e2 : catX (fun t => if t = 0 then X1 else if t = 1 then X2 else X3) 3 = X1 ++ X2 ++ X3 := by simp [catX]
  rw [e1, e2] at hu
  exact hu
theorem cat3g_K (W : World) (g : Nat) (a1 a2 a3 : Option Addr) (n1 n2 n3 c1 c2 c3 : Nat) (X1 X2 X3 : List Value) (oR : W.heap[g]? = some (.cells #[.slice a1 n1 c1, .slice a2 n2 c2, .slice a3 n3 c3] 94 (0, 0))) (S1 : Sl W 2 a1 n1 c1 X1) (S2 : Sl W 2 a2 n2 c2 X2) (S3 : Sl W 2 a3 n3 c3 X3) (hl : n1 + n2 + n3 ≤ 1000000) :
    Calls Tryz.prog 181 #[.slice (some ⟨g, 0, none⟩) 3 3] W fun e w' => ∃ v, e = .returned v ∧ w'.ownsRow W.heap.size 123 2 v (n1 + n2 + n3) (X1 ++ X2 ++ X3) ∧ Still W w' := by
  have K := cat_K (some ⟨g, 0, none⟩) 3 3 (fun t => if t = 0 then a1 else if t = 1 then a2 else a3) (fun t => if t = 0 then n1 else if t = 1 then n2 else n3) (fun t => if t = 0 then c1 else if t = 1 then c2 else c3) (fun t => if t = 0 then X1 else if t = 1 then X2 else X3) W (fun i hi => by
    rcases (show i = 0 ∨ i = 1 ∨ i = 2 by omega) with rfl | rfl | rfl
    · exact ⟨⟨g, 0, rfl, show W.cell? ⟨g, 0, none⟩ = some (.slice a1 n1 c1) from cell_of_obj oR 0⟩, S1⟩
    · exact ⟨⟨g, 0, rfl, show W.cell? ⟨g, 1, none⟩ = some (.slice a2 n2 c2) from cell_of_obj oR 1⟩, S2⟩
    · exact ⟨⟨g, 0, rfl, show W.cell? ⟨g, 2, none⟩ = some (.slice a3 n3 c3) from cell_of_obj oR 2⟩, S3⟩) (by omega) (by simp [offN]; omega)
  refine K.mono ?_
  rintro e w' ⟨u, rfl, hu, f3⟩
  refine ⟨u, rfl, ?_, f3⟩
  have e1 : offN (fun t => if t = 0 then n1 else if t = 1 then n2 else n3) 3 = n1 + n2 + n3 := by simp [offN]
  have e2 : catX (fun t => if t = 0 then X1 else if t = 1 then X2 else X3) 3 = X1 ++ X2 ++ X3 := by simp [catX]
  rw [e1, e2] at hu
  exact hu
theorem elem_strs : Tryz.prog.elem 93 = 9 := by kernel_rfl
theorem elem_kids : Tryz.prog.elem 94 = 123 := by kernel_rfl
set_option maxRecDepth 100000 in
set_option maxHeartbeats 4000000 in
theorem b_with (hh : Nat) (ba : Option Addr) (bc : Nat) (B : List ByteArray) (ka : Option Addr) (kc : Nat) (ks : List (Nat × Nat)) (i j : Nat) (ka2 : Option Addr) (kc2 : Nat) (ks2 : List (Nat × Nat)) (ba2 : Option Addr) (bc2 : Nat) (B2 : List ByteArray) (w : World) (hB : Kys w ba bc B) (hK : Kds w ka kc ks) (hB2 : Kys w ba2 bc2 B2) (hK2 : Kds w ka2 kc2 ks2)
    (h1 : 1 ≤ j) (hi : i ≤ B.length) (hi2 : i ≤ ks.length) (hj : j - 1 ≤ B.length) (hj2 : j ≤ ks.length) (hl : ks.length ≤ 500) (hl2 : ks2.length ≤ 500) (hl3 : B.length ≤ 500) (hl4 : B2.length ≤ 500) :
    Calls Tryz.prog 143 #[brV hh ba B.length bc ka ks.length kc, .int .i64 i, .int .i64 j, .slice ka2 ks2.length kc2, .slice ba2 B2.length bc2] w fun e w' => ∃ va vc ua uc, e = .returned (brV hh va (B.take i ++ B2 ++ B.drop (j - 1)).length vc ua (ks.take i ++ ks2 ++ ks.drop j).length uc) ∧ Kys w' va vc (B.take i ++ B2 ++ B.drop (j - 1)) ∧ Kds w' ua uc (ks.take i ++ ks2 ++ ks.drop j) ∧ (∀ x, va = some x → w.heap.size ≤ x.block ∧ x.block < w'.heap.size) ∧ (∀ x, ua = some x → w.heap.size ≤ x.block ∧ x.block < w'.heap.size) ∧ Still w w' := by
  have cb := hB.cap; have ck := hK.cap
  have s1 := fun w => slice_toZ elt_S elem_strs ba B.length bc i w (by omega)
  have s2 := fun w => slice_fromZ elt_S elem_strs ba B.length bc (j - 1) w hj
  have s3 := fun w => slice_toZ elt_K elem_kids ka ks.length kc i w (by omega)
  have s4 := fun w => slice_fromZ elt_K elem_kids ka ks.length kc j w hj2
  have wj : IntKind.i64.wrap ((j : Int) - 1) = ((j - 1 : Nat) : Int) := by rw [IntKind.wrap_i64]; omega
  have SB1 := hB.take hi; have SB3 := hB.drop (j - 1) hj; have SK1 := hK.take hi2; have SK3 := hK.drop j hj2
  rw [kcl_take] at SK1
  rw [kcl_drop] at SK3
  rw [Nat.mul_one, ← List.map_take] at SB1
  rw [Nat.mul_one, ← List.map_drop] at SB3
  generalize hbd : cutZ 1 ba bc (j - 1) = bd at *
  generalize hkd : cutZ 2 ka kc j = kd at *
  generalize hbcd : bc - (j - 1) = bcd at *
  generalize hkcd : kc - j = kcd at *
  have CS : ∀ W g, Still w W → W.heap[g]? = some (.cells #[.slice ba i bc, .slice ba2 B2.length bc2, .slice bd (B.length - (j - 1)) bcd] 93 (0, 0)) → Calls Tryz.prog 180 #[.slice (some ⟨g, 0, none⟩) 3 3] W fun e w' => ∃ va vc, e = .returned (.slice va (B.take i ++ B2 ++ B.drop (j - 1)).length vc) ∧ Kys w' va vc (B.take i ++ B2 ++ B.drop (j - 1)) ∧ (∀ x, va = some x → W.heap.size ≤ x.block ∧ x.block < w'.heap.size) ∧ Still W w' := fun W g f o => by
    refine (cat3g_S W g _ _ _ _ _ _ _ _ _ _ _ _ o (SB1.still f) (hB2.still f) (SB3.still f) (by omega)).mono ?_
    rintro e w' ⟨v, rfl, hv, f'⟩
    rw [show i + B2.length + (B.length - (j - 1)) = (B.take i ++ B2 ++ B.drop (j - 1)).length by simp; omega] at hv
    rw [← List.map_append, ← List.map_append] at hv
    obtain ⟨va, vc, rfl⟩ := rowZ hv
    exact ⟨va, vc, rfl, sl_of_row hv (str_one _), own_block hv, f'⟩
  have CK : ∀ W g, Still w W → W.heap[g]? = some (.cells #[.slice ka i kc, .slice ka2 ks2.length kc2, .slice kd (ks.length - j) kcd] 94 (0, 0)) → Calls Tryz.prog 181 #[.slice (some ⟨g, 0, none⟩) 3 3] W fun e w' => ∃ va vc, e = .returned (.slice va (ks.take i ++ ks2 ++ ks.drop j).length vc) ∧ Kds w' va vc (ks.take i ++ ks2 ++ ks.drop j) ∧ (∀ x, va = some x → W.heap.size ≤ x.block ∧ x.block < w'.heap.size) ∧ Still W w' := fun W g f o => by
    refine (cat3g_K W g _ _ _ _ _ _ _ _ _ _ _ _ o (SK1.still f) (hK2.still f) (SK3.still f) (by omega)).mono ?_
    rintro e w' ⟨v, rfl, hv, f'⟩
    rw [show i + ks2.length + (ks.length - j) = (ks.take i ++ ks2 ++ ks.drop j).length by simp; omega] at hv
    rw [← kcl_app, ← kcl_app] at hv
    obtain ⟨va, vc, rfl⟩ := rowZ hv
    exact ⟨va, vc, rfl, sl_of_row hv kcl_one, own_block hv, f'⟩
  generalize B.take i ++ B2 ++ B.drop (j - 1) = RB at *
  generalize ks.take i ++ ks2 ++ ks.drop j = RK at *
  generalize hj1 : B.length - (j - 1) = nbd at *
  generalize hj3 : ks.length - j = nkd at *
  generalize j - 1 = jm at *
  have i5 : i ≤ 500 := by omega
  have j5 : j ≤ 500 := by omega
  have HCS := @hide _ CS; have HCK := @hide _ CK
  clear CS CK SB1 SB3 SK1 SK3 hB hK hB2 hK2 hbd hkd hbcd hkcd hj1 hj3 hi hi2 hj hj2 hl hl2 hl3 hl4 cb ck
  generalize B.length = nb at *
  generalize ks.length = nk at *
  generalize B2.length = nb2 at *
  generalize ks2.length = nk2 at *
  obtain ⟨W, hW⟩ : ∃ W, (w.alloc (.cells #[.int .i64 hh, .slice ba nb bc, .slice ka nk kc] 96)).alloc (.cells #[.int .i64 0, .slice none 0 0, .slice none 0 0] 96) = W := ⟨_, rfl⟩
  have fW : Still w W := hW ▸ ((Fr.refl _ w).alloc _).alloc _
  have oB : W.heap[w.heap.size]? = some (.cells #[.int .i64 hh, .slice ba nb bc, .slice ka nk kc] 96 (0, 0)) := by
    have := heap_alloc_new w (.cells #[.int .i64 hh, .slice ba nb bc, .slice ka nk kc] 96)
    rw [← hW]
    exact ((Fr.refl (fun _ => False) _).alloc _).obj this (fun x => x)
  have oR : W.heap[w.heap.size + 1]? = some (.cells #[.int .i64 0, .slice none 0 0, .slice none 0 0] 96 (0, 0)) := by
    have := heap_alloc_new (w.alloc (.cells #[.int .i64 hh, .slice ba nb bc, .slice ka nk kc] 96)) (.cells #[.int .i64 0, .slice none 0 0, .slice none 0 0] 96)
    rw [hW] at this
    simpa using this
  have HW := hide hW
  clear hW
  generalize hg : w.heap.size = g at *
  have HSW := @hide _ (fun (w' : World) (f : Still W w') => show w'.cell? ⟨g, 0, none⟩ = some (.int .i64 hh) ∧ w'.cell? ⟨g, 1, none⟩ = some (.slice ba nb bc) ∧ w'.cell? ⟨g, 2, none⟩ = some (.slice ka nk kc) from ⟨cell_of_obj (f.obj oB (fun x => x)) 0, cell_of_obj (f.obj oB (fun x => x)) 1, cell_of_obj (f.obj oB (fun x => x)) 2⟩)
  have HR := @hide _ (fun (w' : World) (f : Still W w') => f.obj oR (fun x => x))
  have HFW := hide fW
  clear oB oR fW
  go_enter Tryz.func143, Tryz.ntmps143
  go_wp2_with fail
  rw [unhide HW]
  clear HW
  have fD : Still W W.drew := (Fr.refl _ W).drewN 1
  refine wp_region_held_drew (S := fun w' => w'.cell? ⟨g, 0, none⟩ = some (.int .i64 hh) ∧ w'.cell? ⟨g, 1, none⟩ = some (.slice ba nb bc) ∧ w'.cell? ⟨g, 2, none⟩ = some (.slice ka nk kc)) (by kernel_rfl) (unhide HSW _ fD) (fun hHeld => ?_)
  clear hHeld
  have hHeld := unhide HSW _ fD
  refine take_l 0 (v := ?_) rfl (by kernel_rfl) (by kernel_rfl) (by kernel_rfl) (fun _ _ _ h => h) (Or.inl ⟨by rfl, ?_⟩) hHeld ?_
  rotate_left
  · (intro w hSw; (try dsimp only at hSw); go_simp; (try with_reducible rfl))
  simp only [Act.put, List.setIfInBounds_toArray, List.set_cons_zero, List.set_cons_succ]
  refine take_l 1 (v := .int .i64 hh) rfl (by kernel_rfl) (by kernel_rfl) (by kernel_rfl) (fun _ _ _ h => h) (Or.inl ⟨by rfl, ?_⟩) hHeld ?_
  · (intro w hSw; (try dsimp only at hSw); obtain ⟨x0, x1, x2⟩ := hSw; go_simp; (try with_reducible rfl))
  simp only [Act.put, List.setIfInBounds_toArray, List.set_cons_zero, List.set_cons_succ]
  refine take_l 2 (v := ?_) rfl (by kernel_rfl) (by kernel_rfl) (by kernel_rfl) (fun _ _ _ h => h) (Or.inl ⟨by rfl, ?_⟩) hHeld ?_
  rotate_left
  · (intro w hSw; (try dsimp only at hSw); go_simp; (try with_reducible rfl))
  simp only [Act.put, List.setIfInBounds_toArray, List.set_cons_zero, List.set_cons_succ]
  refine take_l 3 (v := .slice ba nb bc) rfl (by kernel_rfl) (by kernel_rfl) (by kernel_rfl) (fun _ _ _ h => h) (Or.inl ⟨by rfl, ?_⟩) hHeld ?_
  · (intro w hSw; (try dsimp only at hSw); obtain ⟨x0, x1, x2⟩ := hSw; go_simp; (try with_reducible rfl))
  simp only [Act.put, List.setIfInBounds_toArray, List.set_cons_zero, List.set_cons_succ]
  refine take_l 4 (v := ?_) rfl (by kernel_rfl) (by kernel_rfl) (by kernel_rfl) (fun _ _ _ h => h) (Or.inl ⟨by rfl, ?_⟩) hHeld ?_
  rotate_left
  · (intro w hSw; (try dsimp only at hSw); go_simp; (try with_reducible rfl))
  simp only [Act.put, List.setIfInBounds_toArray, List.set_cons_zero, List.set_cons_succ]
  refine take_l 5 (v := .slice ba i bc) rfl (by kernel_rfl) (by kernel_rfl) (by kernel_rfl) (fun _ _ _ h => h) (Or.inl ⟨by rfl, ?_⟩) hHeld ?_
  · (intro w hSw; go_simp; first | done | (rw [s1 w]; rfl) | (simp [s1 w]; try rfl))
  simp only [Act.put, List.setIfInBounds_toArray, List.set_cons_zero, List.set_cons_succ]
  refine take_l 6 (v := ?_) rfl (by kernel_rfl) (by kernel_rfl) (by kernel_rfl) (fun _ _ _ h => h) (Or.inl ⟨by rfl, ?_⟩) hHeld ?_
  rotate_left
  · (intro w hSw; (try dsimp only at hSw); go_simp; (try with_reducible rfl))
  simp only [Act.put, List.setIfInBounds_toArray, List.set_cons_zero, List.set_cons_succ]
  refine take_l 7 (v := ?_) rfl (by kernel_rfl) (by kernel_rfl) (by kernel_rfl) (fun _ _ _ h => h) (Or.inl ⟨by rfl, ?_⟩) hHeld ?_
  rotate_left
  · (intro w hSw; (try dsimp only at hSw); go_simp; (try with_reducible rfl))
  simp only [Act.put, List.setIfInBounds_toArray, List.set_cons_zero, List.set_cons_succ]
  refine take_l 8 (v := .slice ba nb bc) rfl (by kernel_rfl) (by kernel_rfl) (by kernel_rfl) (fun _ _ _ h => h) (Or.inl ⟨by rfl, ?_⟩) hHeld ?_
  · (intro w hSw; (try dsimp only at hSw); obtain ⟨x0, x1, x2⟩ := hSw; go_simp; (try with_reducible rfl))
  simp only [Act.put, List.setIfInBounds_toArray, List.set_cons_zero, List.set_cons_succ]
  refine take_l 9 (v := ?_) rfl (by kernel_rfl) (by kernel_rfl) (by kernel_rfl) (fun _ _ _ h => h) (Or.inl ⟨by rfl, ?_⟩) hHeld ?_
  rotate_left
  · (intro w hSw; (try dsimp only at hSw); go_simp; (try with_reducible rfl))
  simp only [Act.put, List.setIfInBounds_toArray, List.set_cons_zero, List.set_cons_succ]
  refine take_l 10 (v := .int .i64 jm) rfl (by kernel_rfl) (by kernel_rfl) (by kernel_rfl) (fun _ _ _ h => h) (Or.inl ⟨by rfl, ?_⟩) hHeld ?_
  · (intro w hSw; go_simp; first | done | (rw [wj]) | (simp [wj]))
  simp only [Act.put, List.setIfInBounds_toArray, List.set_cons_zero, List.set_cons_succ]
  refine take_l 11 (v := .slice bd nbd bcd) rfl (by kernel_rfl) (by kernel_rfl) (by kernel_rfl) (fun _ _ _ h => h) (Or.inl ⟨by rfl, ?_⟩) hHeld ?_
  · (intro w hSw; go_simp; first | done | (rw [s2 w]; rfl) | (simp [s2 w]; try rfl))
  simp only [Act.put, List.setIfInBounds_toArray, List.set_cons_zero, List.set_cons_succ]
  refine take_l 14 (v := ?_) rfl (by kernel_rfl) (by kernel_rfl) (by kernel_rfl) (fun _ _ _ h => h) (Or.inl ⟨by rfl, ?_⟩) hHeld ?_
  rotate_left
  · (intro w hSw; (try dsimp only at hSw); go_simp; (try with_reducible rfl))
  simp only [Act.put, List.setIfInBounds_toArray, List.set_cons_zero, List.set_cons_succ]
  refine take_l 15 (v := .slice ka nk kc) rfl (by kernel_rfl) (by kernel_rfl) (by kernel_rfl) (fun _ _ _ h => h) (Or.inl ⟨by rfl, ?_⟩) hHeld ?_
  · (intro w hSw; (try dsimp only at hSw); obtain ⟨x0, x1, x2⟩ := hSw; go_simp; (try with_reducible rfl))
  simp only [Act.put, List.setIfInBounds_toArray, List.set_cons_zero, List.set_cons_succ]
  refine take_l 16 (v := ?_) rfl (by kernel_rfl) (by kernel_rfl) (by kernel_rfl) (fun _ _ _ h => h) (Or.inl ⟨by rfl, ?_⟩) hHeld ?_
  rotate_left
  · (intro w hSw; (try dsimp only at hSw); go_simp; (try with_reducible rfl))
  simp only [Act.put, List.setIfInBounds_toArray, List.set_cons_zero, List.set_cons_succ]
  refine take_l 17 (v := .slice ka i kc) rfl (by kernel_rfl) (by kernel_rfl) (by kernel_rfl) (fun _ _ _ h => h) (Or.inl ⟨by rfl, ?_⟩) hHeld ?_
  · (intro w hSw; go_simp; first | done | (rw [s3 w]; rfl) | (simp [s3 w]; try rfl))
  simp only [Act.put, List.setIfInBounds_toArray, List.set_cons_zero, List.set_cons_succ]
  refine take_l 18 (v := ?_) rfl (by kernel_rfl) (by kernel_rfl) (by kernel_rfl) (fun _ _ _ h => h) (Or.inl ⟨by rfl, ?_⟩) hHeld ?_
  rotate_left
  · (intro w hSw; (try dsimp only at hSw); go_simp; (try with_reducible rfl))
  simp only [Act.put, List.setIfInBounds_toArray, List.set_cons_zero, List.set_cons_succ]
  refine take_l 19 (v := ?_) rfl (by kernel_rfl) (by kernel_rfl) (by kernel_rfl) (fun _ _ _ h => h) (Or.inl ⟨by rfl, ?_⟩) hHeld ?_
  rotate_left
  · (intro w hSw; (try dsimp only at hSw); go_simp; (try with_reducible rfl))
  simp only [Act.put, List.setIfInBounds_toArray, List.set_cons_zero, List.set_cons_succ]
  refine take_l 20 (v := .slice ka nk kc) rfl (by kernel_rfl) (by kernel_rfl) (by kernel_rfl) (fun _ _ _ h => h) (Or.inl ⟨by rfl, ?_⟩) hHeld ?_
  · (intro w hSw; (try dsimp only at hSw); obtain ⟨x0, x1, x2⟩ := hSw; go_simp; (try with_reducible rfl))
  simp only [Act.put, List.setIfInBounds_toArray, List.set_cons_zero, List.set_cons_succ]
  refine take_l 21 (v := ?_) rfl (by kernel_rfl) (by kernel_rfl) (by kernel_rfl) (fun _ _ _ h => h) (Or.inl ⟨by rfl, ?_⟩) hHeld ?_
  rotate_left
  · (intro w hSw; (try dsimp only at hSw); go_simp; (try with_reducible rfl))
  simp only [Act.put, List.setIfInBounds_toArray, List.set_cons_zero, List.set_cons_succ]
  refine take_l 22 (v := .slice kd nkd kcd) rfl (by kernel_rfl) (by kernel_rfl) (by kernel_rfl) (fun _ _ _ h => h) (Or.inl ⟨by rfl, ?_⟩) hHeld ?_
  · (intro w hSw; go_simp; first | done | (rw [s4 w]; rfl) | (simp [s4 w]; try rfl))
  simp only [Act.put, List.setIfInBounds_toArray, List.set_cons_zero, List.set_cons_succ]
  clear s1 s2 s3 s4 wj hHeld
  obtain ⟨WD, hWD⟩ : ∃ WD, W.drew = WD := ⟨_, rfl⟩
  rw [hWD] at fD ⊢
  clear hWD
  refine wpAnyH_ready (rs := [12, 23]) (by kernel_rfl) (by simp) ?_
  refine AllReadyH.cons rfl (fun K hK => ?_) (AllReadyH.cons rfl (fun K hK => ?_) AllReadyH.nil)
  · go_simp
    obtain ⟨WA, hWA⟩ : ∃ x, (WD).alloc (.cells #[.slice ba i bc, .slice ba2 nb2 bc2, .slice bd nbd bcd] 93) = x := ⟨_, rfl⟩
    have fA : Still W WA := (fD).trans' (hWA ▸ (Fr.refl _ _).alloc _ : Still (WD) WA) (fun _ x => x.elim)
    have oA : WA.heap[(WD).heap.size]? = some (.cells #[.slice ba i bc, .slice ba2 nb2 bc2, .slice bd nbd bcd] 93 (0, 0)) := hWA ▸ heap_alloc_new _ _
    rw [hWA]
    refine hK.out _ _ (unhide HSW _ (fA)) (fun _ => ?_)
    clear hK K
    refine wpAnyH_ready (rs := [13, 23]) (by kernel_rfl) (by simp) ?_
    refine AllReadyH.cons rfl (fun K hK => ?_) (AllReadyH.cons rfl (fun K hK => ?_) AllReadyH.nil)
    · go_simp
      go_wp2_with fail
      refine (unhide HCS WA _ ((unhide HFW).trans' (fA) (fun _ x => x.elim)) (oA)).mono ?_
      rintro e w3 ⟨va, vc, rfl, hv, hvb, g1⟩
      have f3 : Still W w3 := (fA).trans' g1 (fun _ x => x.elim)
      refine hK.out _ _ (unhide HSW _ (f3)) (fun _ => ?_)
      clear hK K
      refine wpAnyH_ready (rs := [23]) (by kernel_rfl) (by simp) ?_
      refine AllReadyH.cons rfl (fun K hK => ?_) AllReadyH.nil
      go_simp
      obtain ⟨WB, hWB⟩ : ∃ x, (w3).alloc (.cells #[.slice ka i kc, .slice ka2 nk2 kc2, .slice kd nkd kcd] 94) = x := ⟨_, rfl⟩
      have fB : Still W WB := (f3).trans' (hWB ▸ (Fr.refl _ _).alloc _ : Still (w3) WB) (fun _ x => x.elim)
      have oB : WB.heap[(w3).heap.size]? = some (.cells #[.slice ka i kc, .slice ka2 nk2 kc2, .slice kd nkd kcd] 94 (0, 0)) := hWB ▸ heap_alloc_new _ _
      rw [hWB]
      refine hK.out _ _ (unhide HSW _ (fB)) (fun _ => ?_)
      clear hK K
      refine wpAnyH_ready (rs := [24]) (by kernel_rfl) (by simp) ?_
      refine AllReadyH.cons rfl (fun K hK => ?_) AllReadyH.nil
      go_simp
      go_wp2_with fail
      refine (unhide HCK WB _ ((unhide HFW).trans' (fB) (fun _ x => x.elim)) (oB)).mono ?_
      rintro e w5 ⟨ua, uc, rfl, hu, hub, g2⟩
      have f5 : Still W w5 := (fB).trans' g2 (fun _ x => x.elim)
      refine hK.out _ _ (unhide HSW _ (f5)) (fun _ => ?_)
      clear hK K
      have hv5 := hv.still ((hWB ▸ (Fr.refl _ _).alloc _ : Still w3 WB).trans' g2 (fun _ x => x.elim))
      refine wpAnyH_ready (rs := [25]) (by kernel_rfl) (by simp) ?_
      refine AllReadyH.cons rfl (fun K hK => ?_) AllReadyH.nil
      go_simp
      refine hK.out _ _ (unhide HSW _ (f5)) (fun _ => ?_)
      clear hK K
      have o5 := unhide HR _ f5
      have r0 : w5.cell? ⟨g + 1, 0, none⟩ = some (.int .i64 0) := cell_of_obj o5 0
      have r1 : w5.cell? ⟨g + 1, 1, none⟩ = some (.slice none 0 0) := cell_of_obj o5 1
      have r2 : w5.cell? ⟨g + 1, 2, none⟩ = some (.slice none 0 0) := cell_of_obj o5 2
      have rz : ∀ o, w5.frozen? ⟨g + 1, o, none⟩ = false := fun o => by simp [World.frozen?, o5]
      refine wpAnyH_ready (rs := [26]) (by kernel_rfl) (by simp) ?_
      refine AllReadyH.cons rfl (fun K hK => ?_) AllReadyH.nil
      go_simp
      have oF := heap_setCell_same _ (g + 1) 2 _ _ (.slice ua RK.length uc) (heap_setCell_same _ (g + 1) 1 _ _ (.slice va RB.length vc) (heap_setCell_same w5 (g + 1) 0 _ _ (.int .i64 (hh : Nat)) o5))
      have f6 : Fr (fun k => k = g + 1) w5 (((w5.setCell ⟨g + 1, 0, none⟩ (.int .i64 (hh : Nat))).setCell ⟨g + 1, 1, none⟩ (.slice va RB.length vc)).setCell ⟨g + 1, 2, none⟩ (.slice ua RK.length uc)) := (((Fr.refl (fun k => k = g + 1) w5).setCell (.inl rfl) _).setCell (.inl rfl) _).setCell (.inl rfl) _
      obtain ⟨y0, y1, y2⟩ := unhide HSW _ f5
      refine hK.out _ _ ⟨f6.cell' y0 (fun x => by have x : g = g + 1 := x; omega), f6.cell' y1 (fun x => by have x : g = g + 1 := x; omega), f6.cell' y2 (fun x => by have x : g = g + 1 := x; omega)⟩ (fun _ => ?_)
      clear hK K
      refine wpAnyH_done (by kernel_rfl) ?_ _
      go_wp2_with fail
      refine bodyPost_ret (results_cell_row Tryz.results143 _ _ (g + 1) 96 #[.int .i64 hh, .slice va RB.length vc, .slice ua RK.length uc] (0, 0) _ (by rfl) oF Tryz.underlying96 rfl (by kernel_rfl)) rfl ?_
      have hWz : g + 2 ≤ W.heap.size := by
        have := World.block_lt_of_cell? _ _ (cell_of_obj (unhide HR _ (Fr.refl _ W)) 0)
        exact this
      have hvx : ∀ x, va = some x → W.heap.size ≤ x.block ∧ x.block < w5.heap.size := fun x hx => ⟨Nat.le_trans (fA.size) (hvb x hx).1, Nat.lt_of_lt_of_le (hvb x hx).2 (Nat.le_trans (hWB ▸ (Fr.refl _ _).alloc _ : Still w3 WB).size g2.size)⟩
      have hux : ∀ x, ua = some x → W.heap.size ≤ x.block ∧ x.block < w5.heap.size := fun x hx => ⟨Nat.le_trans (fB.size) (hub x hx).1, (hub x hx).2⟩
      refine ⟨va, vc, ua, uc, rfl, hv5.kept f6 (fun x hx e => by have := (hvx x hx).1; omega), hu.kept f6 (fun x hx e => by have := (hux x hx).1; omega), fun x hx => ⟨by have := (hvx x hx).1; omega, Nat.lt_of_lt_of_le (hvx x hx).2 f6.size⟩, fun x hx => ⟨by have := (hux x hx).1; omega, Nat.lt_of_lt_of_le (hux x hx).2 f6.size⟩, ((unhide HFW).trans' f5 (fun _ x => x.elim)).trans' f6 (fun k hk => .inr (by rw [hk, ← hg]; omega))⟩
    · go_simp
      obtain ⟨WB, hWB⟩ : ∃ x, (WA).alloc (.cells #[.slice ka i kc, .slice ka2 nk2 kc2, .slice kd nkd kcd] 94) = x := ⟨_, rfl⟩
      have fB : Still W WB := (fA).trans' (hWB ▸ (Fr.refl _ _).alloc _ : Still (WA) WB) (fun _ x => x.elim)
      have oB : WB.heap[(WA).heap.size]? = some (.cells #[.slice ka i kc, .slice ka2 nk2 kc2, .slice kd nkd kcd] 94 (0, 0)) := hWB ▸ heap_alloc_new _ _
      rw [hWB]
      refine hK.out _ _ (unhide HSW _ (fB)) (fun _ => ?_)
      clear hK K
      refine wpAnyH_ready (rs := [13]) (by kernel_rfl) (by simp) ?_
      refine AllReadyH.cons rfl (fun K hK => ?_) AllReadyH.nil
      go_simp
      go_wp2_with fail
      refine (unhide HCS WB _ ((unhide HFW).trans' (fB) (fun _ x => x.elim)) ((hWB ▸ (Fr.refl _ _).alloc _ : Still WA WB).obj oA (fun x => x))).mono ?_
      rintro e w3 ⟨va, vc, rfl, hv, hvb, g1⟩
      have f3 : Still W w3 := (fB).trans' g1 (fun _ x => x.elim)
      refine hK.out _ _ (unhide HSW _ (f3)) (fun _ => ?_)
      clear hK K
      refine wpAnyH_ready (rs := [24]) (by kernel_rfl) (by simp) ?_
      refine AllReadyH.cons rfl (fun K hK => ?_) AllReadyH.nil
      go_simp
      go_wp2_with fail
      refine (unhide HCK w3 _ ((unhide HFW).trans' (f3) (fun _ x => x.elim)) (g1.obj oB (fun x => x))).mono ?_
      rintro e w5 ⟨ua, uc, rfl, hu, hub, g2⟩
      have f5 : Still W w5 := (f3).trans' g2 (fun _ x => x.elim)
      refine hK.out _ _ (unhide HSW _ (f5)) (fun _ => ?_)
      clear hK K
      have hv5 := hv.still (g2)
      refine wpAnyH_ready (rs := [25]) (by kernel_rfl) (by simp) ?_
      refine AllReadyH.cons rfl (fun K hK => ?_) AllReadyH.nil
      go_simp
      refine hK.out _ _ (unhide HSW _ (f5)) (fun _ => ?_)
      clear hK K
      have o5 := unhide HR _ f5
      have r0 : w5.cell? ⟨g + 1, 0, none⟩ = some (.int .i64 0) := cell_of_obj o5 0
      have r1 : w5.cell? ⟨g + 1, 1, none⟩ = some (.slice none 0 0) := cell_of_obj o5 1
      have r2 : w5.cell? ⟨g + 1, 2, none⟩ = some (.slice none 0 0) := cell_of_obj o5 2
      have rz : ∀ o, w5.frozen? ⟨g + 1, o, none⟩ = false := fun o => by simp [World.frozen?, o5]
      refine wpAnyH_ready (rs := [26]) (by kernel_rfl) (by simp) ?_
      refine AllReadyH.cons rfl (fun K hK => ?_) AllReadyH.nil
      go_simp
      have oF := heap_setCell_same _ (g + 1) 2 _ _ (.slice ua RK.length uc) (heap_setCell_same _ (g + 1) 1 _ _ (.slice va RB.length vc) (heap_setCell_same w5 (g + 1) 0 _ _ (.int .i64 (hh : Nat)) o5))
      have f6 : Fr (fun k => k = g + 1) w5 (((w5.setCell ⟨g + 1, 0, none⟩ (.int .i64 (hh : Nat))).setCell ⟨g + 1, 1, none⟩ (.slice va RB.length vc)).setCell ⟨g + 1, 2, none⟩ (.slice ua RK.length uc)) := (((Fr.refl (fun k => k = g + 1) w5).setCell (.inl rfl) _).setCell (.inl rfl) _).setCell (.inl rfl) _
      obtain ⟨y0, y1, y2⟩ := unhide HSW _ f5
      refine hK.out _ _ ⟨f6.cell' y0 (fun x => by have x : g = g + 1 := x; omega), f6.cell' y1 (fun x => by have x : g = g + 1 := x; omega), f6.cell' y2 (fun x => by have x : g = g + 1 := x; omega)⟩ (fun _ => ?_)
      clear hK K
      refine wpAnyH_done (by kernel_rfl) ?_ _
      go_wp2_with fail
      refine bodyPost_ret (results_cell_row Tryz.results143 _ _ (g + 1) 96 #[.int .i64 hh, .slice va RB.length vc, .slice ua RK.length uc] (0, 0) _ (by rfl) oF Tryz.underlying96 rfl (by kernel_rfl)) rfl ?_
      have hWz : g + 2 ≤ W.heap.size := by
        have := World.block_lt_of_cell? _ _ (cell_of_obj (unhide HR _ (Fr.refl _ W)) 0)
        exact this
      have hvx : ∀ x, va = some x → W.heap.size ≤ x.block ∧ x.block < w5.heap.size := fun x hx => ⟨Nat.le_trans (fB.size) (hvb x hx).1, Nat.lt_of_lt_of_le (hvb x hx).2 (g2.size)⟩
      have hux : ∀ x, ua = some x → W.heap.size ≤ x.block ∧ x.block < w5.heap.size := fun x hx => ⟨Nat.le_trans (f3.size) (hub x hx).1, (hub x hx).2⟩
      refine ⟨va, vc, ua, uc, rfl, hv5.kept f6 (fun x hx e => by have := (hvx x hx).1; omega), hu.kept f6 (fun x hx e => by have := (hux x hx).1; omega), fun x hx => ⟨by have := (hvx x hx).1; omega, Nat.lt_of_lt_of_le (hvx x hx).2 f6.size⟩, fun x hx => ⟨by have := (hux x hx).1; omega, Nat.lt_of_lt_of_le (hux x hx).2 f6.size⟩, ((unhide HFW).trans' f5 (fun _ x => x.elim)).trans' f6 (fun k hk => .inr (by rw [hk, ← hg]; omega))⟩
  · go_simp
    obtain ⟨WB, hWB⟩ : ∃ x, (WD).alloc (.cells #[.slice ka i kc, .slice ka2 nk2 kc2, .slice kd nkd kcd] 94) = x := ⟨_, rfl⟩
    have fB : Still W WB := (fD).trans' (hWB ▸ (Fr.refl _ _).alloc _ : Still (WD) WB) (fun _ x => x.elim)
    have oB : WB.heap[(WD).heap.size]? = some (.cells #[.slice ka i kc, .slice ka2 nk2 kc2, .slice kd nkd kcd] 94 (0, 0)) := hWB ▸ heap_alloc_new _ _
    rw [hWB]
    refine hK.out _ _ (unhide HSW _ (fB)) (fun _ => ?_)
    clear hK K
    refine wpAnyH_ready (rs := [12]) (by kernel_rfl) (by simp) ?_
    refine AllReadyH.cons rfl (fun K hK => ?_) AllReadyH.nil
    go_simp
    obtain ⟨WA, hWA⟩ : ∃ x, (WB).alloc (.cells #[.slice ba i bc, .slice ba2 nb2 bc2, .slice bd nbd bcd] 93) = x := ⟨_, rfl⟩
    have fA : Still W WA := (fB).trans' (hWA ▸ (Fr.refl _ _).alloc _ : Still (WB) WA) (fun _ x => x.elim)
    have oA : WA.heap[(WB).heap.size]? = some (.cells #[.slice ba i bc, .slice ba2 nb2 bc2, .slice bd nbd bcd] 93 (0, 0)) := hWA ▸ heap_alloc_new _ _
    rw [hWA]
    refine hK.out _ _ (unhide HSW _ (fA)) (fun _ => ?_)
    clear hK K
    refine wpAnyH_ready (rs := [13]) (by kernel_rfl) (by simp) ?_
    refine AllReadyH.cons rfl (fun K hK => ?_) AllReadyH.nil
    go_simp
    go_wp2_with fail
    refine (unhide HCS WA _ ((unhide HFW).trans' (fA) (fun _ x => x.elim)) (oA)).mono ?_
    rintro e w3 ⟨va, vc, rfl, hv, hvb, g1⟩
    have f3 : Still W w3 := (fA).trans' g1 (fun _ x => x.elim)
    refine hK.out _ _ (unhide HSW _ (f3)) (fun _ => ?_)
    clear hK K
    refine wpAnyH_ready (rs := [24]) (by kernel_rfl) (by simp) ?_
    refine AllReadyH.cons rfl (fun K hK => ?_) AllReadyH.nil
    go_simp
    go_wp2_with fail
    refine (unhide HCK w3 _ ((unhide HFW).trans' (f3) (fun _ x => x.elim)) (((hWA ▸ (Fr.refl _ _).alloc _ : Still WB WA).trans' g1 (fun _ x => x.elim)).obj oB (fun x => x))).mono ?_
    rintro e w5 ⟨ua, uc, rfl, hu, hub, g2⟩
    have f5 : Still W w5 := (f3).trans' g2 (fun _ x => x.elim)
    refine hK.out _ _ (unhide HSW _ (f5)) (fun _ => ?_)
    clear hK K
    have hv5 := hv.still (g2)
    refine wpAnyH_ready (rs := [25]) (by kernel_rfl) (by simp) ?_
    refine AllReadyH.cons rfl (fun K hK => ?_) AllReadyH.nil
    go_simp
    refine hK.out _ _ (unhide HSW _ (f5)) (fun _ => ?_)
    clear hK K
    have o5 := unhide HR _ f5
    have r0 : w5.cell? ⟨g + 1, 0, none⟩ = some (.int .i64 0) := cell_of_obj o5 0
    have r1 : w5.cell? ⟨g + 1, 1, none⟩ = some (.slice none 0 0) := cell_of_obj o5 1
    have r2 : w5.cell? ⟨g + 1, 2, none⟩ = some (.slice none 0 0) := cell_of_obj o5 2
    have rz : ∀ o, w5.frozen? ⟨g + 1, o, none⟩ = false := fun o => by simp [World.frozen?, o5]
    refine wpAnyH_ready (rs := [26]) (by kernel_rfl) (by simp) ?_
    refine AllReadyH.cons rfl (fun K hK => ?_) AllReadyH.nil
    go_simp
    have oF := heap_setCell_same _ (g + 1) 2 _ _ (.slice ua RK.length uc) (heap_setCell_same _ (g + 1) 1 _ _ (.slice va RB.length vc) (heap_setCell_same w5 (g + 1) 0 _ _ (.int .i64 (hh : Nat)) o5))
    have f6 : Fr (fun k => k = g + 1) w5 (((w5.setCell ⟨g + 1, 0, none⟩ (.int .i64 (hh : Nat))).setCell ⟨g + 1, 1, none⟩ (.slice va RB.length vc)).setCell ⟨g + 1, 2, none⟩ (.slice ua RK.length uc)) := (((Fr.refl (fun k => k = g + 1) w5).setCell (.inl rfl) _).setCell (.inl rfl) _).setCell (.inl rfl) _
    obtain ⟨y0, y1, y2⟩ := unhide HSW _ f5
    refine hK.out _ _ ⟨f6.cell' y0 (fun x => by have x : g = g + 1 := x; omega), f6.cell' y1 (fun x => by have x : g = g + 1 := x; omega), f6.cell' y2 (fun x => by have x : g = g + 1 := x; omega)⟩ (fun _ => ?_)
    clear hK K
    refine wpAnyH_done (by kernel_rfl) ?_ _
    go_wp2_with fail
    refine bodyPost_ret (results_cell_row Tryz.results143 _ _ (g + 1) 96 #[.int .i64 hh, .slice va RB.length vc, .slice ua RK.length uc] (0, 0) _ (by rfl) oF Tryz.underlying96 rfl (by kernel_rfl)) rfl ?_
    have hWz : g + 2 ≤ W.heap.size := by
      have := World.block_lt_of_cell? _ _ (cell_of_obj (unhide HR _ (Fr.refl _ W)) 0)
      exact this
    have hvx : ∀ x, va = some x → W.heap.size ≤ x.block ∧ x.block < w5.heap.size := fun x hx => ⟨Nat.le_trans (fA.size) (hvb x hx).1, Nat.lt_of_lt_of_le (hvb x hx).2 (g2.size)⟩
    have hux : ∀ x, ua = some x → W.heap.size ≤ x.block ∧ x.block < w5.heap.size := fun x hx => ⟨Nat.le_trans (f3.size) (hub x hx).1, (hub x hx).2⟩
    refine ⟨va, vc, ua, uc, rfl, hv5.kept f6 (fun x hx e => by have := (hvx x hx).1; omega), hu.kept f6 (fun x hx e => by have := (hux x hx).1; omega), fun x hx => ⟨by have := (hvx x hx).1; omega, Nat.lt_of_lt_of_le (hvx x hx).2 f6.size⟩, fun x hx => ⟨by have := (hux x hx).1; omega, Nat.lt_of_lt_of_le (hux x hx).2 f6.size⟩, ((unhide HFW).trans' f5 (fun _ x => x.elim)).trans' f6 (fun k hk => .inr (by rw [hk, ← hg]; omega))⟩
end

section
set_option maxRecDepth 100000 in
set_option maxHeartbeats 2000000 in
theorem l_cut (a : Option Addr) (c : Nat) (l : List Pr) (i : Nat) (w : World) (h : Lf w a c l) (h1 : 1 ≤ i) (hi : i < l.length) (hl : l.length ≤ 500) (lt : ltK (l.getD (i - 1) default).1 (l.getD i default).1) (s1 : (l.getD (i - 1) default).1.size ≤ 80) (s2 : (l.getD i default).1.size ≤ 80) :
    Calls Tryz.prog 231 #[.slice a l.length c, .int .i64 i] w fun e w' => ∃ x, e = .returned (.tuple #[.iface 100 (.slice a i c), .string x, .iface 100 (.slice (cutZ 2 a c i) (l.length - i) (c - i))]) ∧ Btw (l.getD (i - 1) default).1 (l.getD i default).1 x ∧ Still w w' := by
  have g : ∀ j (hj : j < l.length), l[j]? = some (l.getD j default) := fun j hj => by simp [List.getD, List.getElem?_eq_getElem hj]
  obtain ⟨b, o, rfl, c1, _⟩ := h.pair (g (i - 1) (by omega))
  obtain ⟨b', o', e', c2, _⟩ := h.pair (g i hi)
  cases e'
  have hc := h.cap
  have PA := fun w' => y_parting _ _ w' lt (by omega) (by omega)
  have t1 := fun w => slice_toZ elt_P elem_leaf (some ⟨b, o, none⟩) l.length c i w (by omega)
  have t2 := fun w => slice_fromZ elt_P elem_leaf (some ⟨b, o, none⟩) l.length c i w (by omega)
  have wi : IntKind.i64.wrap ((i : Int) - 1) = ((i - 1 : Nat) : Int) := by rw [IntKind.wrap_i64]; omega
  have q1 : ((i - 1 : Nat) : Int) < l.length := by omega
  have q2 : (i : Int) < l.length := by omega
  have i5 : i ≤ 500 := by omega
  generalize (l.getD (i - 1) default).1 = ka at *
  generalize (l.getD i default).1 = kb' at *
  generalize cutZ 2 (some ⟨b, o, none⟩) c i = ca at *
  generalize l.length - i = ln at *
  generalize c - i = cn at *
  have im5 : i - 1 ≤ 500 := by omega
  clear h g lt s1 s2 hc hl h1 hi
  generalize l.length = n at *
  generalize i - 1 = im at *
  go_enter Tryz.func231, Tryz.ntmps231
  go_wp2_with fail
  have fD : Still w w.drew := (Fr.refl _ w).drewN 1
  refine wp_region_held_drew (S := fun w' => w'.cell? ⟨b, o + im * 2, none⟩ = some (.string ka) ∧ w'.cell? ⟨b, o + i * 2, none⟩ = some (.string kb')) (by kernel_rfl) ⟨c1, c2⟩ (fun hHeld => ?_)
  refine take_l 0 (v := ?_) rfl (by kernel_rfl) (by kernel_rfl) (by kernel_rfl) (fun _ _ _ h => h) (Or.inl ⟨by rfl, ?_⟩) hHeld ?_
  rotate_left
  · (intro w hSw; (try dsimp only at hSw); go_simp; (try with_reducible rfl))
  simp only [Act.put, List.setIfInBounds_toArray, List.set_cons_zero, List.set_cons_succ]
  refine take_l 1 (v := ?_) rfl (by kernel_rfl) (by kernel_rfl) (by kernel_rfl) (fun _ _ _ h => h) (Or.inl ⟨by rfl, ?_⟩) hHeld ?_
  rotate_left
  · (intro w hSw; (try dsimp only at hSw); go_simp; (try with_reducible rfl))
  simp only [Act.put, List.setIfInBounds_toArray, List.set_cons_zero, List.set_cons_succ]
  refine take_l 2 (v := .slice (some ⟨b, o, none⟩) i c) rfl (by kernel_rfl) (by kernel_rfl) (by kernel_rfl) (fun _ _ _ h => h) (Or.inl ⟨by rfl, ?_⟩) hHeld ?_
  · (intro w hSw; go_simp; first | done | (rw [t1 w]; rfl) | (simp [t1 w]; try rfl))
  simp only [Act.put, List.setIfInBounds_toArray, List.set_cons_zero, List.set_cons_succ]
  refine take_l 3 (v := ?_) rfl (by kernel_rfl) (by kernel_rfl) (by kernel_rfl) (fun _ _ _ h => h) (Or.inl ⟨by rfl, ?_⟩) hHeld ?_
  rotate_left
  · (intro w hSw; (try dsimp only at hSw); go_simp; (try with_reducible rfl))
  simp only [Act.put, List.setIfInBounds_toArray, List.set_cons_zero, List.set_cons_succ]
  refine take_l 4 (v := ?_) rfl (by kernel_rfl) (by kernel_rfl) (by kernel_rfl) (fun _ _ _ h => h) (Or.inl ⟨by rfl, ?_⟩) hHeld ?_
  rotate_left
  · (intro w hSw; (try dsimp only at hSw); go_simp; (try with_reducible rfl))
  simp only [Act.put, List.setIfInBounds_toArray, List.set_cons_zero, List.set_cons_succ]
  refine take_l 5 (v := ?_) rfl (by kernel_rfl) (by kernel_rfl) (by kernel_rfl) (fun _ _ _ h => h) (Or.inl ⟨by rfl, ?_⟩) hHeld ?_
  rotate_left
  · (intro w hSw; (try dsimp only at hSw); go_simp; (try with_reducible rfl))
  simp only [Act.put, List.setIfInBounds_toArray, List.set_cons_zero, List.set_cons_succ]
  refine take_l 6 (v := .int .i64 im) rfl (by kernel_rfl) (by kernel_rfl) (by kernel_rfl) (fun _ _ _ h => h) (Or.inl ⟨by rfl, ?_⟩) hHeld ?_
  · (intro w hSw; go_simp; first | done | (rw [wi]) | (simp [wi]))
  simp only [Act.put, List.setIfInBounds_toArray, List.set_cons_zero, List.set_cons_succ]
  refine take_l 7 (v := .pointer (some ⟨b, o + im * 2, none⟩)) rfl (by kernel_rfl) (by kernel_rfl) (by kernel_rfl) (fun _ _ _ h => h) (Or.inl ⟨by rfl, ?_⟩) hHeld ?_
  · (intro w hSw; go_simp; (try with_reducible rfl))
  simp only [Act.put, List.setIfInBounds_toArray, List.set_cons_zero, List.set_cons_succ]
  refine take_l 8 (v := ?_) rfl (by kernel_rfl) (by kernel_rfl) (by kernel_rfl) (fun _ _ _ h => h) (Or.inl ⟨by rfl, ?_⟩) hHeld ?_
  rotate_left
  · (intro w hSw; (try dsimp only at hSw); go_simp; (try with_reducible rfl))
  simp only [Act.put, List.setIfInBounds_toArray, List.set_cons_zero, List.set_cons_succ]
  refine take_l 9 (v := .string ka) rfl (by kernel_rfl) (by kernel_rfl) (by kernel_rfl) (fun _ _ _ h => h) (Or.inl ⟨by rfl, ?_⟩) hHeld ?_
  · (intro w hSw; (try dsimp only at hSw); obtain ⟨x0, x1⟩ := hSw; go_simp; (try with_reducible rfl))
  simp only [Act.put, List.setIfInBounds_toArray, List.set_cons_zero, List.set_cons_succ]
  refine take_l 10 (v := ?_) rfl (by kernel_rfl) (by kernel_rfl) (by kernel_rfl) (fun _ _ _ h => h) (Or.inl ⟨by rfl, ?_⟩) hHeld ?_
  rotate_left
  · (intro w hSw; (try dsimp only at hSw); go_simp; (try with_reducible rfl))
  simp only [Act.put, List.setIfInBounds_toArray, List.set_cons_zero, List.set_cons_succ]
  refine take_l 11 (v := ?_) rfl (by kernel_rfl) (by kernel_rfl) (by kernel_rfl) (fun _ _ _ h => h) (Or.inl ⟨by rfl, ?_⟩) hHeld ?_
  rotate_left
  · (intro w hSw; (try dsimp only at hSw); go_simp; (try with_reducible rfl))
  simp only [Act.put, List.setIfInBounds_toArray, List.set_cons_zero, List.set_cons_succ]
  refine take_l 12 (v := .pointer (some ⟨b, o + i * 2, none⟩)) rfl (by kernel_rfl) (by kernel_rfl) (by kernel_rfl) (fun _ _ _ h => h) (Or.inl ⟨by rfl, ?_⟩) hHeld ?_
  · (intro w hSw; go_simp; (try with_reducible rfl))
  simp only [Act.put, List.setIfInBounds_toArray, List.set_cons_zero, List.set_cons_succ]
  refine take_l 13 (v := ?_) rfl (by kernel_rfl) (by kernel_rfl) (by kernel_rfl) (fun _ _ _ h => h) (Or.inl ⟨by rfl, ?_⟩) hHeld ?_
  rotate_left
  · (intro w hSw; (try dsimp only at hSw); go_simp; (try with_reducible rfl))
  simp only [Act.put, List.setIfInBounds_toArray, List.set_cons_zero, List.set_cons_succ]
  refine take_l 14 (v := .string kb') rfl (by kernel_rfl) (by kernel_rfl) (by kernel_rfl) (fun _ _ _ h => h) (Or.inl ⟨by rfl, ?_⟩) hHeld ?_
  · (intro w hSw; (try dsimp only at hSw); obtain ⟨x0, x1⟩ := hSw; go_simp; (try with_reducible rfl))
  simp only [Act.put, List.setIfInBounds_toArray, List.set_cons_zero, List.set_cons_succ]
  refine take_l 16 (v := ?_) rfl (by kernel_rfl) (by kernel_rfl) (by kernel_rfl) (fun _ _ _ h => h) (Or.inl ⟨by rfl, ?_⟩) hHeld ?_
  rotate_left
  · (intro w hSw; (try dsimp only at hSw); go_simp; (try with_reducible rfl))
  simp only [Act.put, List.setIfInBounds_toArray, List.set_cons_zero, List.set_cons_succ]
  refine take_l 17 (v := ?_) rfl (by kernel_rfl) (by kernel_rfl) (by kernel_rfl) (fun _ _ _ h => h) (Or.inl ⟨by rfl, ?_⟩) hHeld ?_
  rotate_left
  · (intro w hSw; (try dsimp only at hSw); go_simp; (try with_reducible rfl))
  simp only [Act.put, List.setIfInBounds_toArray, List.set_cons_zero, List.set_cons_succ]
  refine take_l 18 (v := .slice ca ln cn) rfl (by kernel_rfl) (by kernel_rfl) (by kernel_rfl) (fun _ _ _ h => h) (Or.inl ⟨by rfl, ?_⟩) hHeld ?_
  · (intro w hSw; go_simp; first | done | (rw [t2 w]; rfl) | (simp [t2 w]; try rfl))
  simp only [Act.put, List.setIfInBounds_toArray, List.set_cons_zero, List.set_cons_succ]
  refine take_l 19 (v := ?_) rfl (by kernel_rfl) (by kernel_rfl) (by kernel_rfl) (fun _ _ _ h => h) (Or.inl ⟨by rfl, ?_⟩) hHeld ?_
  rotate_left
  · (intro w hSw; (try dsimp only at hSw); go_simp; (try with_reducible rfl))
  simp only [Act.put, List.setIfInBounds_toArray, List.set_cons_zero, List.set_cons_succ]
  refine wpAnyH_ready (rs := [15]) (by kernel_rfl) (by simp) ?_
  refine AllReadyH.cons rfl (fun K hK => ?_) AllReadyH.nil
  go_simp
  go_wp2_with fail
  refine (PA _).mono ?_
  rintro e w2 ⟨x, rfl, bx, f2⟩
  have f02 : Still w w2 := fD.trans' f2 (fun _ x => x.elim)
  have hS := And.intro (f02.cell' c1 (fun x => x)) (f02.cell' c2 (fun x => x))
  refine hK.out _ _ hS (fun _ => ?_)
  clear hK K hHeld
  have hHeld := hS
  refine take_l 20 (v := ?_) rfl (by kernel_rfl) (by kernel_rfl) (by kernel_rfl) (fun _ _ _ h => h) (Or.inl ⟨by rfl, ?_⟩) hHeld ?_
  rotate_left
  · (intro w hSw; (try dsimp only at hSw); go_simp; (try with_reducible rfl))
  simp only [Act.put, List.setIfInBounds_toArray, List.set_cons_zero, List.set_cons_succ]
  refine take_l 21 (v := ?_) rfl (by kernel_rfl) (by kernel_rfl) (by kernel_rfl) (fun _ _ _ h => h) (Or.inl ⟨by rfl, ?_⟩) hHeld ?_
  rotate_left
  · (intro w hSw; (try dsimp only at hSw); go_simp; (try with_reducible rfl))
  simp only [Act.put, List.setIfInBounds_toArray, List.set_cons_zero, List.set_cons_succ]
  refine take_l 22 (v := ?_) rfl (by kernel_rfl) (by kernel_rfl) (by kernel_rfl) (fun _ _ _ h => h) (Or.inl ⟨by rfl, ?_⟩) hHeld ?_
  rotate_left
  · (intro w hSw; (try dsimp only at hSw); go_simp; (try with_reducible rfl))
  simp only [Act.put, List.setIfInBounds_toArray, List.set_cons_zero, List.set_cons_succ]
  refine wpAnyH_done (by kernel_rfl) ?_ _
  go_wp2_with fail
  go_ret3
  exact ⟨x, rfl, bx, f02⟩

set_option maxRecDepth 100000 in
set_option maxHeartbeats 2000000 in
theorem b_cut (hh : Nat) (ba : Option Addr) (bc : Nat) (B : List ByteArray) (ka : Option Addr) (kc : Nat) (ks : List (Nat × Nat)) (i : Nat) (w : World) (hB : Kys w ba bc B) (hK : Kds w ka kc ks) (h1 : 1 ≤ i) (hi : i ≤ B.length) (hi2 : i ≤ ks.length) (_hl : ks.length ≤ 500) (hl2 : B.length ≤ 500) :
    Calls Tryz.prog 225 #[brV hh ba B.length bc ka ks.length kc, .int .i64 i] w fun e w' => e = .returned (.tuple #[.iface 96 (brV hh ba (i - 1) bc ka i kc), .string (B.getD (i - 1) default), .iface 96 (brV hh (cutZ 1 ba bc i) (B.length - i) (bc - i) (cutZ 2 ka kc i) (ks.length - i) (kc - i))]) ∧ Still w w' := by
  have cb := hB.cap; have ck := hK.cap
  have t1 := fun w => slice_toZ elt_S elem_strs ba B.length bc (i - 1) w (by omega)
  have t2 := fun w => slice_toZ elt_K elem_kids ka ks.length kc i w (by omega)
  have t3 := fun w => slice_fromZ elt_S elem_strs ba B.length bc i w hi
  have t4 := fun w => slice_fromZ elt_K elem_kids ka ks.length kc i w hi2
  have wi : IntKind.i64.wrap ((i : Int) - 1) = ((i - 1 : Nat) : Int) := by rw [IntKind.wrap_i64]; omega
  have q1 : ((i - 1 : Nat) : Int) < B.length := by omega
  obtain ⟨b, o, rfl, c1⟩ := hB.strs (i - 1) (by omega)
  have c1' : w.cell? ⟨b, o + (i - 1), none⟩ = some (.string (B.getD (i - 1) default)) := c1
  obtain ⟨W, hW⟩ : ∃ W, w.alloc (.cells #[.int .i64 hh, .slice (some ⟨b, o, none⟩) B.length bc, .slice ka ks.length kc] 96) = W := ⟨_, rfl⟩
  have fW : Still w W := hW ▸ (Fr.refl _ w).alloc _
  have oW : W.heap[w.heap.size]? = some (.cells #[.int .i64 hh, .slice (some ⟨b, o, none⟩) B.length bc, .slice ka ks.length kc] 96 (0, 0)) := hW ▸ heap_alloc_new w _
  have d0 : W.cell? ⟨w.heap.size, 0, none⟩ = some (.int .i64 hh) := cell_of_obj oW 0
  have d1 : W.cell? ⟨w.heap.size, 1, none⟩ = some (.slice (some ⟨b, o, none⟩) B.length bc) := cell_of_obj oW 1
  have d2 : W.cell? ⟨w.heap.size, 2, none⟩ = some (.slice ka ks.length kc) := cell_of_obj oW 2
  replace c1 := fW.cell' c1' (fun x => x)
  generalize cutZ 1 (some ⟨b, o, none⟩) bc i = ca at *
  generalize B.length - i = bn at *
  generalize bc - i = bcn at *
  generalize cutZ 2 ka kc i = cka at *
  generalize ks.length - i = kn at *
  generalize kc - i = kcn at *
  generalize B.getD (i - 1) default = kx at *
  have i5 : i ≤ 500 := by omega
  have im5 : i - 1 ≤ 500 := by omega
  have HW := hide hW; have HF := hide fW
  clear hB hK hW fW oW _hl hl2 h1 hi hi2 cb ck c1'
  generalize B.length = nb at *
  generalize ks.length = nk at *
  generalize i - 1 = im at *
  go_enter Tryz.func225, Tryz.ntmps225
  go_wp2_with fail
  rw [unhide HW]
  clear HW
  generalize w.heap.size = g at *
  go_quiet (fail)
  go_wp2_with fail
  go_ret3
  exact ⟨rfl, (unhide HF).drewN _⟩
end
end Go.Proofs.YtkaplgmjdfmpmaaGreatDoor
