/- Reply: spreads are told. -/
import Derived.Test.YticflknfkaoejaaDoorTi
import Derived.Deep.RegionHeld
namespace Go.Proofs.YticflknfkaoejaaDoor
open Go.RowKit

set_option maxRecDepth 100000 in
set_option maxHeartbeats 4000000 in
theorem rspread_ok {W w : World} (hK : Kn W w) (n : Nat) (hn : n ≤ 1000) (b1 b2 b3 b4 : Nat) (T1 T2 T3 T4 : List UInt8) (h1 : ToldD b1 T1) (h2 : ToldD b2 T2) (h3 : ToldD b3 T3) (h4 : ToldD b4 T4) :
    Calls Tryd.prog 21 #[.agg #[iv n, .float .f64 b1, .float .f64 b2, .float .f64 b3, .float .f64 b4]] w fun e w' => e = .returned (.string (bs (spreadL n T1 T2 T3 T4))) ∧ Still w w' := by
  have hI := fun (w1 : World) (k : Kn W w1) => itoa_ok (n : Int) (by omega) (by omega) k
  rw [itoa_nat] at hI
  have hd := dec_small n (by omega)
  unfold spreadL
  obtain ⟨d, hdd⟩ : ∃ d, Lib.decDigits n = d := ⟨_, rfl⟩
  rw [hdd] at hI hd ⊢
  have s1 := h1.small; have s2 := h2.small; have s3 := h3.small; have s4 := h4.small
  have hll : (lineL [[83,80,82,69,65,68], d, T1, T2, T3, T4]).length ≤ 1000 := by rw [line6_len]; simp; omega
  have HI := hide hI
  have R1 := hide h1.text; have R2 := hide h2.text; have R3 := hide h3.text; have R4 := hide h4.text
  have HO := hide (fun w1 => oneLine_ok (w := w1.alloc (.cells #[.string (bs [83,80,82,69,65,68]), .string (bs d), .string (bs T1), .string (bs T2), .string (bs T3), .string (bs T4)] 9)) w1.heap.size 0 6 [[83,80,82,69,65,68], d, T1, T2, T3, T4] (six_tx w1 _ _ _ _ _ _) (by simp) (by simp) (by simp) (by omega))
  have HK := hide hK
  obtain ⟨ans, ha⟩ : ∃ x, lineL [[83,80,82,69,65,68], d, T1, T2, T3, T4] = x := ⟨_, rfl⟩
  rw [ha] at HO ⊢
  clear hI hd hdd s1 s2 s3 s4 h1 h2 h3 h4 hll hn hK ha
  go_enter Tryd.func21, Tryd.ntmps21
  go_wp2_with fail
  have al : Still w (w.alloc (.cells #[iv n, .float .f64 b1, .float .f64 b2, .float .f64 b3, .float .f64 b4] 42)) := (Fr.refl _ w).alloc _
  obtain ⟨WA, hWA⟩ : ∃ WA, (w.alloc (.cells #[iv n, .float .f64 b1, .float .f64 b2, .float .f64 b3, .float .f64 b4] 42)).drew = WA := ⟨_, rfl⟩
  have aD : Still w WA := by rw [← hWA]; exact al.drew
  have o0 : WA.heap[w.heap.size]? = some (.cells #[iv n, .float .f64 b1, .float .f64 b2, .float .f64 b3, .float .f64 b4] 42) := by rw [← hWA]; exact heap_alloc_new w _
  have SS : ∀ u : World, u.heap[w.heap.size]? = some (.cells #[iv n, .float .f64 b1, .float .f64 b2, .float .f64 b3, .float .f64 b4] 42) → u.cell? ⟨w.heap.size, 0, none⟩ = some (iv n) ∧ u.cell? ⟨w.heap.size, 1, none⟩ = some (.float .f64 b1) ∧ u.cell? ⟨w.heap.size, 2, none⟩ = some (.float .f64 b2) ∧ u.cell? ⟨w.heap.size, 3, none⟩ = some (.float .f64 b3) ∧ u.cell? ⟨w.heap.size, 4, none⟩ = some (.float .f64 b4) :=
    fun u hu => ⟨cell_of_obj hu 0, cell_of_obj hu 1, cell_of_obj hu 2, cell_of_obj hu 3, cell_of_obj hu 4⟩
  have HS := hide SS
  have HA := hide (And.intro o0 aD)
  clear al aD
  refine wp_region_held_drew (S := fun w' => w'.cell? ⟨w.heap.size, 0, none⟩ = some (iv n) ∧ w'.cell? ⟨w.heap.size, 1, none⟩ = some (.float .f64 b1) ∧ w'.cell? ⟨w.heap.size, 2, none⟩ = some (.float .f64 b2) ∧ w'.cell? ⟨w.heap.size, 3, none⟩ = some (.float .f64 b3) ∧ w'.cell? ⟨w.heap.size, 4, none⟩ = some (.float .f64 b4)) (by kernel_rfl) (by rw [hWA]; exact SS WA o0) (fun hHeld => ?_)
  rw [hWA] at hHeld ⊢
  clear hWA o0 SS
  refine take_l 0 (v := ?_) rfl (by kernel_rfl) (by kernel_rfl) (by kernel_rfl) (fun _ _ _ h => h) (Or.inl ⟨by rfl, ?_⟩) hHeld ?_
  rotate_left
  · (intro w hSw; (try dsimp only at hSw); go_simp; (try with_reducible rfl))
  simp only [Act.put, List.setIfInBounds_toArray, List.set_cons_zero, List.set_cons_succ]
  refine take_l 1 (v := ?_) rfl (by kernel_rfl) (by kernel_rfl) (by kernel_rfl) (fun _ _ _ h => h) (Or.inl ⟨by rfl, ?_⟩) hHeld ?_
  rotate_left
  · (intro w hSw; (try dsimp only at hSw); go_simp; (try with_reducible rfl))
  simp only [Act.put, List.setIfInBounds_toArray, List.set_cons_zero, List.set_cons_succ]
  refine take_l 3 (v := ?_) rfl (by kernel_rfl) (by kernel_rfl) (by kernel_rfl) (fun _ _ _ h => h) (Or.inl ⟨by rfl, ?_⟩) hHeld ?_
  rotate_left
  · (intro w hSw; (try dsimp only at hSw); go_simp; (try with_reducible rfl))
  simp only [Act.put, List.setIfInBounds_toArray, List.set_cons_zero, List.set_cons_succ]
  refine take_l 4 (v := ?_) rfl (by kernel_rfl) (by kernel_rfl) (by kernel_rfl) (fun _ _ _ h => h) (Or.inl ⟨by rfl, ?_⟩) hHeld ?_
  rotate_left
  · (intro w hSw; (try dsimp only at hSw); go_simp; (try with_reducible rfl))
  simp only [Act.put, List.setIfInBounds_toArray, List.set_cons_zero, List.set_cons_succ]
  refine take_l 6 (v := ?_) rfl (by kernel_rfl) (by kernel_rfl) (by kernel_rfl) (fun _ _ _ h => h) (Or.inl ⟨by rfl, ?_⟩) hHeld ?_
  rotate_left
  · (intro w hSw; (try dsimp only at hSw); go_simp; (try with_reducible rfl))
  simp only [Act.put, List.setIfInBounds_toArray, List.set_cons_zero, List.set_cons_succ]
  refine take_l 7 (v := ?_) rfl (by kernel_rfl) (by kernel_rfl) (by kernel_rfl) (fun _ _ _ h => h) (Or.inl ⟨by rfl, ?_⟩) hHeld ?_
  rotate_left
  · (intro w hSw; (try dsimp only at hSw); go_simp; (try with_reducible rfl))
  simp only [Act.put, List.setIfInBounds_toArray, List.set_cons_zero, List.set_cons_succ]
  refine take_l 9 (v := ?_) rfl (by kernel_rfl) (by kernel_rfl) (by kernel_rfl) (fun _ _ _ h => h) (Or.inl ⟨by rfl, ?_⟩) hHeld ?_
  rotate_left
  · (intro w hSw; (try dsimp only at hSw); go_simp; (try with_reducible rfl))
  simp only [Act.put, List.setIfInBounds_toArray, List.set_cons_zero, List.set_cons_succ]
  refine take_l 10 (v := ?_) rfl (by kernel_rfl) (by kernel_rfl) (by kernel_rfl) (fun _ _ _ h => h) (Or.inl ⟨by rfl, ?_⟩) hHeld ?_
  rotate_left
  · (intro w hSw; (try dsimp only at hSw); go_simp; (try with_reducible rfl))
  simp only [Act.put, List.setIfInBounds_toArray, List.set_cons_zero, List.set_cons_succ]
  refine take_l 12 (v := ?_) rfl (by kernel_rfl) (by kernel_rfl) (by kernel_rfl) (fun _ _ _ h => h) (Or.inl ⟨by rfl, ?_⟩) hHeld ?_
  rotate_left
  · (intro w hSw; (try dsimp only at hSw); go_simp; (try with_reducible rfl))
  simp only [Act.put, List.setIfInBounds_toArray, List.set_cons_zero, List.set_cons_succ]
  refine take_l 13 (v := ?_) rfl (by kernel_rfl) (by kernel_rfl) (by kernel_rfl) (fun _ _ _ h => h) (Or.inl ⟨by rfl, ?_⟩) hHeld ?_
  rotate_left
  · (intro w hSw; (try dsimp only at hSw); go_simp; (try with_reducible rfl))
  simp only [Act.put, List.setIfInBounds_toArray, List.set_cons_zero, List.set_cons_succ]
  refine wpAnyH_ready (rs := [2]) (by kernel_rfl) (by simp) ?_
  refine AllReadyH.cons rfl (fun K hK => ?_) AllReadyH.nil
  go_simp
  go_wp2_with fail
  refine (unhide HI WA ((unhide HK).still (unhide HA).2)).mono ?_
  rintro e w1 ⟨rfl, s1⟩
  have A1 := hide (And.intro (s1.obj (unhide HA).1 (fun x => x)) ((unhide HA).2.trans s1))
  refine hK.out _ _ (unhide HS _ (unhide A1).1) (fun hHeld => ?_)
  clear hK K s1 HI hHeld
  refine wpAnyH_ready (rs := [5]) (by kernel_rfl) (by simp) ?_
  refine AllReadyH.cons rfl (fun K hK => ?_) AllReadyH.nil
  go_simp
  go_wp2_with fail
  refine (unhide R1 w1 ((unhide HK).still (unhide A1).2).look).mono ?_
  rintro e w2 ⟨rfl, b2'⟩
  have s2 := still_of b2'
  have A2 := hide (And.intro (s2.obj (unhide A1).1 (fun x => x)) ((unhide A1).2.trans s2))
  refine hK.out _ _ (unhide HS _ (unhide A2).1) (fun hHeld => ?_)
  clear hK K s2 b2' R1 hHeld
  refine wpAnyH_ready (rs := [8]) (by kernel_rfl) (by simp) ?_
  refine AllReadyH.cons rfl (fun K hK => ?_) AllReadyH.nil
  go_simp
  go_wp2_with fail
  refine (unhide R2 w2 ((unhide HK).still (unhide A2).2).look).mono ?_
  rintro e w3 ⟨rfl, b3'⟩
  have s3 := still_of b3'
  have A3 := hide (And.intro (s3.obj (unhide A2).1 (fun x => x)) ((unhide A2).2.trans s3))
  refine hK.out _ _ (unhide HS _ (unhide A3).1) (fun hHeld => ?_)
  clear hK K s3 b3' R2 hHeld
  refine wpAnyH_ready (rs := [11]) (by kernel_rfl) (by simp) ?_
  refine AllReadyH.cons rfl (fun K hK => ?_) AllReadyH.nil
  go_simp
  go_wp2_with fail
  refine (unhide R3 w3 ((unhide HK).still (unhide A3).2).look).mono ?_
  rintro e w4 ⟨rfl, b4'⟩
  have s4 := still_of b4'
  have A4 := hide (And.intro (s4.obj (unhide A3).1 (fun x => x)) ((unhide A3).2.trans s4))
  refine hK.out _ _ (unhide HS _ (unhide A4).1) (fun hHeld => ?_)
  clear hK K s4 b4' R3 hHeld
  refine wpAnyH_ready (rs := [14]) (by kernel_rfl) (by simp) ?_
  refine AllReadyH.cons rfl (fun K hK => ?_) AllReadyH.nil
  go_simp
  go_wp2_with fail
  refine (unhide R4 w4 ((unhide HK).still (unhide A4).2).look).mono ?_
  rintro e w5 ⟨rfl, b5'⟩
  have s5 := still_of b5'
  have A5 := hide (And.intro (s5.obj (unhide A4).1 (fun x => x)) ((unhide A4).2.trans s5))
  refine hK.out _ _ (unhide HS _ (unhide A5).1) (fun hHeld => ?_)
  clear hK K s5 b5' R4 hHeld
  have a6 : Still w5 (w5.alloc (.cells #[.string (bs [83,80,82,69,65,68]), .string (bs d), .string (bs T1), .string (bs T2), .string (bs T3), .string (bs T4)] 9)) := (Fr.refl _ w5).alloc _
  have A6 := hide (And.intro (a6.obj (unhide A5).1 (fun x => x)) ((unhide A5).2.trans a6))
  clear a6
  refine wpAnyH_ready (rs := [15]) (by kernel_rfl) (by simp) ?_
  refine AllReadyH.cons rfl (fun K hK => ?_) AllReadyH.nil
  go_simp
  refine hK.out _ _ (unhide HS _ (unhide A6).1) (fun hHeld => ?_)
  clear hK K hHeld
  refine wpAnyH_ready (rs := [16]) (by kernel_rfl) (by simp) ?_
  refine AllReadyH.cons rfl (fun K hK => ?_) AllReadyH.nil
  go_simp
  go_wp2_with fail
  refine (unhide HO w5).mono ?_
  rintro e w7 ⟨rfl, s7⟩
  have A7 := hide (And.intro (s7.obj (unhide A6).1 (fun x => x)) ((unhide A6).2.trans s7))
  refine hK.out _ _ (unhide HS _ (unhide A7).1) (fun hHeld => ?_)
  clear hK K s7 HO hHeld
  refine wpAnyH_ready (rs := [17]) (by kernel_rfl) (by simp) ?_
  refine AllReadyH.cons rfl (fun K hK => ?_) AllReadyH.nil
  go_simp
  refine hK.out _ _ (unhide HS _ (unhide A7).1) (fun hHeld => ?_)
  clear hK K hHeld
  refine wpAnyH_done (by kernel_rfl) ?_ _
  go_wp2
  go_ret
  exact ⟨rfl, (unhide A7).2⟩
end Go.Proofs.YticflknfkaoejaaDoor
