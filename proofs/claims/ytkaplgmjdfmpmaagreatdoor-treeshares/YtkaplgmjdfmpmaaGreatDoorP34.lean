/- Joined: Kj Kk Km. -/
import Derived.Test.YtkaplgmjdfmpmaaGreatDoorP31
import Derived.Test.YtkaplgmjdfmpmaaGreatDoorP32
namespace Go.Proofs.YtkaplgmjdfmpmaaGreatDoor
open Go.RowKit

section
set_option maxRecDepth 100000 in
set_option maxHeartbeats 2000000 in
theorem ins_nil (w : World) : Calls Tryz.prog 154 #[.slice none 0 0, .int .i64 0, .int .i64 0] w fun e w' => e = .returned (.tuple #[]) ∧ w' = w := by
  go_enter Tryz.func154, Tryz.ntmps154
  go_wp2_with fail
  go_loopw [6] (fun c wr => c = .int .i64 1 ∧ wr = w) (fun c wr => 0)
  case atStart => exact ⟨rfl, rfl⟩
  case round =>
    obtain ⟨rfl, rfl⟩ := hrel
    go_wp2
    go_end0
    exact ⟨rfl, rfl⟩
set_option maxRecDepth 100000 in
set_option maxHeartbeats 2000000 in
theorem pdq_nil (x : Int) (w : World) : Calls Tryz.prog 115 #[.slice none 0 0, .int .i64 0, .int .i64 0, .int .i64 x] w fun e w' => e = .returned (.tuple #[]) ∧ w' = w := by
  have K := ins_nil w
  go_enter Tryz.func115, Tryz.ntmps115
  go_wp2_with fail
  go_loopw [1, 2] (fun b c wr => b = .int .i64 0 ∧ c = .int .i64 0 ∧ wr = w) (fun b c wr => 0)
  case atStart => exact ⟨rfl, rfl, rfl⟩
  case round =>
    obtain ⟨rfl, rfl, rfl⟩ := hrel
    go_wp2_with fail
    refine K.mono ?_
    rintro e w' ⟨rfl, rfl⟩
    go_wp2
    refine bodyPost_ret (results_none rfl _ _ _) rfl ?_
    exact ⟨rfl, rfl⟩
set_option maxHeartbeats 2000000 in
theorem sort_nil (w : World) : Calls Tryz.prog 73 #[.slice none 0 0] w fun e w' => e = .returned (.tuple #[]) ∧ w' = w := by
  have K1 := Tryz.bits_Len 0 w (by omega) (by omega)
  have K2 := fun x => pdq_nil x w
  go_enter Tryz.func73, Tryz.ntmps73
  go_wp2_with fail
  refine K1.mono ?_
  rintro e w' ⟨rfl, rfl⟩
  go_wp2_with fail
  refine (K2 _).mono ?_
  rintro e w' ⟨rfl, rfl⟩
  go_wp2
  go_end0
  exact ⟨rfl, rfl⟩
set_option maxRecDepth 100000 in
set_option maxHeartbeats 2000000 in
theorem y_Pieces0 (sb hb : Nat) (w : World) : Calls Tryz.prog 37 #[ptr sb, ptr hb, .int .u64 0] w fun e w' => e = .returned (.slice none 0 0) ∧ Still w w' := by
  obtain ⟨g, hg⟩ : ∃ g, w.heap.size = g := ⟨_, rfl⟩
  obtain ⟨W1, hW1⟩ : ∃ W, w.alloc (.cells #[ptr sb] 23) = W := ⟨_, rfl⟩
  obtain ⟨W2, hW2⟩ : ∃ W, W1.alloc (.cells #[ptr hb] 24) = W := ⟨_, rfl⟩
  obtain ⟨W3, hW3⟩ : ∃ W, W2.alloc (.map #[] 0) = W := ⟨_, rfl⟩
  obtain ⟨W4, hW4⟩ : ∃ W, W3.alloc (.cells #[.map (some (g + 2))] 116) = W := ⟨_, rfl⟩
  obtain ⟨W5, hW5⟩ : ∃ W, W4.alloc (.cells #[.slice none 0 0] 45) = W := ⟨_, rfl⟩
  obtain ⟨W6, hW6⟩ : ∃ W, W5.alloc (.cells #[.func (.func 68) #[] #[ptr g, ptr (g + 3), ptr (g + 1), ptr (g + 4), ptr (g + 5)]] 117) = W := ⟨_, rfl⟩
  have z1 : W1.heap.size = g + 1 := by rw [← hW1]; simp [hg]
  have z2 : W2.heap.size = g + 2 := by rw [← hW2]; simp; omega
  have z3 : W3.heap.size = g + 3 := by rw [← hW3]; simp; omega
  have z4 : W4.heap.size = g + 4 := by rw [← hW4]; simp; omega
  have f4 : Still w W4 := hW4 ▸ hW3 ▸ hW2 ▸ hW1 ▸ ((((Fr.refl _ w).alloc _).alloc _).alloc _).alloc _
  have f5 : Still W4 W5 := hW5 ▸ (Fr.refl _ _).alloc _
  have f6 : Still W5 W6 := hW6 ▸ (Fr.refl _ _).alloc _
  have oL : W6.heap[g + 4]? = some (.cells #[.slice none 0 0] 45 (0, 0)) := by
    have := heap_alloc_new W4 (.cells #[.slice none 0 0] 45)
    rw [hW5, z4] at this; exact f6.obj this (fun x => x)
  have c6 : W6.cell? ⟨g + 4, 0, none⟩ = some (.slice none 0 0) := cell_of_obj oL 0
  have K := sort_nil W6
  have hmm := make_setU
  have HW := hide (And.intro hW1 (And.intro hW2 (And.intro hW3 (And.intro hW4 (And.intro hW5 hW6)))))
  have HF := hide ((f4.trans' f5 (fun _ x => x.elim)).trans' f6 (fun _ x => x.elim))
  have c6' := c6
  rw [← hW6, ← hW5, ← hW4, ← hW3, ← hW2, ← hW1] at c6'
  clear hW1 hW2 hW3 hW4 hW5 hW6 z1 z2 z3 z4 f4 f5 f6 oL
  go_enter Tryz.func37, Tryz.ntmps37
  go_wp2_with fail
  simp only [show g + 1 + 1 = g + 2 from rfl, show g + 2 + 1 = g + 3 from rfl, show g + 3 + 1 = g + 4 from rfl, show g + 4 + 1 = g + 5 from rfl]
  obtain ⟨hW1, hW2, hW3, hW4, hW5, hW6⟩ := unhide HW
  rw [hW1, hW2, hW3, hW4, hW5, hW6]
  clear hW1 hW2 hW3 hW4 hW5 hW6 HW hmm
  refine K.mono ?_
  rintro e w' ⟨rfl, hh⟩
  replace hh := hh.symm
  subst hh
  clear K c6'
  go_wp2
  go_ret
  exact ⟨rfl, unhide HF⟩
end

section
section
variable {nu sz : Nat} {w w' w0 : World} {hb sb b : Nat} {T : Tay} {A : Ab} {P : List (Int × Int)}
theorem y_PiecesR (hp : Hp nu sz w hb sb b T A P) (s : HpS nu (says P A)) {r : Nat} {l : List Pr} {Q : List Nat} (rt : Rt nu sz (says P A) r l Q) (ri : Rise l) (hl : l.length ≤ 400) :
    Calls Tryz.prog 37 #[ptr sb, ptr hb, .int .u64 (r : Nat)] w fun e w' => ∃ (a : Option Addr) (cap : Nat) (ts : List Int), e = .returned (.slice a ts.length cap) ∧ (∀ x, x ∈ ts ↔ ∃ v ∈ Q, x = ((fi nu + 8 * v : Nat) : Int)) ∧ ts.length = Q.length ∧ w'.ownsRow w.heap.size 3 1 (.slice a ts.length cap) ts.length (ts.map (Value.int .i64)) ∧ Still w w' := by
  rcases rt with ⟨rfl, rfl, rfl⟩ | ⟨h, u, rfl, t⟩
  · refine (y_Pieces0 sb hb w).mono ?_
    rintro e w' ⟨rfl, f⟩
    exact ⟨none, 0, [], rfl, fun x => by simp, rfl, World.ownsRow_nil _ _ _ _, f⟩
  · refine (y_Pieces hp s t ri hl).mono ?_
    rintro e w' ⟨g, cap, ts, rfl, h1, h2, h3, h4⟩
    exact ⟨_, cap, ts, rfl, h1, h2, h3, h4⟩
structure RqR (nu sz : Nat) (f : Nat → Int) (r : Nat) (Q : List Nat) : Prop where
  t : ∃ l, Rt nu sz f r l Q ∧ Rise l ∧ l.length ≤ 400

set_option maxRecDepth 100000 in
set_option maxHeartbeats 4000000 in
theorem t_sweepR (hp : Hp nu sz w hb sb b T A P) (s : HpS nu (says P A)) (a : Option Addr) (c : Nat) (rs : List (Nat × Value)) (Qs : List (List Nat)) (hS : Sl w 2 a rs.length c (rtcl rs)) (hq : Qs.length = rs.length) (hr : ∀ (i : Nat) (p : Nat × Value) (Q : List Nat), rs[i]? = some p → Qs[i]? = some Q → RqR nu sz (says P A) p.1 Q) (hn : rs.length ≤ 5) (hm : P.length + 10 * cnt nu (ask nu (says P A)) + 10 ≤ 6144) :
    Calls Tryz.prog 13 #[ptr sb, ptr hb, .slice a rs.length c] w fun e w' => e = .returned (.tuple #[]) ∧ ∃ g, To sz w sb b T A w' g (P.length + 10 * cnt nu (ask nu (says P A))) ∧ HpS nu g ∧ (∀ u, ask nu g u = if u ∈ Qs.flatten then ask nu (says P A) u else 0) ∧ (∀ i, fi nu ≤ i → g i = says P A i) ∧ ∀ i, 2 ≤ i → i < 18 → g i = says P A i := by
  obtain ⟨bl, hbl⟩ : ∃ bl, w.heap.size = bl := ⟨_, rfl⟩
  obtain ⟨W, hW⟩ : ∃ W, w.alloc (.cells #[.slice none 0 0] 45) = W := ⟨_, rfl⟩
  have fW : Still w W := hW ▸ (Fr.refl _ w).alloc _
  have oW : W.heap[bl]? = some (.cells #[.slice none 0 0] 45 (0, 0)) := by rw [← hbl, ← hW]; exact heap_alloc_new w _
  have HW := hide hW
  have HH := hide (And.intro hp (And.intro s (And.intro hS (And.intro hq (And.intro hr hm)))))
  have HF := hide fW
  clear hW hp s hS hq hr hm fW
  go_enter Tryz.func13, Tryz.ntmps13
  go_wp2_with fail
  rw [unhide HW]
  go_loopw [7] (fun iv wr => ∃ (j : Nat) (ts : List Int) (v : Value), j ≤ rs.length ∧ iv = .int .i64 j ∧ ts.length ≤ 800 * j ∧ Liv nu ts (Qs.take j).flatten ∧ wr.heap[bl]? = some (.cells #[v] 45 (0, 0)) ∧ wr.ownsRow (bl + 1) 3 1 v ts.length (ts.map (Value.int .i64)) ∧ Still w wr) (fun iv _ => rs.length - (intOf iv).toNat)
  case atStart => exact ⟨0, [], _, by omega, rfl, by simp, fun x => by simp, oW, World.ownsRow_nil _ _ _ _, unhide HF⟩
  case round =>
    obtain ⟨j, ts, v, hj, rfl, htl, liv, ov, row, fr⟩ := hrel
    generalize wr = wq at *
    clear wr
    by_cases hlt : j < rs.length
    · have hlt' : (j : Int) < rs.length := by omega
      obtain ⟨p, hp1⟩ : ∃ p, rs[j]? = some p := ⟨_, List.getElem?_eq_getElem hlt⟩
      obtain ⟨hp, s, hS, hq, hr, hm⟩ := unhide HH
      obtain ⟨Q, hQ⟩ : ∃ Q, Qs[j]? = some Q := ⟨_, List.getElem?_eq_getElem (by omega)⟩
      obtain ⟨l, rt, ri, hl⟩ := (hr j p Q hp1 hQ).t
      obtain ⟨b0, o0, rfl, cR0⟩ := hS.cells (j * 2) _ (rtcl_at hp1)
      have hb0 : b0 < bl := by rw [← hbl]; exact World.block_lt_of_cell? _ _ cR0
      have cR := fr.cell' cR0 (fun x => x)
      have cv : wq.cell? ⟨bl, 0, none⟩ = some v := cell_of_obj ov 0
      have zv : wq.frozen? ⟨bl, 0, none⟩ = false := by simp [World.frozen?, ov]
      have few := rt.few
      have PC : ∀ w', Still wq w' → Calls Tryz.prog 37 #[ptr sb, ptr hb, .int .u64 (p.1 : Nat)] w' _ := fun w' f' => by
        exact y_PiecesR ((hp.still fr).still f') s rt ri hl
      have HPC := @hide _ PC
      have ltb : bl < wq.heap.size := World.block_lt_of_cell? _ _ cv
      have HQ := @hide _ (fun (w2 : World) (gg : Option Addr) (cap : Nat) (ts2 : List Int) (f2 : Still wq w2) (h2 : ∀ x, x ∈ ts2 ↔ ∃ v ∈ Q, x = ((fi nu + 8 * v : Nat) : Int)) (h2l : ts2.length = Q.length) (h2r : w2.ownsRow wq.drew.heap.size 3 1 (.slice gg ts2.length cap) ts2.length (ts2.map (Value.int .i64))) => show ∃ v3 w3, (Builtin.append_ #[45, 45] 45 #[v, .slice gg ts2.length cap]).run Tryz.prog w2 = .ok v3 w3 ∧ ∃ va3 vc3, v3 = .slice va3 (ts.length + ts2.length) vc3 ∧ w3.cell? ⟨bl, 0, none⟩ = some v ∧ w3.frozen? ⟨bl, 0, none⟩ = false ∧ w3.cell? ⟨b0, o0 + j * 2, none⟩ = some (.int .u64 (p.1 : Nat)) ∧ (w3.setCell ⟨bl, 0, none⟩ v3).cell? ⟨b0, o0 + j * 2, none⟩ = some (.int .u64 (p.1 : Nat)) ∧ ((ts ++ ts2).length ≤ 800 * (j + 1) ∧ Liv nu (ts ++ ts2) (Qs.take (j + 1)).flatten ∧ (w3.setCell ⟨bl, 0, none⟩ v3).heap[bl]? = some (.cells #[v3] 45 (0, 0)) ∧ (w3.setCell ⟨bl, 0, none⟩ v3).ownsRow (bl + 1) 3 1 v3 (ts ++ ts2).length ((ts ++ ts2).map (Value.int .i64)) ∧ Still w (w3.setCell ⟨bl, 0, none⟩ v3)) from by
        have row2 := own_still row f2
        obtain ⟨v3, w3, hap, hw3, hgr, hloc⟩ := run_more elt_I 45 row2 (sl_of_row h2r (int_one ts2)) (by omega) (by have := f2.size; omega)
        obtain ⟨va3, vc3, e3⟩ := rows_form hw3
        have f3 : Fr (fun k => v.ownBlock = some k) w2 w3 := (Fr.refl _ w2).grown hgr (fun k hk => .inl hk)
        have nbl : v.ownBlock ≠ some bl := fun e => by have := (row.lt _ e).1; omega
        have nb0 : v.ownBlock ≠ some b0 := fun e => by have := (row.lt _ e).1; omega
        have ov3 := f3.obj (f2.obj ov (fun x => x)) nbl
        have cR3 := f3.cell' (f2.cell' cR (fun x => x)) nb0
        have fs : Fr (fun k => k = bl) w3 (w3.setCell ⟨bl, 0, none⟩ v3) := (Fr.refl (fun k => k = bl) w3).setCell (.inl rfl) _
        refine ⟨v3, w3, hap, va3, vc3, e3, cell_of_obj ov3 0, by simp [World.frozen?, ov3], cR3, fs.cell' cR3 (show b0 ≠ bl by omega), by rw [List.length_append]; omega, fun x => ?_, heap_setCell_same w3 bl 0 _ _ v3 ov3, ?_, ?_⟩
        · rw [List.mem_append, liv, h2, List.take_add_one, hQ]
          simp only [Option.toList_some, List.flatten_append, List.flatten_cons, List.flatten_nil, List.append_nil, List.mem_append]
          constructor
          · rintro (⟨y, h1, h2⟩ | ⟨y, h1, h2⟩)
            · exact ⟨y, .inl h1, h2⟩
            · exact ⟨y, .inr h1, h2⟩
          · rintro ⟨y, h1 | h1, h2⟩
            · exact .inl ⟨y, h1, h2⟩
            · exact .inr ⟨y, h1, h2⟩
        · rw [List.length_append, List.map_append]
          exact ownsRow_setCell_other hw3 (fun e => by have := (hw3.lt _ e).1; have e2 : bl + 1 ≤ bl := this; omega) _
        · refine (((fr.trans' f2 (fun _ x => x.elim)).trans' f3 (fun k hk => .inr (by have := (row.lt k hk).1; omega)))).trans' fs (fun k hk => .inr (by rw [hk, ← hbl]; exact Nat.le_refl _)))
      have q0 : j * 2 = j * 2 := rfl
      have fD : Still wq wq.drew := (Fr.refl _ wq).drewN 1
      have cvd : wq.drew.cell? ⟨bl, 0, none⟩ = some v := cv
      have hj5 : j ≤ 5 := by omega
      clear PC hp s hS hq hr hm rt ri hl row liv htl few zv hp1 hQ fr ov cR0 q0
      generalize hnn : rs.length = n at *
      go_wp2_with fail
      refine wp_region_held_drew (S := fun w' => w'.cell? ⟨b0, o0 + j * 2, none⟩ = some (.int .u64 (p.1 : Nat))) (by kernel_rfl) cR (fun hHeld => ?_)
      refine take_l 1 (v := ?_) rfl (by kernel_rfl) (by kernel_rfl) (by kernel_rfl) (fun _ _ _ h => h) (Or.inl ⟨by rfl, ?_⟩) hHeld ?_
      rotate_left
      · (intro w hSw; (try dsimp only at hSw); go_simp; (try with_reducible rfl))
      simp only [Act.put, List.setIfInBounds_toArray, List.set_cons_zero, List.set_cons_succ]
      refine take_l 2 (v := ?_) rfl (by kernel_rfl) (by kernel_rfl) (by kernel_rfl) (fun _ _ _ h => h) (Or.inl ⟨by rfl, ?_⟩) hHeld ?_
      rotate_left
      · (intro w hSw; (try dsimp only at hSw); go_simp; (try with_reducible rfl))
      simp only [Act.put, List.setIfInBounds_toArray, List.set_cons_zero, List.set_cons_succ]
      refine take_l 3 (v := ?_) rfl (by kernel_rfl) (by kernel_rfl) (by kernel_rfl) (fun _ _ _ h => h) (Or.inl ⟨by rfl, ?_⟩) hHeld ?_
      rotate_left
      · (intro w hSw; (try dsimp only at hSw); go_simp; (try with_reducible rfl))
      simp only [Act.put, List.setIfInBounds_toArray, List.set_cons_zero, List.set_cons_succ]
      refine take_l 4 (v := ?_) rfl (by kernel_rfl) (by kernel_rfl) (by kernel_rfl) (fun _ _ _ h => h) (Or.inl ⟨by rfl, ?_⟩) hHeld ?_
      rotate_left
      · (intro w hSw; (try dsimp only at hSw); go_simp; (try with_reducible rfl))
      simp only [Act.put, List.setIfInBounds_toArray, List.set_cons_zero, List.set_cons_succ]
      refine take_l 5 (v := .pointer (some ⟨b0, o0 + j * 2, none⟩)) rfl (by kernel_rfl) (by kernel_rfl) (by kernel_rfl) (fun _ _ _ h => h) (Or.inl ⟨by rfl, ?_⟩) hHeld ?_
      · (intro w hSw; go_simp; (try with_reducible rfl))
      simp only [Act.put, List.setIfInBounds_toArray, List.set_cons_zero, List.set_cons_succ]
      refine take_l 6 (v := ?_) rfl (by kernel_rfl) (by kernel_rfl) (by kernel_rfl) (fun _ _ _ h => h) (Or.inl ⟨by rfl, ?_⟩) hHeld ?_
      rotate_left
      · (intro w hSw; (try dsimp only at hSw); go_simp; (try with_reducible rfl))
      simp only [Act.put, List.setIfInBounds_toArray, List.set_cons_zero, List.set_cons_succ]
      refine take_l 7 (v := .int .u64 (p.1 : Nat)) rfl (by kernel_rfl) (by kernel_rfl) (by kernel_rfl) (fun _ _ _ h => h) (Or.inl ⟨by rfl, ?_⟩) hHeld ?_
      · (intro w hSw; (try dsimp only at hSw); go_simp; (try with_reducible rfl))
      simp only [Act.put, List.setIfInBounds_toArray, List.set_cons_zero, List.set_cons_succ]
      clear hHeld
      refine wpAnyH_ready (rs := [0, 8]) (by kernel_rfl) (by simp) ?_
      refine AllReadyH.cons rfl (fun K hK => ?_) (AllReadyH.cons rfl (fun K hK => ?_) AllReadyH.nil)
      · go_simp
        refine hK.out _ _ cR (fun _ => ?_)
        clear hK K
        refine wpAnyH_ready (rs := [8]) (by kernel_rfl) (by simp) ?_
        refine AllReadyH.cons rfl (fun K hK => ?_) AllReadyH.nil
        go_simp
        go_wp2_with fail
        refine (unhide HPC _ fD).mono ?_
        rintro e w2 ⟨gg, cap, ts2, rfl, h2, h2l, h2r, f2d⟩
        have H2L := hide h2l
        clear h2l
        have f2 : Still wq w2 := fD.trans' f2d (fun _ x => x.elim)
        have cv2 := f2.cell' cv (fun x => x)
        refine hK.out _ _ (f2.cell' cR (fun x => x)) (fun _ => ?_)
        clear hK K
        obtain ⟨v3, w3, hap, FX⟩ := unhide HQ w2 gg cap ts2 f2 h2 (unhide H2L) h2r
        refine wpAnyH_ready (rs := [9]) (by kernel_rfl) (by simp) ?_
        refine AllReadyH.cons rfl (fun K hK => ?_) AllReadyH.nil
        refine stp_append rfl (.tmp 14) (.tmp 22) 45 rfl _ _ rfl rfl v3 w3 hap ?_
        obtain ⟨va3, vc3, rfl, y1, y2, y3, y4, y5⟩ := FX
        refine hK.out _ _ y3 (fun _ => ?_)
        clear hK K
        simp only [Act.put, List.setIfInBounds_toArray]
        refine wpAnyH_ready (rs := [10]) (by kernel_rfl) (by simp) ?_
        refine AllReadyH.cons rfl (fun K hK => ?_) AllReadyH.nil
        go_simp
        refine hK.out _ _ y4 (fun _ => ?_)
        clear hK K
        refine wpAnyH_done (by kernel_rfl) ?_ _
        have HY := hide y5
        clear y5 y1 y2 y3 y4 hap
        go_wp2_with fail
        obtain ⟨q1, q2, q3, q4, q5⟩ := unhide HY
        exact ⟨⟨j + 1, ts ++ ts2, _, by omega, by simp, q1, q2, q3, q4, q5⟩, by simp [intOf]; omega⟩
      · go_simp
        go_wp2_with fail
        refine (unhide HPC _ fD).mono ?_
        rintro e w2 ⟨gg, cap, ts2, rfl, h2, h2l, h2r, f2d⟩
        have H2L := hide h2l
        clear h2l
        have f2 : Still wq w2 := fD.trans' f2d (fun _ x => x.elim)
        have cv2 := f2.cell' cv (fun x => x)
        refine hK.out _ _ (f2.cell' cR (fun x => x)) (fun _ => ?_)
        clear hK K
        refine wpAnyH_ready (rs := [0]) (by kernel_rfl) (by simp) ?_
        refine AllReadyH.cons rfl (fun K hK => ?_) AllReadyH.nil
        go_simp
        refine hK.out _ _ (f2.cell' cR (fun x => x)) (fun _ => ?_)
        clear hK K
        obtain ⟨v3, w3, hap, FX⟩ := unhide HQ w2 gg cap ts2 f2 h2 (unhide H2L) h2r
        refine wpAnyH_ready (rs := [9]) (by kernel_rfl) (by simp) ?_
        refine AllReadyH.cons rfl (fun K hK => ?_) AllReadyH.nil
        refine stp_append rfl (.tmp 14) (.tmp 22) 45 rfl _ _ rfl rfl v3 w3 hap ?_
        obtain ⟨va3, vc3, rfl, y1, y2, y3, y4, y5⟩ := FX
        refine hK.out _ _ y3 (fun _ => ?_)
        clear hK K
        simp only [Act.put, List.setIfInBounds_toArray]
        refine wpAnyH_ready (rs := [10]) (by kernel_rfl) (by simp) ?_
        refine AllReadyH.cons rfl (fun K hK => ?_) AllReadyH.nil
        go_simp
        refine hK.out _ _ y4 (fun _ => ?_)
        clear hK K
        refine wpAnyH_done (by kernel_rfl) ?_ _
        have HY := hide y5
        clear y5 y1 y2 y3 y4 hap
        go_wp2_with fail
        obtain ⟨q1, q2, q3, q4, q5⟩ := unhide HY
        exact ⟨⟨j + 1, ts ++ ts2, _, by omega, by simp, q1, q2, q3, q4, q5⟩, by simp [intOf]; omega⟩
    · have e : j = rs.length := by omega
      subst e
      have hlt' : ¬ (rs.length : Int) < rs.length := by omega
      obtain ⟨hp, s, hS, hq, hr, hm⟩ := unhide HH
      have htk : Qs.take rs.length = Qs := by rw [← hq, List.take_length]
      rw [htk] at liv
      obtain ⟨va, vc, rfl⟩ := rows_form row
      have SL := sl_of_row row (int_one ts)
      have cv : wq.cell? ⟨bl, 0, none⟩ = some (.slice va ts.length vc) := cell_of_obj ov 0
      have SW := h_sweep (bl := bl) (hp.still fr) s (fun u => decide (u ∈ Qs.flatten)) hm (fun w' f' u hu => by
        refine (t_keep bl va vc ts w' (f'.cell' cv (fun x => x)) (SL.still f') (by omega) ((fi nu : Int) + (u : Int) * 8)).mono ?_
        rintro e w'' ⟨rfl, rfl⟩
        refine ⟨?_, ⟨0, rfl⟩⟩
        have hiff : ((fi nu : Int) + (u : Int) * 8) ∈ ts ↔ u ∈ Qs.flatten := by
          rw [liv]
          exact ⟨fun ⟨y, h1, h2⟩ => by
            have : y = u := by omega
            exact this ▸ h1, fun h => ⟨u, h, by omega⟩⟩
        rw [decide_eq_decide.2 hiff])
      have HSW := hide SW
      have HL := hide (And.intro fr hp)
      have HS0 := hide s
      clear SW SL cv row ov liv hp s hS hq hr hm fr
      generalize rs.length = n at *
      go_wp2_with fail
      refine (unhide HSW).mono ?_
      rintro e w5 ⟨k, rfl, hk, g, tg, sg, ak, ke, ro⟩
      go_wp2_with fail
      go_end0
      obtain ⟨fr, hp⟩ := unhide HL
      refine ⟨rfl, g, (tg.after fr).le ?_, sg, fun u => ?_, ke, ro⟩
      · have h1 := gone_len (fun u => decide (u ∈ Qs.flatten)) (plU (ask nu (says P A)) nu)
        have h2 : (plU (ask nu (says P A)) nu).length = cnt nu (ask nu (says P A)) := by rw [plU_len]; rfl
        omega
      · rw [ak]
        by_cases hu : u ∈ Qs.flatten
        · rw [if_pos hu, if_neg (fun hm => by
            have := (List.mem_filter.1 hm).2
            simp [hu] at this)]
        · rw [if_neg hu]
          by_cases h0 : ask nu (says P A) u = 0
          · split
            · rfl
            · exact h0
          · have hin : u ∈ goneU (fun u => decide (u ∈ Qs.flatten)) (plU (ask nu (says P A)) nu) := List.mem_filter.2 ⟨plU_mem.2 ⟨((unhide HS0).inv.asks u h0).1, h0⟩, by simp only [decide_eq_false hu]; rfl⟩
            rw [if_pos hin]
end
end

section
structure RtO (w : World) (br r : Nat) : Prop where
  o : w.heap[br]? = some (.cells #[.int .u64 (r : Nat), .slice none 0 0] 35 (0, 0))
theorem RtO.lt {w : World} {br r : Nat} (h : RtO w br r) : br < w.heap.size := (Array.getElem?_eq_some_iff.1 h.o).1
theorem RtO.kept {w w' : World} {F : Nat → Prop} {br r : Nat} (h : RtO w br r) (f : Fr F w w') (n : ¬ F br) : RtO w' br r := ⟨f.obj h.o n⟩
theorem RtO.set {w : World} {br r : Nat} (h : RtO w br r) (r' : Nat) : RtO (w.setCell ⟨br, 0, none⟩ (.int .u64 (r' : Nat))) br r' := ⟨heap_setCell_same w br 0 _ _ _ h.o⟩
def PutG (nu sz : Nat) (V : Nat → Prop) (w : World) (sb b : Nat) (T : Tay) (A : Ab) (B : World → Nat → Prop) (L' : List Pr) (w' : World) : Prop :=
  ∃ T' P' r' Q', OnxX V w sb b T w' T' sz A P' false ∧ B w' r' ∧ r' ≠ 0 ∧ Tre nu sz (says P' A) r' L' Q'

section
variable {nu sz : Nat} {w w' w0 : World} {hb sb b bs bh br bi : Nat} {T : Tay} {A : Ab} {P : List (Int × Int)} {r i : Nat} {L : List Pr} {Q : List Nat}
set_option maxRecDepth 20000 in
set_option maxHeartbeats 4000000 in
theorem tsC1 (h : Hp nu sz w hb sb b T A P) (t : Tre nu sz (says P A) r L Q) (hl : L.length ≤ 130) (hP : P.length ≤ 100) (hnu : 2 * L.length + 30 < nu / 4) (hi : i < 200)
    (cs : w.cell? ⟨bs, 0, none⟩ = some (ptr sb)) (ch : w.cell? ⟨bh, 0, none⟩ = some (ptr hb)) (Br : RtO w br r) (ci : w.cell? ⟨bi, 0, none⟩ = some (.int .i64 (i : Nat))) (nt : ∀ k, k = bs ∨ k = bh ∨ k = br ∨ k = bi → ¬ tfoot sb b T k)
    (ne : bs ≠ br ∧ bh ≠ br ∧ bi ≠ br ∧ hb ≠ br ∧ 0 ≠ br) :
    Calls Tryz.prog 33 #[ptr bs, ptr bh, ptr br, ptr bi] w fun e w' => e = .returned (.tuple #[]) ∧ PutG nu sz (fun k => k = br) w sb b T A (RtO · br ·) (putP L (kyB i) i) w' := by
  have fD : Still w w.drew := (Fr.refl _ w).drewN 1
  have KY := l11_key i hi w.drew
  have PUT : ∀ w1, Still w w1 → Calls Tryz.prog 11 #[ptr sb, ptr hb, .int .u64 (r : Nat), .string (kyB i), .int .u64 (i : Nat)] w1 _ := fun w1 f1 => y_Put (h.still f1) t.st t.rt t.pk t.ri (by omega) (kyB i) i (by rw [kyB_size]; omega) (by omega) (by omega) (by have := t.cnt; omega) t.low
  have lbs : bs < w.heap.size := World.block_lt_of_cell? _ _ cs
  have lbh : bh < w.heap.size := World.block_lt_of_cell? _ _ ch
  have lbi : bi < w.heap.size := World.block_lt_of_cell? _ _ ci
  have lbr := Br.lt
  have cr : w.cell? ⟨br, 0, none⟩ = some (.int .u64 (r : Nat)) := cell_of_obj Br.o 0
  have HK := hide KY; have HP := @hide _ PUT
  have HX := hide (And.intro h (And.intro t (And.intro hl (And.intro hP (And.intro hnu (And.intro Br fD)))))); have HNT := @hide _ nt
  have wu : IntKind.u64.wrap (i : Nat) = (i : Nat) := (wrap_small _ (by omega) (by omega)).2
  clear KY PUT h t hl hP hnu Br nt fD
  go_enter Tryz.func33, Tryz.ntmps33
  go_wp2_with fail
  refine wp_region_held_drew (S := fun w' => w'.cell? ⟨bs, 0, none⟩ = some (ptr sb) ∧ w'.cell? ⟨bh, 0, none⟩ = some (ptr hb) ∧ w'.cell? ⟨bi, 0, none⟩ = some (.int .i64 (i : Nat))) (by kernel_rfl) ⟨cs, ch, ci⟩ (fun hHeld => ?_)
  refine take_l 0 (v := ?_) rfl (by kernel_rfl) (by kernel_rfl) (by kernel_rfl) (fun _ _ _ h => h) (Or.inl ⟨by rfl, ?_⟩) hHeld ?_
  rotate_left
  · (intro w hSw; (try dsimp only at hSw); go_simp; (try with_reducible rfl))
  simp only [Act.put, List.setIfInBounds_toArray, List.set_cons_zero, List.set_cons_succ]
  refine take_l 1 (v := ?_) rfl (by kernel_rfl) (by kernel_rfl) (by kernel_rfl) (fun _ _ _ h => h) (Or.inl ⟨by rfl, ?_⟩) hHeld ?_
  rotate_left
  · (intro w hSw; (try dsimp only at hSw); go_simp; (try with_reducible rfl))
  simp only [Act.put, List.setIfInBounds_toArray, List.set_cons_zero, List.set_cons_succ]
  refine take_l 2 (v := ?_) rfl (by kernel_rfl) (by kernel_rfl) (by kernel_rfl) (fun _ _ _ h => h) (Or.inl ⟨by rfl, ?_⟩) hHeld ?_
  rotate_left
  · (intro w hSw; (try dsimp only at hSw); go_simp; (try with_reducible rfl))
  simp only [Act.put, List.setIfInBounds_toArray, List.set_cons_zero, List.set_cons_succ]
  refine take_l 4 (v := ?_) rfl (by kernel_rfl) (by kernel_rfl) (by kernel_rfl) (fun _ _ _ h => h) (Or.inl ⟨by rfl, ?_⟩) hHeld ?_
  rotate_left
  · (intro w hSw; (try dsimp only at hSw); go_simp; (try with_reducible rfl))
  simp only [Act.put, List.setIfInBounds_toArray, List.set_cons_zero, List.set_cons_succ]
  refine take_l 6 (v := ?_) rfl (by kernel_rfl) (by kernel_rfl) (by kernel_rfl) (fun _ _ _ h => h) (Or.inl ⟨by rfl, ?_⟩) hHeld ?_
  rotate_left
  · (intro w hSw; (try dsimp only at hSw); go_simp; (try with_reducible rfl))
  simp only [Act.put, List.setIfInBounds_toArray, List.set_cons_zero, List.set_cons_succ]
  refine take_l 7 (v := ?_) rfl (by kernel_rfl) (by kernel_rfl) (by kernel_rfl) (fun _ _ _ h => h) (Or.inl ⟨by rfl, ?_⟩) hHeld ?_
  rotate_left
  · (intro w hSw; (try dsimp only at hSw); go_simp; (try with_reducible rfl))
  simp only [Act.put, List.setIfInBounds_toArray, List.set_cons_zero, List.set_cons_succ]
  clear wu
  refine wpAnyH_ready (rs := [3, 5]) (by kernel_rfl) (by simp) ?_
  refine AllReadyH.cons rfl (fun K hK => ?_) (AllReadyH.cons rfl (fun K hK => ?_) AllReadyH.nil)
  · go_simp
    refine hK.out _ _ hHeld (fun _ => ?_)
    clear hK K
    refine wpAnyH_ready (rs := [5]) (by kernel_rfl) (by simp) ?_
    refine AllReadyH.cons rfl (fun K hK => ?_) AllReadyH.nil
    go_simp
    go_wp2_with fail
    refine (unhide HK).mono ?_
    clear HK
    rintro e w1 ⟨rfl, f1⟩
    have f01 : Still w w1 := (unhide HX).2.2.2.2.2.2.trans' f1 (fun _ x => x.elim)
    have hHeld1 : w1.cell? ⟨bs, 0, none⟩ = some (ptr sb) ∧ w1.cell? ⟨bh, 0, none⟩ = some (ptr hb) ∧ w1.cell? ⟨bi, 0, none⟩ = some (.int .i64 (i : Nat)) := ⟨f01.cell' cs (fun x => x), f01.cell' ch (fun x => x), f01.cell' ci (fun x => x)⟩
    refine hK.out _ _ hHeld1 (fun _ => ?_)
    clear hK K f1
    have hS1 := hHeld1
    refine wpAnyH_ready (rs := [8]) (by kernel_rfl) (by simp) ?_
    refine AllReadyH.cons rfl (fun K hK => ?_) AllReadyH.nil
    go_simp
    go_wp2_with fail
    refine (unhide HP w1 f01).mono ?_
    rintro e w2 ⟨r', rfl, T2, P2, Q2, k2, hk2, o2, l2, ch2, hr2, rt2⟩
    obtain ⟨h, t, hl, hP, hnu, Br, fD⟩ := unhide HX
    have h2 := (h.still f01).call o2
    have o02 : Onx w sb b T w2 T2 sz A P2 false := o2.after f01
    have nt2 : ∀ k, k = bs ∨ k = bh ∨ k = br ∨ k = bi → ¬ tfoot sb b T2 k := fun k hk => o02.other (by rcases hk with rfl | rfl | rfl | rfl <;> assumption) (unhide HNT k hk)
    have cs2 : w2.cell? ⟨bs, 0, none⟩ = some (ptr sb) := o02.fr.cell' cs (unhide HNT bs (by simp))
    have ch2' : w2.cell? ⟨bh, 0, none⟩ = some (ptr hb) := o02.fr.cell' ch (unhide HNT bh (by simp))
    have ci2 : w2.cell? ⟨bi, 0, none⟩ = some (.int .i64 (i : Nat)) := o02.fr.cell' ci (unhide HNT bi (by simp))
    have Br2 := Br.kept o02.fr (unhide HNT br (by simp))
    obtain ⟨W3, hW3⟩ : ∃ W3, w2.setCell ⟨br, 0, none⟩ (.int .u64 (r' : Nat)) = W3 := ⟨_, rfl⟩
    have f3 : Fr (fun k => k = br) w2 W3 := hW3 ▸ Fr.box w2 br _
    have Br3 : RtO W3 br r' := hW3 ▸ Br2.set _
    have cs3 : W3.cell? ⟨bs, 0, none⟩ = some (ptr sb) := f3.cell' cs2 ne.1
    have ch3 : W3.cell? ⟨bh, 0, none⟩ = some (ptr hb) := f3.cell' ch2' ne.2.1
    have ci3 : W3.cell? ⟨bi, 0, none⟩ = some (.int .i64 (i : Nat)) := f3.cell' ci2 ne.2.2.1
    have h3 := h2.turn f3 (fun k hk => by rw [hk]; exact nt2 br (by simp)) ne.2.2.2.1 ne.2.2.2.2
    have ri2 : Rise (putP L (kyB i) i) := putP_rise t.ri
    have pk2 : Pok (putP L (kyB i) i) := t.pk.put (by rw [kyB_size]; omega) (by omega)
    have ln2 := putP_len (kyB i) i L
    obtain ⟨W4, hW4⟩ : ∃ W4, W3.alloc (.cells #[.int .u64 (r' : Nat), .slice none 0 0] 35) = W4 := ⟨_, rfl⟩
    have f4 : Still W3 W4 := hW4 ▸ (Fr.refl _ W3).alloc _
    have SL := sl_root W3 W4 r' hW4
    have few2 := ch2.few
    have cn := t.cnt
    have SW := t_sweepR (h3.still f4) ch2.st (some ⟨W3.heap.size, 0, none⟩) 1 [(r', .slice none 0 0)] [Q2] SL rfl (fun j p Q' h1 h2 => by
      match j, h1, h2 with
      | 0, h1, h2 =>
        cases (Option.some.inj h1); cases (Option.some.inj h2)
        exact ⟨_, rt2, ri2, by omega⟩
      | j + 1, h1, _ => simp at h1) (by simp) (by omega)
    have HSW := hide SW
    have HE := hide (show ∀ w5 g, To sz W4 sb b T2 A w5 g (P2.length + 10 * cnt nu (ask nu (says P2 A))) → HpS nu g → (∀ u, ask nu g u = if u ∈ [Q2].flatten then ask nu (says P2 A) u else 0) → (∀ i, fi nu ≤ i → g i = says P2 A i) → PutG nu sz (fun k => k = br) w sb b T A (RtO · br ·) (putP L (kyB i) i) w5 from fun w5 g tg sg ak ke => by
      obtain ⟨T5, P5, o5, e5, l5⟩ := tg
      subst e5
      have sw : Swp nu (says P2 A) (says P5 A) Q2 := ⟨sg, fun u => by rw [ak]; simp, ke⟩
      refine ⟨T5, P5, r', Q2, (((OnxX.of o02).var f3 (fun k hk => hk) (fun k hk => by rw [hk]; exact nt2 br (by simp))).quiet f4).trans o5, ?_, hr2, t.put rt2 sw ri2 pk2⟩
      exact (Br3.kept f4 (fun x => x)).kept o5.fr (nt2 br (by simp)))
    have c3 : W3.cell? ⟨br, 0, none⟩ = some (.int .u64 (r' : Nat)) := cell_of_obj Br3.o 0
    have c3b : W3.cell? ⟨br, 1, none⟩ = some (.slice none 0 0) := cell_of_obj Br3.o 1
    have c2 : w2.cell? ⟨br, 0, none⟩ = some (.int .u64 (r : Nat)) := cell_of_obj Br2.o 0
    have z2 : w2.frozen? ⟨br, 0, none⟩ = false := by simp [World.frozen?, Br2.o]
    have HW3 := hide hW3; have HW4 := hide hW4
    refine hK.out _ _ ⟨cs2, ch2', ci2⟩ (fun _ => ?_)
    clear hK K
    refine wpAnyH_ready (rs := [9]) (by kernel_rfl) (by simp) ?_
    refine AllReadyH.cons rfl (fun K hK => ?_) AllReadyH.nil
    go_simp
    refine hK.out _ _ ⟨cs2, ch2', ci2⟩ (fun _ => ?_)
    clear hK K SW h2 o02 o2 nt2 f3 h3 ri2 pk2 ln2 few2 cn f4 SL hW4 h t hl hP hnu Br Br2 Br3 fD l2 ch2 hr2 rt2 hk2 HX HP HNT cs2 ch2' ci2 hS1 hW3
    refine wpAnyH_ready (rs := [10]) (by kernel_rfl) (by simp) ?_
    refine AllReadyH.cons rfl (fun K hK => ?_) AllReadyH.nil
    go_simp
    rw [unhide HW3]
    refine hK.out _ _ ⟨cs3, ch3, ci3⟩ (fun _ => ?_)
    clear hK K c2 z2
    refine wpAnyH_done (by kernel_rfl) ?_ _
    go_wp2_with fail
    rw [unhide HW4]
    refine (unhide HSW).mono ?_
    rintro e w5 ⟨rfl, g, tg, sg, ak, ke, -⟩
    have HQ := hide (unhide HE w5 g tg sg ak ke)
    clear HSW HE tg sg ak ke
    go_wp2_with fail
    go_end0
    exact ⟨rfl, unhide HQ⟩
  · go_simp
    go_wp2_with fail
    refine (unhide HK).mono ?_
    clear HK
    rintro e w1 ⟨rfl, f1⟩
    have f01 : Still w w1 := (unhide HX).2.2.2.2.2.2.trans' f1 (fun _ x => x.elim)
    have hHeld1 : w1.cell? ⟨bs, 0, none⟩ = some (ptr sb) ∧ w1.cell? ⟨bh, 0, none⟩ = some (ptr hb) ∧ w1.cell? ⟨bi, 0, none⟩ = some (.int .i64 (i : Nat)) := ⟨f01.cell' cs (fun x => x), f01.cell' ch (fun x => x), f01.cell' ci (fun x => x)⟩
    have cr1 : w1.cell? ⟨br, 0, none⟩ = some (.int .u64 (r : Nat)) := f01.cell' cr (fun x => x)
    refine hK.out _ _ hHeld1 (fun _ => ?_)
    clear hK K f1
    refine wpAnyH_ready (rs := [3]) (by kernel_rfl) (by simp) ?_
    refine AllReadyH.cons rfl (fun K hK => ?_) AllReadyH.nil
    go_simp
    refine hK.out _ _ hHeld1 (fun _ => ?_)
    clear hK K cr1
    have hS1 := hHeld1
    refine wpAnyH_ready (rs := [8]) (by kernel_rfl) (by simp) ?_
    refine AllReadyH.cons rfl (fun K hK => ?_) AllReadyH.nil
    go_simp
    go_wp2_with fail
    refine (unhide HP w1 f01).mono ?_
    rintro e w2 ⟨r', rfl, T2, P2, Q2, k2, hk2, o2, l2, ch2, hr2, rt2⟩
    obtain ⟨h, t, hl, hP, hnu, Br, fD⟩ := unhide HX
    have h2 := (h.still f01).call o2
    have o02 : Onx w sb b T w2 T2 sz A P2 false := o2.after f01
    have nt2 : ∀ k, k = bs ∨ k = bh ∨ k = br ∨ k = bi → ¬ tfoot sb b T2 k := fun k hk => o02.other (by rcases hk with rfl | rfl | rfl | rfl <;> assumption) (unhide HNT k hk)
    have cs2 : w2.cell? ⟨bs, 0, none⟩ = some (ptr sb) := o02.fr.cell' cs (unhide HNT bs (by simp))
    have ch2' : w2.cell? ⟨bh, 0, none⟩ = some (ptr hb) := o02.fr.cell' ch (unhide HNT bh (by simp))
    have ci2 : w2.cell? ⟨bi, 0, none⟩ = some (.int .i64 (i : Nat)) := o02.fr.cell' ci (unhide HNT bi (by simp))
    have Br2 := Br.kept o02.fr (unhide HNT br (by simp))
    obtain ⟨W3, hW3⟩ : ∃ W3, w2.setCell ⟨br, 0, none⟩ (.int .u64 (r' : Nat)) = W3 := ⟨_, rfl⟩
    have f3 : Fr (fun k => k = br) w2 W3 := hW3 ▸ Fr.box w2 br _
    have Br3 : RtO W3 br r' := hW3 ▸ Br2.set _
    have cs3 : W3.cell? ⟨bs, 0, none⟩ = some (ptr sb) := f3.cell' cs2 ne.1
    have ch3 : W3.cell? ⟨bh, 0, none⟩ = some (ptr hb) := f3.cell' ch2' ne.2.1
    have ci3 : W3.cell? ⟨bi, 0, none⟩ = some (.int .i64 (i : Nat)) := f3.cell' ci2 ne.2.2.1
    have h3 := h2.turn f3 (fun k hk => by rw [hk]; exact nt2 br (by simp)) ne.2.2.2.1 ne.2.2.2.2
    have ri2 : Rise (putP L (kyB i) i) := putP_rise t.ri
    have pk2 : Pok (putP L (kyB i) i) := t.pk.put (by rw [kyB_size]; omega) (by omega)
    have ln2 := putP_len (kyB i) i L
    obtain ⟨W4, hW4⟩ : ∃ W4, W3.alloc (.cells #[.int .u64 (r' : Nat), .slice none 0 0] 35) = W4 := ⟨_, rfl⟩
    have f4 : Still W3 W4 := hW4 ▸ (Fr.refl _ W3).alloc _
    have SL := sl_root W3 W4 r' hW4
    have few2 := ch2.few
    have cn := t.cnt
    have SW := t_sweepR (h3.still f4) ch2.st (some ⟨W3.heap.size, 0, none⟩) 1 [(r', .slice none 0 0)] [Q2] SL rfl (fun j p Q' h1 h2 => by
      match j, h1, h2 with
      | 0, h1, h2 =>
        cases (Option.some.inj h1); cases (Option.some.inj h2)
        exact ⟨_, rt2, ri2, by omega⟩
      | j + 1, h1, _ => simp at h1) (by simp) (by omega)
    have HSW := hide SW
    have HE := hide (show ∀ w5 g, To sz W4 sb b T2 A w5 g (P2.length + 10 * cnt nu (ask nu (says P2 A))) → HpS nu g → (∀ u, ask nu g u = if u ∈ [Q2].flatten then ask nu (says P2 A) u else 0) → (∀ i, fi nu ≤ i → g i = says P2 A i) → PutG nu sz (fun k => k = br) w sb b T A (RtO · br ·) (putP L (kyB i) i) w5 from fun w5 g tg sg ak ke => by
      obtain ⟨T5, P5, o5, e5, l5⟩ := tg
      subst e5
      have sw : Swp nu (says P2 A) (says P5 A) Q2 := ⟨sg, fun u => by rw [ak]; simp, ke⟩
      refine ⟨T5, P5, r', Q2, (((OnxX.of o02).var f3 (fun k hk => hk) (fun k hk => by rw [hk]; exact nt2 br (by simp))).quiet f4).trans o5, ?_, hr2, t.put rt2 sw ri2 pk2⟩
      exact (Br3.kept f4 (fun x => x)).kept o5.fr (nt2 br (by simp)))
    have c3 : W3.cell? ⟨br, 0, none⟩ = some (.int .u64 (r' : Nat)) := cell_of_obj Br3.o 0
    have c3b : W3.cell? ⟨br, 1, none⟩ = some (.slice none 0 0) := cell_of_obj Br3.o 1
    have c2 : w2.cell? ⟨br, 0, none⟩ = some (.int .u64 (r : Nat)) := cell_of_obj Br2.o 0
    have z2 : w2.frozen? ⟨br, 0, none⟩ = false := by simp [World.frozen?, Br2.o]
    have HW3 := hide hW3; have HW4 := hide hW4
    refine hK.out _ _ ⟨cs2, ch2', ci2⟩ (fun _ => ?_)
    clear hK K
    refine wpAnyH_ready (rs := [9]) (by kernel_rfl) (by simp) ?_
    refine AllReadyH.cons rfl (fun K hK => ?_) AllReadyH.nil
    go_simp
    refine hK.out _ _ ⟨cs2, ch2', ci2⟩ (fun _ => ?_)
    clear hK K SW h2 o02 o2 nt2 f3 h3 ri2 pk2 ln2 few2 cn f4 SL hW4 h t hl hP hnu Br Br2 Br3 fD l2 ch2 hr2 rt2 hk2 HX HP HNT cs2 ch2' ci2 hS1 hW3
    refine wpAnyH_ready (rs := [10]) (by kernel_rfl) (by simp) ?_
    refine AllReadyH.cons rfl (fun K hK => ?_) AllReadyH.nil
    go_simp
    rw [unhide HW3]
    refine hK.out _ _ ⟨cs3, ch3, ci3⟩ (fun _ => ?_)
    clear hK K c2 z2
    refine wpAnyH_done (by kernel_rfl) ?_ _
    go_wp2_with fail
    rw [unhide HW4]
    refine (unhide HSW).mono ?_
    rintro e w5 ⟨rfl, g, tg, sg, ak, ke, -⟩
    have HQ := hide (unhide HE w5 g tg sg ak ke)
    clear HSW HE tg sg ak ke
    go_wp2_with fail
    go_end0
    exact ⟨rfl, unhide HQ⟩
end
end
end Go.Proofs.YtkaplgmjdfmpmaaGreatDoor
