/- Joined: Kk InK. -/
import Derived.Deep.Slices
import Derived.ChangeSame
import Derived.ChangeArms
import Derived.ChangeSlices
import Derived.Test.YtkaplgmjdfmpmaaGreatDoorQ04
import Derived.Test.YtkaplgmjdfmpmaaGreatDoorQ32
namespace Go.Proofs.YtkaplgmjdfmpmaaGreatDoor
open Go.RowKit

section
section
variable {nu sz : Nat} {w w' w0 : World} {hb sb b : Nat} {T : Tay} {A : Ab} {P : List (Int × Int)}
theorem y_PiecesR (hp : Hp nu sz w hb sb b T A P) (s : HpS nu (says P A)) {r : Nat} {l : List Pr} {Q : List Nat} (rt : Rt nu sz (says P A) r l Q) (ri : Rise l) (hl : l.length ≤ 400) :
    Calls Tryz.prog 37 #[ptr sb, ptr hb, .int .u64 (r : Nat)] w fun e w' => ∃ (a : Option Addr) (cap : Nat) (ts : List Int), e = .returned (.slice a ts.length cap) ∧ (∀ x, x ∈ ts ↔ ∃ v ∈ Q, x = ((fi nu + 8 * v : Nat) : Int)) ∧ ts.length = Q.length ∧ w'.ownsRow w.heap.size 3 1 (.slice a ts.length cap) ts.length (ts.map (Value.int .i64)) ∧ Still w w' := by
  rcases rt with ⟨rfl, rfl, rfl⟩ | ⟨h, u, rfl, t⟩
  · refine (y_Pieces0 sb hb w).mono ?_
    rintro e w' ⟨rfl, f⟩
    exact ⟨none, 0, [], rfl, fun x => by simp, rfl, World.ownsRow_nil _ _ _ _, f⟩
  · refine (y_Pieces hp s t ri hl).mono ?_
    rintro e w' ⟨g, cap, ts, rfl, h1, h2, h3, h4⟩
    exact ⟨_, cap, ts, rfl, h1, h2, h3, h4⟩
structure RqR (nu sz : Nat) (f : Nat → Int) (r : Nat) (Q : List Nat) : Prop where
  t : ∃ l, Rt nu sz f r l Q ∧ Rise l ∧ l.length ≤ 400

set_option maxRecDepth 100000 in
set_option maxHeartbeats 4000000 in
theorem t_sweepR (hp : Hp nu sz w hb sb b T A P) (s : HpS nu (says P A)) (a : Option Addr) (c : Nat) (rs : List (Nat × Value)) (Qs : List (List Nat)) (hS : Sl w 2 a rs.length c (rtcl rs)) (hq : Qs.length = rs.length) (hr : ∀ (i : Nat) (p : Nat × Value) (Q : List Nat), rs[i]? = some p → Qs[i]? = some Q → RqR nu sz (says P A) p.1 Q) (hn : rs.length ≤ 5) (hm : P.length + 10 * cnt nu (ask nu (says P A)) + 10 ≤ 6144) :
    Calls Tryz.prog 13 #[ptr sb, ptr hb, .slice a rs.length c] w fun e w' => e = .returned (.tuple #[]) ∧ ∃ g, To sz w sb b T A w' g (P.length + 10 * cnt nu (ask nu (says P A))) ∧ HpS nu g ∧ (∀ u, ask nu g u = if u ∈ Qs.flatten then ask nu (says P A) u else 0) ∧ (∀ i, fi nu ≤ i → g i = says P A i) ∧ ∀ i, 2 ≤ i → i < 18 → g i = says P A i := by
  obtain ⟨bl, hbl⟩ : ∃ bl, w.heap.size = bl := ⟨_, rfl⟩
  obtain ⟨W, hW⟩ : ∃ W, w.alloc (.cells #[.slice none 0 0] 45) = W := ⟨_, rfl⟩
  have fW : Still w W := hW ▸ (Fr.refl _ w).alloc _
  have oW : W.heap[bl]? = some (.cells #[.slice none 0 0] 45 (0, 0)) := by rw [← hbl, ← hW]; exact heap_alloc_new w _
  have HW := hide hW
  have HH := hide (And.intro hp (And.intro s (And.intro hS (And.intro hq (And.intro hr hm)))))
  have HF := hide fW
  clear hW hp s hS hq hr hm fW
  go_enter Tryz.func13, Tryz.ntmps13
  go_wp2_with fail
  rw [unhide HW]
  go_loopw [7] (fun iv wr => ∃ (j : Nat) (ts : List Int) (v : Value), j ≤ rs.length ∧ iv = .int .i64 j ∧ ts.length ≤ 800 * j ∧ Liv nu ts (Qs.take j).flatten ∧ wr.heap[bl]? = some (.cells #[v] 45 (0, 0)) ∧ wr.ownsRow (bl + 1) 3 1 v ts.length (ts.map (Value.int .i64)) ∧ Still w wr) (fun iv _ => rs.length - (intOf iv).toNat)
  case atStart => exact ⟨0, [], _, by omega, rfl, by simp, fun x => by simp, oW, World.ownsRow_nil _ _ _ _, unhide HF⟩
  case round =>
    obtain ⟨j, ts, v, hj, rfl, htl, liv, ov, row, fr⟩ := hrel
    generalize wr = wq at *
    clear wr
    by_cases hlt : j < rs.length
    · have hlt' : (j : Int) < rs.length := by omega
      obtain ⟨p, hp1⟩ : ∃ p, rs[j]? = some p := ⟨_, List.getElem?_eq_getElem hlt⟩
      obtain ⟨hp, s, hS, hq, hr, hm⟩ := unhide HH
      obtain ⟨Q, hQ⟩ : ∃ Q, Qs[j]? = some Q := ⟨_, List.getElem?_eq_getElem (by omega)⟩
      obtain ⟨l, rt, ri, hl⟩ := (hr j p Q hp1 hQ).t
      obtain ⟨b0, o0, rfl, cR0⟩ := hS.cells (j * 2) _ (rtcl_at hp1)
      have hb0 : b0 < bl := by rw [← hbl]; exact World.block_lt_of_cell? _ _ cR0
      have cR := fr.cell' cR0 (fun x => x)
      have cv : wq.cell? ⟨bl, 0, none⟩ = some v := cell_of_obj ov 0
      have zv : wq.frozen? ⟨bl, 0, none⟩ = false := by simp [World.frozen?, ov]
      have few := rt.few
      have PC : ∀ w', Still wq w' → Calls Tryz.prog 37 #[ptr sb, ptr hb, .int .u64 (p.1 : Nat)] w' _ := fun w' f' => by
        exact y_PiecesR ((hp.still fr).still f') s rt ri hl
      have HPC := @hide _ PC
      have ltb : bl < wq.heap.size := World.block_lt_of_cell? _ _ cv
      have HQ := @hide _ (fun (w2 : World) (gg : Option Addr) (cap : Nat) (ts2 : List Int) (f2 : Still wq w2) (h2 : ∀ x, x ∈ ts2 ↔ ∃ v ∈ Q, x = ((fi nu + 8 * v : Nat) : Int)) (h2l : ts2.length = Q.length) (h2r : w2.ownsRow wq.drew.heap.size 3 1 (.slice gg ts2.length cap) ts2.length (ts2.map (Value.int .i64))) => show ∃ v3 w3, (Builtin.append_ #[45, 45] 45 #[v, .slice gg ts2.length cap]).run Tryz.prog w2 = .ok v3 w3 ∧ ∃ va3 vc3, v3 = .slice va3 (ts.length + ts2.length) vc3 ∧ w3.cell? ⟨bl, 0, none⟩ = some v ∧ w3.frozen? ⟨bl, 0, none⟩ = false ∧ w3.cell? ⟨b0, o0 + j * 2, none⟩ = some (.int .u64 (p.1 : Nat)) ∧ (w3.setCell ⟨bl, 0, none⟩ v3).cell? ⟨b0, o0 + j * 2, none⟩ = some (.int .u64 (p.1 : Nat)) ∧ ((ts ++ ts2).length ≤ 800 * (j + 1) ∧ Liv nu (ts ++ ts2) (Qs.take (j + 1)).flatten ∧ (w3.setCell ⟨bl, 0, none⟩ v3).heap[bl]? = some (.cells #[v3] 45 (0, 0)) ∧ (w3.setCell ⟨bl, 0, none⟩ v3).ownsRow (bl + 1) 3 1 v3 (ts ++ ts2).length ((ts ++ ts2).map (Value.int .i64)) ∧ Still w (w3.setCell ⟨bl, 0, none⟩ v3)) from by
        have row2 := own_still row f2
        obtain ⟨v3, w3, hap, hw3, hgr, hloc⟩ := run_more elt_I 45 row2 (sl_of_row h2r (int_one ts2)) (by omega) (by have := f2.size; omega)
        obtain ⟨va3, vc3, e3⟩ := rows_form hw3
        have f3 : Fr (fun k => v.ownBlock = some k) w2 w3 := (Fr.refl _ w2).grown hgr (fun k hk => .inl hk)
        have nbl : v.ownBlock ≠ some bl := fun e => by have := (row.lt _ e).1; omega
        have nb0 : v.ownBlock ≠ some b0 := fun e => by have := (row.lt _ e).1; omega
        have ov3 := f3.obj (f2.obj ov (fun x => x)) nbl
        have cR3 := f3.cell' (f2.cell' cR (fun x => x)) nb0
        have fs : Fr (fun k => k = bl) w3 (w3.setCell ⟨bl, 0, none⟩ v3) := (Fr.refl (fun k => k = bl) w3).setCell (.inl rfl) _
        refine ⟨v3, w3, hap, va3, vc3, e3, cell_of_obj ov3 0, by simp [World.frozen?, ov3], cR3, fs.cell' cR3 (show b0 ≠ bl by omega), by rw [List.length_append]; omega, fun x => ?_, heap_setCell_same w3 bl 0 _ _ v3 ov3, ?_, ?_⟩
        · rw [List.mem_append, liv, h2, List.take_add_one, hQ]
          simp only [Option.toList_some, List.flatten_append, List.flatten_cons, List.flatten_nil, List.append_nil, List.mem_append]
          constructor
          · rintro (⟨y, h1, h2⟩ | ⟨y, h1, h2⟩)
            · exact ⟨y, .inl h1, h2⟩
            · exact ⟨y, .inr h1, h2⟩
          · rintro ⟨y, h1 | h1, h2⟩
            · exact .inl ⟨y, h1, h2⟩
            · exact .inr ⟨y, h1, h2⟩
        · rw [List.length_append, List.map_append]
          exact ownsRow_setCell_other hw3 (fun e => by have := (hw3.lt _ e).1; have e2 : bl + 1 ≤ bl := this; omega) _
        · refine (((fr.trans' f2 (fun _ x => x.elim)).trans' f3 (fun k hk => .inr (by have := (row.lt k hk).1; omega)))).trans' fs (fun k hk => .inr (by rw [hk, ← hbl]; exact Nat.le_refl _)))
      have q0 : j * 2 = j * 2 := rfl
      have fD : Still wq wq.drew := (Fr.refl _ wq).drewN 1
      have cvd : wq.drew.cell? ⟨bl, 0, none⟩ = some v := cv
      have hj5 : j ≤ 5 := by omega
      clear PC hp s hS hq hr hm rt ri hl row liv htl few zv hp1 hQ fr ov cR0 q0
      generalize hnn : rs.length = n at *
      go_wp2_with fail
      refine wp_region_held_drew (S := fun w' => w'.cell? ⟨b0, o0 + j * 2, none⟩ = some (.int .u64 (p.1 : Nat))) (by kernel_rfl) cR (fun hHeld => ?_)
      refine take_l 1 (v := ?_) rfl (by kernel_rfl) (by kernel_rfl) (by kernel_rfl) (fun _ _ _ h => h) (Or.inl ⟨by rfl, ?_⟩) hHeld ?_
      rotate_left
      · (intro w hSw; (try dsimp only at hSw); go_simp; (try with_reducible rfl))
      simp only [Act.put, List.setIfInBounds_toArray, List.set_cons_zero, List.set_cons_succ]
      refine take_l 2 (v := ?_) rfl (by kernel_rfl) (by kernel_rfl) (by kernel_rfl) (fun _ _ _ h => h) (Or.inl ⟨by rfl, ?_⟩) hHeld ?_
      rotate_left
      · (intro w hSw; (try dsimp only at hSw); go_simp; (try with_reducible rfl))
      simp only [Act.put, List.setIfInBounds_toArray, List.set_cons_zero, List.set_cons_succ]
      refine take_l 3 (v := ?_) rfl (by kernel_rfl) (by kernel_rfl) (by kernel_rfl) (fun _ _ _ h => h) (Or.inl ⟨by rfl, ?_⟩) hHeld ?_
      rotate_left
      · (intro w hSw; (try dsimp only at hSw); go_simp; (try with_reducible rfl))
      simp only [Act.put, List.setIfInBounds_toArray, List.set_cons_zero, List.set_cons_succ]
      refine take_l 4 (v := ?_) rfl (by kernel_rfl) (by kernel_rfl) (by kernel_rfl) (fun _ _ _ h => h) (Or.inl ⟨by rfl, ?_⟩) hHeld ?_
      rotate_left
      · (intro w hSw; (try dsimp only at hSw); go_simp; (try with_reducible rfl))
      simp only [Act.put, List.setIfInBounds_toArray, List.set_cons_zero, List.set_cons_succ]
      refine take_l 5 (v := .pointer (some ⟨b0, o0 + j * 2, none⟩)) rfl (by kernel_rfl) (by kernel_rfl) (by kernel_rfl) (fun _ _ _ h => h) (Or.inl ⟨by rfl, ?_⟩) hHeld ?_
      · (intro w hSw; go_simp; (try with_reducible rfl))
      simp only [Act.put, List.setIfInBounds_toArray, List.set_cons_zero, List.set_cons_succ]
      refine take_l 6 (v := ?_) rfl (by kernel_rfl) (by kernel_rfl) (by kernel_rfl) (fun _ _ _ h => h) (Or.inl ⟨by rfl, ?_⟩) hHeld ?_
      rotate_left
      · (intro w hSw; (try dsimp only at hSw); go_simp; (try with_reducible rfl))
      simp only [Act.put, List.setIfInBounds_toArray, List.set_cons_zero, List.set_cons_succ]
      refine take_l 7 (v := .int .u64 (p.1 : Nat)) rfl (by kernel_rfl) (by kernel_rfl) (by kernel_rfl) (fun _ _ _ h => h) (Or.inl ⟨by rfl, ?_⟩) hHeld ?_
      · (intro w hSw; (try dsimp only at hSw); go_simp; (try with_reducible rfl))
      simp only [Act.put, List.setIfInBounds_toArray, List.set_cons_zero, List.set_cons_succ]
      clear hHeld
      refine wpAnyH_ready (rs := [0, 8]) (by kernel_rfl) (by simp) ?_
      refine AllReadyH.cons rfl (fun K hK => ?_) (AllReadyH.cons rfl (fun K hK => ?_) AllReadyH.nil)
      · go_simp
        refine hK.out _ _ cR (fun _ => ?_)
        clear hK K
        refine wpAnyH_ready (rs := [8]) (by kernel_rfl) (by simp) ?_
        refine AllReadyH.cons rfl (fun K hK => ?_) AllReadyH.nil
        go_simp
        go_wp2_with fail
        refine (unhide HPC _ fD).mono ?_
        rintro e w2 ⟨gg, cap, ts2, rfl, h2, h2l, h2r, f2d⟩
        have H2L := hide h2l
        clear h2l
        have f2 : Still wq w2 := fD.trans' f2d (fun _ x => x.elim)
        have cv2 := f2.cell' cv (fun x => x)
        refine hK.out _ _ (f2.cell' cR (fun x => x)) (fun _ => ?_)
        clear hK K
        obtain ⟨v3, w3, hap, FX⟩ := unhide HQ w2 gg cap ts2 f2 h2 (unhide H2L) h2r
        refine wpAnyH_ready (rs := [9]) (by kernel_rfl) (by simp) ?_
        refine AllReadyH.cons rfl (fun K hK => ?_) AllReadyH.nil
        refine stp_append rfl (.tmp 14) (.tmp 22) 45 rfl _ _ rfl rfl v3 w3 hap ?_
        obtain ⟨va3, vc3, rfl, y1, y2, y3, y4, y5⟩ := FX
        refine hK.out _ _ y3 (fun _ => ?_)
        clear hK K
        simp only [Act.put, List.setIfInBounds_toArray]
        refine wpAnyH_ready (rs := [10]) (by kernel_rfl) (by simp) ?_
        refine AllReadyH.cons rfl (fun K hK => ?_) AllReadyH.nil
        go_simp
        refine hK.out _ _ y4 (fun _ => ?_)
        clear hK K
        refine wpAnyH_done (by kernel_rfl) ?_ _
        have HY := hide y5
        clear y5 y1 y2 y3 y4 hap
        go_wp2_with fail
        obtain ⟨q1, q2, q3, q4, q5⟩ := unhide HY
        exact ⟨⟨j + 1, ts ++ ts2, _, by omega, by simp, q1, q2, q3, q4, q5⟩, by simp [intOf]; omega⟩
      · go_simp
        go_wp2_with fail
        refine (unhide HPC _ fD).mono ?_
        rintro e w2 ⟨gg, cap, ts2, rfl, h2, h2l, h2r, f2d⟩
        have H2L := hide h2l
        clear h2l
        have f2 : Still wq w2 := fD.trans' f2d (fun _ x => x.elim)
        have cv2 := f2.cell' cv (fun x => x)
        refine hK.out _ _ (f2.cell' cR (fun x => x)) (fun _ => ?_)
        clear hK K
        refine wpAnyH_ready (rs := [0]) (by kernel_rfl) (by simp) ?_
        refine AllReadyH.cons rfl (fun K hK => ?_) AllReadyH.nil
        go_simp
        refine hK.out _ _ (f2.cell' cR (fun x => x)) (fun _ => ?_)
        clear hK K
        obtain ⟨v3, w3, hap, FX⟩ := unhide HQ w2 gg cap ts2 f2 h2 (unhide H2L) h2r
        refine wpAnyH_ready (rs := [9]) (by kernel_rfl) (by simp) ?_
        refine AllReadyH.cons rfl (fun K hK => ?_) AllReadyH.nil
        refine stp_append rfl (.tmp 14) (.tmp 22) 45 rfl _ _ rfl rfl v3 w3 hap ?_
        obtain ⟨va3, vc3, rfl, y1, y2, y3, y4, y5⟩ := FX
        refine hK.out _ _ y3 (fun _ => ?_)
        clear hK K
        simp only [Act.put, List.setIfInBounds_toArray]
        refine wpAnyH_ready (rs := [10]) (by kernel_rfl) (by simp) ?_
        refine AllReadyH.cons rfl (fun K hK => ?_) AllReadyH.nil
        go_simp
        refine hK.out _ _ y4 (fun _ => ?_)
        clear hK K
        refine wpAnyH_done (by kernel_rfl) ?_ _
        have HY := hide y5
        clear y5 y1 y2 y3 y4 hap
        go_wp2_with fail
        obtain ⟨q1, q2, q3, q4, q5⟩ := unhide HY
        exact ⟨⟨j + 1, ts ++ ts2, _, by omega, by simp, q1, q2, q3, q4, q5⟩, by simp [intOf]; omega⟩
    · have e : j = rs.length := by omega
      subst e
      have hlt' : ¬ (rs.length : Int) < rs.length := by omega
      obtain ⟨hp, s, hS, hq, hr, hm⟩ := unhide HH
      have htk : Qs.take rs.length = Qs := by rw [← hq, List.take_length]
      rw [htk] at liv
      obtain ⟨va, vc, rfl⟩ := rows_form row
      have SL := sl_of_row row (int_one ts)
      have cv : wq.cell? ⟨bl, 0, none⟩ = some (.slice va ts.length vc) := cell_of_obj ov 0
      have SW := h_sweep (bl := bl) (hp.still fr) s (fun u => decide (u ∈ Qs.flatten)) hm (fun w' f' u hu => by
        refine (t_keep bl va vc ts w' (f'.cell' cv (fun x => x)) (SL.still f') (by omega) ((fi nu : Int) + (u : Int) * 8)).mono ?_
        rintro e w'' ⟨rfl, rfl⟩
        refine ⟨?_, ⟨0, rfl⟩⟩
        have hiff : ((fi nu : Int) + (u : Int) * 8) ∈ ts ↔ u ∈ Qs.flatten := by
          rw [liv]
          exact ⟨fun ⟨y, h1, h2⟩ => by
            have : y = u := by omega
            exact this ▸ h1, fun h => ⟨u, h, by omega⟩⟩
        rw [decide_eq_decide.2 hiff])
      have HSW := hide SW
      have HL := hide (And.intro fr hp)
      have HS0 := hide s
      clear SW SL cv row ov liv hp s hS hq hr hm fr
      generalize rs.length = n at *
      go_wp2_with fail
      refine (unhide HSW).mono ?_
      rintro e w5 ⟨k, rfl, hk, g, tg, sg, ak, ke, ro⟩
      go_wp2_with fail
      go_end0
      obtain ⟨fr, hp⟩ := unhide HL
      refine ⟨rfl, g, (tg.after fr).le ?_, sg, fun u => ?_, ke, ro⟩
      · have h1 := gone_len (fun u => decide (u ∈ Qs.flatten)) (plU (ask nu (says P A)) nu)
        have h2 : (plU (ask nu (says P A)) nu).length = cnt nu (ask nu (says P A)) := by rw [plU_len]; rfl
        omega
      · rw [ak]
        by_cases hu : u ∈ Qs.flatten
        · rw [if_pos hu, if_neg (fun hm => by
            have := (List.mem_filter.1 hm).2
            simp [hu] at this)]
        · rw [if_neg hu]
          by_cases h0 : ask nu (says P A) u = 0
          · split
            · rfl
            · exact h0
          · have hin : u ∈ goneU (fun u => decide (u ∈ Qs.flatten)) (plU (ask nu (says P A)) nu) := List.mem_filter.2 ⟨plU_mem.2 ⟨((unhide HS0).inv.asks u h0).1, h0⟩, by simp only [decide_eq_false hu]; rfl⟩
            rw [if_pos hin]
end
end

section
structure OpK where
  kd : Int
  key : ByteArray
  v : Nat
def OpsK (w : World) (a : Option Addr) (len : Nat) (z : Nat → OpK) : Prop :=
  ∀ k, k < len → (∃ xb xo, a = some ⟨xb, xo, none⟩ ∧ w.cell? ⟨xb, xo + k * 3, none⟩ = some (.int .i64 (z k).kd) ∧ w.cell? ⟨xb, xo + k * 3 + 1, none⟩ = some (.string (z k).key) ∧ w.cell? ⟨xb, xo + k * 3 + 2, none⟩ = some (.int .u64 ((z k).v : Nat))) ∧ (z k).v < 18446744073709551616
theorem OpsK.still {w w' : World} {a : Option Addr} {len : Nat} {z : Nat → OpK} (h : OpsK w a len z) (f : Still w w') : OpsK w' a len z := fun k hk => by
  obtain ⟨⟨xb, xo, e, c0, c1, c2⟩, hv⟩ := h k hk
  exact ⟨⟨xb, xo, e, f.cell' c0 (fun x => x), f.cell' c1 (fun x => x), f.cell' c2 (fun x => x)⟩, hv⟩

section
variable {H : Type} {enc : TypeId × Value → H} {P : Program} {w : World} {base : Nat} {held : Bool}

end

section
variable {H : Type} {enc : TypeId × Value → H} {w : World} {base : Nat} {held : Bool}

end
end
end Go.Proofs.YtkaplgmjdfmpmaaGreatDoor
