/- layOut, laidOut. -/
import Derived.Test.YtdgobaknbjlahaaGreatDoorGHe
namespace Go.Proofs.YtdgobaknbjlahaaGreatDoor
open Go.RowKit

/-- A heap's block with u units, of which the rest is laid out. -/
structure HpU (w : World) (hb sb u : Nat) (B : Nat → Int) (a f : Int) : Prop where
  c0 : w.cell? ⟨hb, 0, none⟩ = some (ptr sb)
  c1 : w.cell? ⟨hb, 1, none⟩ = some (.int .i64 u)
  cb : ∀ k, k < 7 → w.cell? ⟨hb, 2 + k, none⟩ = some (.int .i64 (B k))
  c9 : w.cell? ⟨hb, 9, none⟩ = some (.int .i64 a)
  c10 : w.cell? ⟨hb, 10, none⟩ = some (.int .i64 f)
  zs : ∀ o, w.frozen? ⟨hb, o, none⟩ = false

section
variable {nu sz : Nat} {w w' : World} {hb sb u : Nat} {B : Nat → Int} {a f : Int}
theorem HpU.setB (h : HpU w hb sb u B a f) (k : Nat) (hk : k < 7) (v : Int) : HpU (w.setCell ⟨hb, 2 + k, none⟩ (.int .i64 v)) hb sb u (upd B k v) a f := by
  have o : ∀ i, i ≠ 2 + k → (w.setCell ⟨hb, 2 + k, none⟩ (.int .i64 v)).cell? ⟨hb, i, none⟩ = w.cell? ⟨hb, i, none⟩ := fun i hi => World.cell?_setCell_other _ _ _ _ (by simp <;> omega)
  refine ⟨by rw [o 0 (by omega)]; exact h.c0, by rw [o 1 (by omega)]; exact h.c1, fun j hj => ?_, by rw [o 9 (by omega)]; exact h.c9, by rw [o 10 (by omega)]; exact h.c10, fun i => by rw [World.frozen?_setCell]; exact h.zs i⟩
  by_cases e : j = k
  · subst e; rw [upd_same]; exact World.cell?_setCell_same _ _ _ (h.cb j hj)
  · rw [o (2 + j) (by omega), upd_other _ _ e]; exact h.cb j hj
theorem HpU.setA (h : HpU w hb sb u B a f) (v : Int) : HpU (w.setCell ⟨hb, 9, none⟩ (.int .i64 v)) hb sb u B v f := by
  have o : ∀ i, i ≠ 9 → (w.setCell ⟨hb, 9, none⟩ (.int .i64 v)).cell? ⟨hb, i, none⟩ = w.cell? ⟨hb, i, none⟩ := fun i hi => World.cell?_setCell_other _ _ _ _ (by simp <;> omega)
  exact ⟨by rw [o 0 (by omega)]; exact h.c0, by rw [o 1 (by omega)]; exact h.c1, fun j hj => by rw [o _ (by omega)]; exact h.cb j hj, World.cell?_setCell_same _ _ _ h.c9, by rw [o 10 (by omega)]; exact h.c10, fun i => by rw [World.frozen?_setCell]; exact h.zs i⟩
theorem HpU.setF (h : HpU w hb sb u B a f) (v : Int) : HpU (w.setCell ⟨hb, 10, none⟩ (.int .i64 v)) hb sb u B a v := by
  have o : ∀ i, i ≠ 10 → (w.setCell ⟨hb, 10, none⟩ (.int .i64 v)).cell? ⟨hb, i, none⟩ = w.cell? ⟨hb, i, none⟩ := fun i hi => World.cell?_setCell_other _ _ _ _ (by simp <;> omega)
  exact ⟨by rw [o 0 (by omega)]; exact h.c0, by rw [o 1 (by omega)]; exact h.c1, fun j hj => by rw [o _ (by omega)]; exact h.cb j hj, by rw [o 9 (by omega)]; exact h.c9, World.cell?_setCell_same _ _ _ h.c10, fun i => by rw [World.frozen?_setCell]; exact h.zs i⟩
theorem HpU.setU (h : HpU w hb sb u B a f) (v : Nat) : HpU (w.setCell ⟨hb, 1, none⟩ (.int .i64 v)) hb sb v B a f := by
  have o : ∀ i, i ≠ 1 → (w.setCell ⟨hb, 1, none⟩ (.int .i64 v)).cell? ⟨hb, i, none⟩ = w.cell? ⟨hb, i, none⟩ := fun i hi => World.cell?_setCell_other _ _ _ _ (by simp <;> omega)
  exact ⟨by rw [o 0 (by omega)]; exact h.c0, World.cell?_setCell_same _ _ _ h.c1, fun j hj => by rw [o _ (by omega)]; exact h.cb j hj, by rw [o 9 (by omega)]; exact h.c9, by rw [o 10 (by omega)]; exact h.c10, fun i => by rw [World.frozen?_setCell]; exact h.zs i⟩
theorem HpU.still (h : HpU w hb sb u B a f) (hf : Still w w') : HpU w' hb sb u B a f :=
  ⟨hf.cell' h.c0 (fun x => x), hf.cell' h.c1 (fun x => x), fun k hk => hf.cell' (h.cb k hk) (fun x => x), hf.cell' h.c9 (fun x => x), hf.cell' h.c10 (fun x => x),
    fun o => by rw [World.frozen?_of_block (a := ⟨hb, o, none⟩) (hf.block hb (World.block_lt_of_cell? _ _ h.c0) (fun x => x))]; exact h.zs o⟩

set_option maxRecDepth 20000 in
set_option maxHeartbeats 2000000 in
theorem h_layOut (h : HpU w hb sb u B a f) (h2 : u ≤ 8000) :
    Calls Tryz.prog 84 #[ptr hb] w fun e w' => e = .returned (.tuple #[]) ∧ HpU w' hb sb u (fun k => (Bw u k : Int)) (aw u) (fi u) ∧ Fr (fun k => k = hb) w w' := by
  have HH := hide h
  clear h
  go_enter Tryz.func84, Tryz.ntmps84
  go_wp2_with fail
  go_loopw [4, 2] (fun i p wr => ∃ k : Nat, k ≤ 7 ∧ i = .int .i64 k ∧ p = .int .i64 (Bw u k) ∧ ∃ B', HpU wr hb sb u B' a f ∧ (∀ j, j < k → B' j = Bw u j) ∧ Fr (fun k => k = hb) w wr) (fun i p wr => 7 - (intOf i).toNat)
  case atStart => exact ⟨0, by omega, rfl, rfl, B, unhide HH, fun j hj => by omega, Fr.refl _ w⟩
  case round =>
    obtain ⟨k, hk, rfl, rfl, B', hu, hB, hf⟩ := hrel
    by_cases hk7 : k < 7
    · have b36 : Bw u k ≤ 300 := by have := Bw_mono (nu := u) hk7; have := aw_le h2; unfold aw at this; omega
      have st := hu.setB k hk7 (Bw u k)
      have ck := hu.cb k hk7; have zk := hu.zs (2 + k)
      have hs : Bw u (k + 1) = Bw u k + gr u k := rfl
      have BK := h_blocks hb k hk7 _ h2 st.c1
      have GR := h_groups ((u / 2 ^ k : Nat) : Int) 64 (Int.natCast_nonneg _) (by have : u / 2 ^ k ≤ u := Nat.div_le_self _ _; omega) (by omega) (by omega) (wr.setCell ⟨hb, 2 + k, none⟩ (.int .i64 (Bw u k)))
      rw [gr_eq hk7] at GR
      obtain ⟨n, hn⟩ : ∃ n, u / 2 ^ k = n := ⟨_, rfl⟩
      rw [hn] at BK GR
      have g8 : gr u k ≤ 126 := by have := gr_le' u k; omega
      have HX := hide (And.intro st (And.intro hB hf)); have HHS := hide hs
      have hbk : ∃ bk, Bw u k = bk := ⟨_, rfl⟩
      clear hu st hB hf hn hs
      obtain ⟨bk, hbk⟩ := hbk
      have HB0 := hide hbk
      rw [hbk] at b36 BK GR HX HHS
      rw [hbk]
      clear hbk
      have hgr : ∃ gk, gr u k = gk := ⟨_, rfl⟩
      obtain ⟨gk, hgk⟩ := hgr
      rw [hgk] at g8 GR HHS
      clear hgk
      go_wp2_with (first | (go_at_call 105; refine BK.mono ?_; rintro e w' ⟨rfl, hh⟩; replace hh := hh.symm; subst hh) | (go_at_call 103; refine GR.mono ?_; rintro e w' ⟨rfl, hh⟩; replace hh := hh.symm; subst hh) | fail)
      obtain ⟨st, hB, hf⟩ := unhide HX
      refine ⟨⟨k + 1, by omega, by go_num, by rw [unhide HHS]; simp, _, st, fun j hj => ?_, hf.setCell (.inl rfl) _⟩, by simp [intOf]; omega⟩
      by_cases e : j = k
      · subst e; rw [upd_same, unhide HB0]
      · rw [upd_other _ _ e]; exact hB j (by omega)
    · have : k = 7 := by omega
      subst this
      obtain ⟨a7, ha7⟩ : ∃ a7, aw u = a7 := ⟨_, rfl⟩
      have ha3 := aw_le h2
      have q7 : Bw u 7 = a7 := ha7
      rw [ha7] at ha3
      have st1 := hu.setA a7
      have G1 := h_groups u 4 (by omega) (by omega) (by omega) (by omega) (wr.setCell ⟨hb, 9, none⟩ (.int .i64 a7))
      have e1 : ((u : Int) + 4 - 1) / 4 = ((u + 3) / 4 : Nat) := by omega
      rw [e1] at G1
      have c9 := hu.c9; have z9 := hu.zs 9; have c1 := st1.c1
      obtain ⟨n, hn⟩ : ∃ n, (u + 3) / 4 = n := ⟨_, rfl⟩
      have hn5 : n ≤ 2001 := by omega
      rw [hn] at G1
      have G2 := h_groups ((a7 : Int) + (n : Int)) 8 (by omega) (by omega) (by omega) (by omega) (wr.setCell ⟨hb, 9, none⟩ (.int .i64 a7))
      have e2 : ((a7 : Int) + (n : Int) + 8 - 1) / 8 = ((a7 + n + 7) / 8 : Nat) := by omega
      rw [e2] at G2
      obtain ⟨m, hm⟩ : ∃ m, (a7 + n + 7) / 8 = m := ⟨_, rfl⟩
      have hm5 : m ≤ 400 := by omega
      rw [hm] at G2
      have st2 := st1.setF ((m : Int) * 8)
      have c10 := st1.c10; have z10 := st1.zs 10
      have hfst : fi u = m * 8 := by unfold fi qa; rw [ha7, hn, hm]
      have HX := hide (And.intro st2 (And.intro hB hf)); have HFS := hide hfst; have HA7 := hide ha7
      clear hu st1 st2 hB hf hn hm e1 e2 hfst ha7
      rw [q7]
      clear q7
      go_wp2_with fail
      refine G1.mono ?_
      rintro e w' ⟨rfl, hh⟩
      replace hh := hh.symm
      subst hh
      clear G1
      go_wp2_with fail
      refine G2.mono ?_
      rintro e w' ⟨rfl, hh⟩
      replace hh := hh.symm
      subst hh
      clear G2
      go_wp2
      go_end0
      obtain ⟨st, hB, hf⟩ := unhide HX
      refine ⟨rfl, ⟨st.c0, st.c1, fun k hk => by rw [← hB k hk]; exact st.cb k hk, by rw [unhide HA7]; exact st.c9, ?_, st.zs⟩, (hf.setCell (.inl rfl) _).setCell (.inl rfl) _⟩
      rw [unhide HFS]
      have := st.c10
      simpa using this

def unitsOf (w : World) (hb : Nat) : Nat := match w.cell? ⟨hb, 1, none⟩ with | some (.int _ z) => z.toNat | _ => 0
theorem HpU.units (h : HpU w hb sb u B a f) : unitsOf w hb = u := by unfold unitsOf; rw [h.c1]; simp

set_option maxRecDepth 20000 in
set_option maxHeartbeats 2000000 in
theorem h_laidOut (G : Geo nu sz) (c2 : w.cell? ⟨sb, 2, none⟩ = some (.int .i64 sz)) :
    Calls Tryz.prog 47 #[ptr sb] w fun e w' => e = .returned (ptr w.heap.size) ∧ HpU w' w.heap.size sb nu (fun k => (Bw nu k : Int)) (aw nu) (fi nu) ∧ Still w w' ∧ w.heap.size < w'.heap.size := by
  have SZ : Calls Tryz.prog 46 #[ptr sb] w fun e w' => e = .returned (.int .i64 sz) ∧ w' = w := t_size (n := sz) c2
  obtain ⟨W, hW⟩ : ∃ W, w.alloc (.cells #[ptr sb, .int .i64 ((sz : Int) / 8), .int .i64 0, .int .i64 0, .int .i64 0, .int .i64 0, .int .i64 0, .int .i64 0, .int .i64 0, .int .i64 0, .int .i64 0] 82) = W := ⟨_, rfl⟩
  have fW : Still w W := hW ▸ (Fr.refl _ w).alloc _
  have zW : W.heap.size = w.heap.size + 1 := by rw [← hW]; simp
  have bW : W.heap[w.heap.size]? = some (.cells #[ptr sb, .int .i64 ((sz : Int) / 8), .int .i64 0, .int .i64 0, .int .i64 0, .int .i64 0, .int .i64 0, .int .i64 0, .int .i64 0, .int .i64 0, .int .i64 0] 82 (0, 0)) := hW ▸ heap_alloc_new w _
  have hU : HpU W w.heap.size sb (sz / 8) (fun _ => 0) 0 0 := by
    refine ⟨by rw [cell_of_obj bW]; rfl, by rw [cell_of_obj bW]; simp, fun k hk => ?_, by rw [cell_of_obj bW]; rfl, by rw [cell_of_obj bW]; rfl, fun o => by unfold World.frozen?; rw [bW]; simp⟩
    rw [cell_of_obj bW]
    rcases lt7 hk with rfl | rfl | rfl | rfl | rfl | rfl | rfl <;> rfl
  obtain ⟨g1, g2, g3, g4, g5, g6⟩ := G.b
  have LO := h_layOut hU (by omega)
  have HLO := hide LO; have HFW := hide fW; have HW := hide hW; have HZW := hide zW
  have hsb : sb < w.heap.size := World.block_lt_of_cell? _ _ c2
  have c2W : W.cell? ⟨sb, 2, none⟩ = some (.int .i64 sz) := fW.cell' c2 (fun x => x)
  clear LO fW hW bW hU zW
  go_enter Tryz.func47, Tryz.ntmps47
  go_wp2_with (first | (go_at_call 46; refine SZ.mono ?_; rintro e w' ⟨rfl, hh⟩; replace hh := hh.symm; subst hh) | fail)
  rw [unhide HW]
  refine (unhide HLO).mono ?_
  clear HLO SZ
  rintro e w1 ⟨rfl, hu1, hf1⟩
  have HX1 := hide (And.intro hu1 hf1)
  clear hu1 hf1
  go_wp2_with fail
  go_loopw [12] (fun p wr => ∃ u, nu ≤ u ∧ u ≤ sz / 8 ∧ HpU wr w.heap.size sb u (fun k => (Bw u k : Int)) (aw u) (fi u) ∧ Fr (fun k => k = w.heap.size) W wr) (fun p wr => unitsOf wr w.heap.size)
  case atStart => exact ⟨sz / 8, by omega, by omega, (unhide HX1).1, (unhide HX1).2⟩
  case round =>
    clear HX1
    obtain ⟨u, hu1, hu2, hu, hf⟩ := hrel
    have AL : ∀ q, Calls Tryz.prog 85 #[ptr w.heap.size] (wr.drewN q) _ := fun q => h_all w.heap.size u (by omega) (wr.drewN q) hu.c1
    have c2r : wr.cell? ⟨sb, 2, none⟩ = some (.int .i64 sz) := hf.cell' c2W (fun e => by have e : sb = w.heap.size := e; omega)
    have SZ : ∀ q, Calls Tryz.prog 46 #[ptr sb] (wr.drewN q) fun e w' => e = .returned (.int .i64 sz) ∧ w' = wr.drewN q := fun q => t_size (n := sz) c2r
    have c10 := hu.c10
    have f5 := fi_top (nu := u) (by omega)
    have hcnd : (sz : Int) < (fi u : Int) + u * 8 ↔ nu < u := by
      constructor
      · intro hh
        refine Classical.byContradiction fun hn => ?_
        have e : u = nu := by omega
        subst e
        omega
      · intro hh
        have := G.stop u hh hu2
        omega
    have HAL := @hide _ AL; have HSZ := @hide _ SZ; have HX := hide (And.intro hu hf)
    clear AL SZ
    by_cases hlt : nu < u
    · have hc' : ((sz : Int) < (fi u : Int) + u * 8) = True := by rw [hcnd]; simp [hlt]
      have c1 := hu.c1; have z1 := hu.zs 1
      have LO : ∀ q, Calls Tryz.prog 84 #[ptr w.heap.size] ((wr.drewN q).setCell ⟨w.heap.size, 1, none⟩ (.int .i64 ((u : Int) - 1))) fun e w' => e = .returned (.tuple #[]) ∧ HpU w' w.heap.size sb (u - 1) (fun k => (Bw (u - 1) k : Int)) (aw (u - 1)) (fi (u - 1)) ∧ Fr (fun k => k = w.heap.size) ((wr.drewN q).setCell ⟨w.heap.size, 1, none⟩ (.int .i64 ((u : Int) - 1))) w' := fun q => by
        have := (hu.still ((Fr.refl _ wr).drewN q)).setU (u - 1)
        rw [show ((u - 1 : Nat) : Int) = (u : Int) - 1 by omega] at this
        exact h_layOut this (by omega)
      have HLO := @hide _ LO
      have HUN := hide hu.units; have HF := hide hf
      clear hu hf LO hcnd HX
      generalize hfu : fi u = fu at *
      go_wp2_with fail
      refine region_tailP 9 (by kernel_rfl) (by kernel_rfl) ?_
      simp only [List.take_succ_cons, List.take_zero, List.drop_succ_cons, List.drop_zero]
      repeat (go_big_quiet_step (first | (go_at_call 85; exact Calls.quiet_of_same (unhide HAL _)) | (go_at_call 46; exact Calls.quiet_of_same (unhide HSZ _))))
      refine wpQuiet_nil ?_
      rintro _ ⟨nq, rfl⟩
      have c1' : (wr.drewN nq).cell? ⟨w.heap.size, 1, none⟩ = some (.int .i64 u) := c1
      have z1' : (wr.drewN nq).frozen? ⟨w.heap.size, 1, none⟩ = false := z1
      clear HAL HSZ c1 z1 c10 c2r hfu
      go_wp2_with fail
      refine (unhide HLO nq).mono ?_
      clear HLO
      rintro e w3 ⟨rfl, hu3, hf3⟩
      have HX3 := hide (And.intro hu3 hf3)
      clear hu3 hf3 c1' z1'
      go_wp2
      obtain ⟨hu3, hf3⟩ := unhide HX3
      refine ⟨⟨u - 1, by omega, by omega, hu3, ?_⟩, ?_⟩
      · exact (((unhide HF).drewN nq).setCell (.inl rfl) _).trans hf3
      · rw [hu3.units, unhide HUN]; omega
    · have e : nu = u := by omega
      subst e
      have hc' : ((sz : Int) < (fi nu : Int) + (nu : Nat) * 8) = False := by rw [hcnd]; simp
      clear hu hf hcnd
      go_wp2_with fail
      refine region_tailP 9 (by kernel_rfl) (by kernel_rfl) ?_
      simp only [List.take_succ_cons, List.take_zero, List.drop_succ_cons, List.drop_zero]
      repeat (go_big_quiet_step (first | (go_at_call 85; exact Calls.quiet_of_same (unhide HAL _)) | (go_at_call 46; exact Calls.quiet_of_same (unhide HSZ _))))
      refine wpQuiet_nil ?_
      rintro _ ⟨nq, rfl⟩
      clear HAL HSZ
      go_wp2
      go_ret
      obtain ⟨hu, hf⟩ := unhide HX
      have hf' := hf.drewN nq
      refine ⟨rfl, ?_, (unhide HFW).trans' hf' (fun k hk => .inr (by omega)), by have := hf'.size; have := unhide HZW; omega⟩
      exact hu.still ((Fr.refl _ wr).drewN nq)
end
end Go.Proofs.YtdgobaknbjlahaaGreatDoor
