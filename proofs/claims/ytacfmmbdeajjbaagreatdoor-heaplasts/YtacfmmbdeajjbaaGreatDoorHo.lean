/- layOut, laidOut. -/
import Derived.Test.YtacfmmbdeajjbaaGreatDoorHe
namespace Go.Proofs.YtacfmmbdeajjbaaGreatDoor
open Go.RowKit

/-- A heap's block with u units, of which the rest is laid out. -/
structure HpU (w : World) (hb sb u : Nat) (B : Nat → Int) (a f : Int) : Prop where
  c0 : w.cell? ⟨hb, 0, none⟩ = some (ptr sb)
  c1 : w.cell? ⟨hb, 1, none⟩ = some (.int .i64 u)
  cb : ∀ k, k < 7 → w.cell? ⟨hb, 2 + k, none⟩ = some (.int .i64 (B k))
  c9 : w.cell? ⟨hb, 9, none⟩ = some (.int .i64 a)
  c10 : w.cell? ⟨hb, 10, none⟩ = some (.int .i64 f)
  zs : ∀ o, w.frozen? ⟨hb, o, none⟩ = false

section
variable {w w' : World} {hb sb u : Nat} {B : Nat → Int} {a f : Int}
theorem HpU.setB (h : HpU w hb sb u B a f) (k : Nat) (hk : k < 7) (v : Int) : HpU (w.setCell ⟨hb, 2 + k, none⟩ (.int .i64 v)) hb sb u (upd B k v) a f := by
  have o : ∀ i, i ≠ 2 + k → (w.setCell ⟨hb, 2 + k, none⟩ (.int .i64 v)).cell? ⟨hb, i, none⟩ = w.cell? ⟨hb, i, none⟩ := fun i hi => World.cell?_setCell_other _ _ _ _ (by simp <;> omega)
  refine ⟨by rw [o 0 (by omega)]; exact h.c0, by rw [o 1 (by omega)]; exact h.c1, fun j hj => ?_, by rw [o 9 (by omega)]; exact h.c9, by rw [o 10 (by omega)]; exact h.c10, fun i => by rw [World.frozen?_setCell]; exact h.zs i⟩
  by_cases e : j = k
  · subst e; rw [upd_same]; exact World.cell?_setCell_same _ _ _ (h.cb j hj)
  · rw [o (2 + j) (by omega), upd_other _ _ e]; exact h.cb j hj
theorem HpU.setA (h : HpU w hb sb u B a f) (v : Int) : HpU (w.setCell ⟨hb, 9, none⟩ (.int .i64 v)) hb sb u B v f := by
  have o : ∀ i, i ≠ 9 → (w.setCell ⟨hb, 9, none⟩ (.int .i64 v)).cell? ⟨hb, i, none⟩ = w.cell? ⟨hb, i, none⟩ := fun i hi => World.cell?_setCell_other _ _ _ _ (by simp <;> omega)
  exact ⟨by rw [o 0 (by omega)]; exact h.c0, by rw [o 1 (by omega)]; exact h.c1, fun j hj => by rw [o _ (by omega)]; exact h.cb j hj, World.cell?_setCell_same _ _ _ h.c9, by rw [o 10 (by omega)]; exact h.c10, fun i => by rw [World.frozen?_setCell]; exact h.zs i⟩
theorem HpU.setF (h : HpU w hb sb u B a f) (v : Int) : HpU (w.setCell ⟨hb, 10, none⟩ (.int .i64 v)) hb sb u B a v := by
  have o : ∀ i, i ≠ 10 → (w.setCell ⟨hb, 10, none⟩ (.int .i64 v)).cell? ⟨hb, i, none⟩ = w.cell? ⟨hb, i, none⟩ := fun i hi => World.cell?_setCell_other _ _ _ _ (by simp <;> omega)
  exact ⟨by rw [o 0 (by omega)]; exact h.c0, by rw [o 1 (by omega)]; exact h.c1, fun j hj => by rw [o _ (by omega)]; exact h.cb j hj, by rw [o 9 (by omega)]; exact h.c9, World.cell?_setCell_same _ _ _ h.c10, fun i => by rw [World.frozen?_setCell]; exact h.zs i⟩
theorem HpU.setU (h : HpU w hb sb u B a f) (v : Nat) : HpU (w.setCell ⟨hb, 1, none⟩ (.int .i64 v)) hb sb v B a f := by
  have o : ∀ i, i ≠ 1 → (w.setCell ⟨hb, 1, none⟩ (.int .i64 v)).cell? ⟨hb, i, none⟩ = w.cell? ⟨hb, i, none⟩ := fun i hi => World.cell?_setCell_other _ _ _ _ (by simp <;> omega)
  exact ⟨by rw [o 0 (by omega)]; exact h.c0, World.cell?_setCell_same _ _ _ h.c1, fun j hj => by rw [o _ (by omega)]; exact h.cb j hj, by rw [o 9 (by omega)]; exact h.c9, by rw [o 10 (by omega)]; exact h.c10, fun i => by rw [World.frozen?_setCell]; exact h.zs i⟩
theorem HpU.still (h : HpU w hb sb u B a f) (hf : Still w w') : HpU w' hb sb u B a f :=
  ⟨hf.cell' h.c0 (fun x => x), hf.cell' h.c1 (fun x => x), fun k hk => hf.cell' (h.cb k hk) (fun x => x), hf.cell' h.c9 (fun x => x), hf.cell' h.c10 (fun x => x),
    fun o => by rw [World.frozen?_of_block (a := ⟨hb, o, none⟩) (hf.block hb (World.block_lt_of_cell? _ _ h.c0) (fun x => x))]; exact h.zs o⟩

set_option maxHeartbeats 400000 in
theorem h_blocksU (hb : Nat) (u k : Nat) (hk : k < 7) (w : World) (_hu : u ≤ 500) (c1 : w.cell? ⟨hb, 1, none⟩ = some (.int .i64 u)) : Calls Tryz.prog 116 #[ptr hb, .int .i64 k] w fun e w' => e = .returned (.int .i64 (u / 2 ^ k : Nat)) ∧ w' = w := by
  have e1 : ((u / 2 ^ k : Nat) : Int) = (u : Int) / 2 ^ k := by simp
  rw [e1]
  go_enter Tryz.func116, Tryz.ntmps116
  go_wp2
  go_ret
  exact ⟨rfl, rfl⟩

/-- Where level k's bits begin; 36: behind the last. -/
def Bq (k : Nat) : Nat := if k = 7 then 36 else Bw k
theorem Bq_step (k : Nat) (hk : k < 7) : Bq (k + 1) = Bq k + gr k := by
  rcases lt7 hk with rfl | rfl | rfl | rfl | rfl | rfl | rfl <;> rfl
theorem grU {u k : Nat} (hk : k < 7) (h1 : 478 ≤ u) (h2 : u ≤ 498) : (((u / 2 ^ k : Nat) : Int) + 64 - 1) / 64 = gr k := by
  have e : (((u / 2 ^ k : Nat) : Int) + 64 - 1) / 64 = ((u / 2 ^ k + 63) / 64 : Nat) := by omega
  rw [e]
  congr 1
  rcases lt7 hk with rfl | rfl | rfl | rfl | rfl | rfl | rfl <;> simp [gr] <;> omega

/-- The place of the first unit. -/
def fst (u : Nat) : Nat := (36 + (u + 3) / 4 + 7) / 8 * 8

set_option maxRecDepth 20000 in
set_option maxHeartbeats 2000000 in
theorem h_layOut (h : HpU w hb sb u B a f) (h1 : 478 ≤ u) (h2 : u ≤ 498) :
    Calls Tryz.prog 96 #[ptr hb] w fun e w' => e = .returned (.tuple #[]) ∧ HpU w' hb sb u (fun k => (Bw k : Int)) 36 (fst u) ∧ Fr (fun k => k = hb) w w' := by
  have HH := hide h
  clear h
  go_enter Tryz.func96, Tryz.ntmps96
  go_wp2_with fail
  go_loopw [4, 2] (fun i p wr => ∃ k : Nat, k ≤ 7 ∧ i = .int .i64 k ∧ p = .int .i64 (Bq k) ∧ ∃ B', HpU wr hb sb u B' a f ∧ (∀ j, j < k → B' j = Bw j) ∧ Fr (fun k => k = hb) w wr) (fun i p wr => 7 - (intOf i).toNat)
  case atStart => exact ⟨0, by omega, rfl, rfl, B, unhide HH, fun j hj => by omega, Fr.refl _ w⟩
  case round =>
    obtain ⟨k, hk, rfl, rfl, B', hu, hB, hf⟩ := hrel
    by_cases hk7 : k < 7
    · have b36 : Bq k ≤ 36 := by unfold Bq; rcases lt7 hk7 with rfl | rfl | rfl | rfl | rfl | rfl | rfl <;> decide
      have st := hu.setB k hk7 (Bq k)
      have ck := hu.cb k hk7; have zk := hu.zs (2 + k)
      have hs := Bq_step k hk7
      have BK := h_blocksU hb u k hk7 _ (by omega) st.c1
      have GR := h_groups ((u / 2 ^ k : Nat) : Int) 64 (Int.natCast_nonneg _) (by have : u / 2 ^ k ≤ u := Nat.div_le_self _ _; omega) (by omega) (by omega) (wr.setCell ⟨hb, 2 + k, none⟩ (.int .i64 (Bq k)))
      rw [grU hk7 h1 h2] at GR
      obtain ⟨n, hn⟩ : ∃ n, u / 2 ^ k = n := ⟨_, rfl⟩
      rw [hn] at BK GR
      have g8 := gr_le k
      have HX := hide (And.intro st (And.intro hB hf)); have HHS := hide hs
      have HB0 := hide (show k < 7 → Bq k = Bw k from fun h => by unfold Bq; rw [if_neg (by omega)])
      clear hu st hB hf hn hs
      generalize Bq k = bk at *
      go_wp2_with (first | (go_at_call 116; refine BK.mono ?_; rintro e w' ⟨rfl, hh⟩; replace hh := hh.symm; subst hh) | (go_at_call 115; refine GR.mono ?_; rintro e w' ⟨rfl, hh⟩; replace hh := hh.symm; subst hh) | fail)
      obtain ⟨st, hB, hf⟩ := unhide HX
      refine ⟨⟨k + 1, by omega, by go_num, by rw [unhide HHS]; simp, _, st, fun j hj => ?_, hf.setCell (.inl rfl) _⟩, by simp [intOf]; omega⟩
      by_cases e : j = k
      · subst e; rw [upd_same, unhide HB0 hk7]
      · rw [upd_other _ _ e]; exact hB j (by omega)
    · have : k = 7 := by omega
      subst this
      have st1 := hu.setA 36
      have G1 := h_groups u 4 (by omega) (by omega) (by omega) (by omega) (wr.setCell ⟨hb, 9, none⟩ (.int .i64 36))
      have e1 : ((u : Int) + 4 - 1) / 4 = ((u + 3) / 4 : Nat) := by omega
      rw [e1] at G1
      have c9 := hu.c9; have z9 := hu.zs 9; have c1 := st1.c1
      obtain ⟨n, hn⟩ : ∃ n, (u + 3) / 4 = n := ⟨_, rfl⟩
      have hn5 : n ≤ 126 := by omega
      rw [hn] at G1
      have G2 := h_groups (36 + (n : Int)) 8 (by omega) (by omega) (by omega) (by omega) (wr.setCell ⟨hb, 9, none⟩ (.int .i64 36))
      have e2 : (36 + (n : Int) + 8 - 1) / 8 = ((36 + n + 7) / 8 : Nat) := by omega
      rw [e2] at G2
      obtain ⟨m, hm⟩ : ∃ m, (36 + n + 7) / 8 = m := ⟨_, rfl⟩
      have hm5 : m ≤ 100 := by omega
      rw [hm] at G2
      have st2 := st1.setF ((m : Int) * 8)
      have c10 := st1.c10; have z10 := st1.zs 10
      have hfst : fst u = m * 8 := by unfold fst; rw [hn, hm]
      have HX := hide (And.intro st2 (And.intro hB hf)); have HFS := hide hfst
      clear hu st1 st2 hB hf hn hm e1 e2 hfst
      have q7 : ((Bq 7 : Nat) : Int) = 36 := rfl
      rw [q7]
      go_wp2_with fail
      refine G1.mono ?_
      rintro e w' ⟨rfl, hh⟩
      replace hh := hh.symm
      subst hh
      clear G1
      go_wp2_with fail
      refine G2.mono ?_
      rintro e w' ⟨rfl, hh⟩
      replace hh := hh.symm
      subst hh
      clear G2
      go_wp2
      go_end0
      obtain ⟨st, hB, hf⟩ := unhide HX
      refine ⟨rfl, ⟨st.c0, st.c1, fun k hk => by rw [← hB k hk]; exact st.cb k hk, st.c9, ?_, st.zs⟩, (hf.setCell (.inl rfl) _).setCell (.inl rfl) _⟩
      rw [unhide HFS]
      have := st.c10
      simpa using this

def unitsOf (w : World) (hb : Nat) : Nat := match w.cell? ⟨hb, 1, none⟩ with | some (.int _ z) => z.toNat | _ => 0
theorem HpU.units (h : HpU w hb sb u B a f) : unitsOf w hb = u := by unfold unitsOf; rw [h.c1]; simp

set_option maxRecDepth 20000 in
set_option maxHeartbeats 2000000 in
theorem h_laidOut (c2 : w.cell? ⟨sb, 2, none⟩ = some (.int .i64 3984)) :
    Calls Tryz.prog 56 #[ptr sb] w fun e w' => e = .returned (ptr w.heap.size) ∧ HpU w' w.heap.size sb 478 (fun k => (Bw k : Int)) 36 160 ∧ Still w w' ∧ w.heap.size < w'.heap.size := by
  have SZ : Calls Tryz.prog 55 #[ptr sb] w fun e w' => e = .returned (.int .i64 3984) ∧ w' = w := t_size (n := 3984) c2
  obtain ⟨W, hW⟩ : ∃ W, w.alloc (.cells #[ptr sb, .int .i64 498, .int .i64 0, .int .i64 0, .int .i64 0, .int .i64 0, .int .i64 0, .int .i64 0, .int .i64 0, .int .i64 0, .int .i64 0] 70) = W := ⟨_, rfl⟩
  have fW : Still w W := hW ▸ (Fr.refl _ w).alloc _
  have zW : W.heap.size = w.heap.size + 1 := by rw [← hW]; simp
  have bW : W.heap[w.heap.size]? = some (.cells #[ptr sb, .int .i64 498, .int .i64 0, .int .i64 0, .int .i64 0, .int .i64 0, .int .i64 0, .int .i64 0, .int .i64 0, .int .i64 0, .int .i64 0] 70 (0, 0)) := hW ▸ heap_alloc_new w _
  have hU : HpU W w.heap.size sb 498 (fun _ => 0) 0 0 := by
    refine ⟨by rw [cell_of_obj bW]; rfl, by rw [cell_of_obj bW]; rfl, fun k hk => ?_, by rw [cell_of_obj bW]; rfl, by rw [cell_of_obj bW]; rfl, fun o => by unfold World.frozen?; rw [bW]; simp⟩
    rw [cell_of_obj bW]
    rcases lt7 hk with rfl | rfl | rfl | rfl | rfl | rfl | rfl <;> rfl
  have LO := h_layOut hU (by omega) (by omega)
  have HLO := hide LO; have HFW := hide fW; have HW := hide hW; have HZW := hide zW
  have hsb : sb < w.heap.size := World.block_lt_of_cell? _ _ c2
  have c2W : W.cell? ⟨sb, 2, none⟩ = some (.int .i64 3984) := fW.cell' c2 (fun x => x)
  clear LO fW hW bW hU zW
  go_enter Tryz.func56, Tryz.ntmps56
  go_wp2_with (first | (go_at_call 55; refine SZ.mono ?_; rintro e w' ⟨rfl, hh⟩; replace hh := hh.symm; subst hh) | fail)
  rw [unhide HW]
  refine (unhide HLO).mono ?_
  clear HLO SZ
  rintro e w1 ⟨rfl, hu1, hf1⟩
  have HX1 := hide (And.intro hu1 hf1)
  clear hu1 hf1
  go_wp2_with fail
  go_loopw [12] (fun p wr => ∃ u, 478 ≤ u ∧ u ≤ 498 ∧ HpU wr w.heap.size sb u (fun k => (Bw k : Int)) 36 (fst u) ∧ Fr (fun k => k = w.heap.size) W wr) (fun p wr => unitsOf wr w.heap.size)
  case atStart => exact ⟨498, by omega, by omega, (unhide HX1).1, (unhide HX1).2⟩
  case round =>
    clear HX1
    obtain ⟨u, hu1, hu2, hu, hf⟩ := hrel
    have AL : ∀ q, Calls Tryz.prog 7 #[ptr w.heap.size] (wr.drewN q) _ := fun q => h_all w.heap.size u (by omega) (wr.drewN q) hu.c1
    have c2r : wr.cell? ⟨sb, 2, none⟩ = some (.int .i64 3984) := hf.cell' c2W (fun e => by have e : sb = w.heap.size := e; omega)
    have SZ : ∀ q, Calls Tryz.prog 55 #[ptr sb] (wr.drewN q) fun e w' => e = .returned (.int .i64 3984) ∧ w' = wr.drewN q := fun q => t_size (n := 3984) c2r
    have c10 := hu.c10
    have f5 : fst u ≤ 200 ∧ 160 ≤ fst u := by unfold fst; omega
    have hcnd : (3984 : Int) < (fst u : Int) + u * 8 ↔ 478 < u := by
      unfold fst at *
      omega
    have HAL := @hide _ AL; have HSZ := @hide _ SZ; have HX := hide (And.intro hu hf)
    clear AL SZ
    by_cases hlt : 478 < u
    · have hc' : ((3984 : Int) < (fst u : Int) + u * 8) = True := by rw [hcnd]; simp [hlt]
      have c1 := hu.c1; have z1 := hu.zs 1
      have LO : ∀ q, Calls Tryz.prog 96 #[ptr w.heap.size] ((wr.drewN q).setCell ⟨w.heap.size, 1, none⟩ (.int .i64 ((u : Int) - 1))) fun e w' => e = .returned (.tuple #[]) ∧ HpU w' w.heap.size sb (u - 1) (fun k => (Bw k : Int)) 36 (fst (u - 1)) ∧ Fr (fun k => k = w.heap.size) ((wr.drewN q).setCell ⟨w.heap.size, 1, none⟩ (.int .i64 ((u : Int) - 1))) w' := fun q => by
        have := (hu.still ((Fr.refl _ wr).drewN q)).setU (u - 1)
        rw [show ((u - 1 : Nat) : Int) = (u : Int) - 1 by omega] at this
        exact h_layOut this (by omega) (by omega)
      have HLO := @hide _ LO
      have HUN := hide hu.units; have HF := hide hf
      clear hu hf LO hcnd HX
      generalize hfu : fst u = fu at *
      go_wp2_with fail
      refine region_tailP 9 (by kernel_rfl) (by kernel_rfl) ?_
      simp only [List.take_succ_cons, List.take_zero, List.drop_succ_cons, List.drop_zero]
      repeat (go_big_quiet_step (first | (go_at_call 7; exact Calls.quiet_of_same (unhide HAL _)) | (go_at_call 55; exact Calls.quiet_of_same (unhide HSZ _))))
      refine wpQuiet_nil ?_
      rintro _ ⟨nq, rfl⟩
      have c1' : (wr.drewN nq).cell? ⟨w.heap.size, 1, none⟩ = some (.int .i64 u) := c1
      have z1' : (wr.drewN nq).frozen? ⟨w.heap.size, 1, none⟩ = false := z1
      clear HAL HSZ c1 z1 c10 c2r hfu
      go_wp2_with fail
      refine (unhide HLO nq).mono ?_
      clear HLO
      rintro e w3 ⟨rfl, hu3, hf3⟩
      have HX3 := hide (And.intro hu3 hf3)
      clear hu3 hf3 c1' z1'
      go_wp2
      obtain ⟨hu3, hf3⟩ := unhide HX3
      refine ⟨⟨u - 1, by omega, by omega, hu3, ?_⟩, ?_⟩
      · exact (((unhide HF).drewN nq).setCell (.inl rfl) _).trans hf3
      · rw [hu3.units, unhide HUN]; omega
    · have : u = 478 := by omega
      subst this
      have hc' : ((3984 : Int) < (fst 478 : Int) + (478 : Nat) * 8) = False := by rw [hcnd]; simp
      have f16 : fst 478 = 160 := by decide
      rw [f16] at hc' c10
      clear hu hf hcnd
      go_wp2_with fail
      refine region_tailP 9 (by kernel_rfl) (by kernel_rfl) ?_
      simp only [List.take_succ_cons, List.take_zero, List.drop_succ_cons, List.drop_zero]
      repeat (go_big_quiet_step (first | (go_at_call 7; exact Calls.quiet_of_same (unhide HAL _)) | (go_at_call 55; exact Calls.quiet_of_same (unhide HSZ _))))
      refine wpQuiet_nil ?_
      rintro _ ⟨nq, rfl⟩
      clear HAL HSZ
      go_wp2
      go_ret
      obtain ⟨hu, hf⟩ := unhide HX
      have hf' := hf.drewN nq
      refine ⟨rfl, ?_, (unhide HFW).trans' hf' (fun k hk => .inr (by omega)), by have := hf'.size; have := unhide HZW; omega⟩
      have := hu.still ((Fr.refl _ wr).drewN nq)
      rw [f16] at this
      exact this
end
end Go.Proofs.YtacfmmbdeajjbaaGreatDoor
