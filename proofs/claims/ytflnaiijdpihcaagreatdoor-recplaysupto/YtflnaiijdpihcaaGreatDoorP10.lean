/- Joined: GHo Dox GHn GLh Kl B9. -/
import Derived.WalkKit
import Derived.WalkSpells
import Derived.WalkLawsBesides
import Derived.Handy
import Derived.Laws.BitsAllLaws
import Derived.Laws.Bits64
import Derived.Laws.MakeOwn
import Derived.LoopTactic
import Derived.BigQuiet
import Derived.BigRegion
import Derived.StillTail
import Derived.Below
import Derived.OwnWalk
import Derived.Deep.OwnRows
import Derived.Maps.AppendAt
import Derived.Laws.AppendOwnNone
import Derived.Test.YtflnaiijdpihcaaGreatDoorP01
import Derived.Test.YtflnaiijdpihcaaGreatDoorP04
import Derived.Test.YtflnaiijdpihcaaGreatDoorP08
import Derived.Test.YtflnaiijdpihcaaGreatDoorP09
namespace Go.Proofs.YtflnaiijdpihcaaGreatDoor
open Go.RowKit

section
structure HpU (w : World) (hb sb u : Nat) (B : Nat → Int) (a f : Int) : Prop where
  c0 : w.cell? ⟨hb, 0, none⟩ = some (ptr sb)
  c1 : w.cell? ⟨hb, 1, none⟩ = some (.int .i64 u)
  cb : ∀ k, k < 7 → w.cell? ⟨hb, 2 + k, none⟩ = some (.int .i64 (B k))
  c9 : w.cell? ⟨hb, 9, none⟩ = some (.int .i64 a)
  c10 : w.cell? ⟨hb, 10, none⟩ = some (.int .i64 f)
  zs : ∀ o, w.frozen? ⟨hb, o, none⟩ = false

section
variable {nu sz : Nat} {w w' : World} {hb sb u : Nat} {B : Nat → Int} {a f : Int}
theorem HpU.setB (h : HpU w hb sb u B a f) (k : Nat) (hk : k < 7) (v : Int) : HpU (w.setCell ⟨hb, 2 + k, none⟩ (.int .i64 v)) hb sb u (upd B k v) a f := by
  have o : ∀ i, i ≠ 2 + k → (w.setCell ⟨hb, 2 + k, none⟩ (.int .i64 v)).cell? ⟨hb, i, none⟩ = w.cell? ⟨hb, i, none⟩ := fun i hi => World.cell?_setCell_other _ _ _ _ (by simp <;> omega)
  refine ⟨by rw [o 0 (by omega)]; exact h.c0, by rw [o 1 (by omega)]; exact h.c1, fun j hj => ?_, by rw [o 9 (by omega)]; exact h.c9, by rw [o 10 (by omega)]; exact h.c10, fun i => by rw [World.frozen?_setCell]; exact h.zs i⟩
  by_cases e : j = k
  · subst e; rw [upd_same]; exact World.cell?_setCell_same _ _ _ (h.cb j hj)
  · rw [o (2 + j) (by omega), upd_other _ _ e]; exact h.cb j hj
theorem HpU.setA (h : HpU w hb sb u B a f) (v : Int) : HpU (w.setCell ⟨hb, 9, none⟩ (.int .i64 v)) hb sb u B v f := by
  have o : ∀ i, i ≠ 9 → (w.setCell ⟨hb, 9, none⟩ (.int .i64 v)).cell? ⟨hb, i, none⟩ = w.cell? ⟨hb, i, none⟩ := fun i hi => World.cell?_setCell_other _ _ _ _ (by simp <;> omega)
  exact ⟨by rw [o 0 (by omega)]; exact h.c0, by rw [o 1 (by omega)]; exact h.c1, fun j hj => by rw [o _ (by omega)]; exact h.cb j hj, World.cell?_setCell_same _ _ _ h.c9, by rw [o 10 (by omega)]; exact h.c10, fun i => by rw [World.frozen?_setCell]; exact h.zs i⟩
theorem HpU.setF (h : HpU w hb sb u B a f) (v : Int) : HpU (w.setCell ⟨hb, 10, none⟩ (.int .i64 v)) hb sb u B a v := by
  have o : ∀ i, i ≠ 10 → (w.setCell ⟨hb, 10, none⟩ (.int .i64 v)).cell? ⟨hb, i, none⟩ = w.cell? ⟨hb, i, none⟩ := fun i hi => World.cell?_setCell_other _ _ _ _ (by simp <;> omega)
  exact ⟨by rw [o 0 (by omega)]; exact h.c0, by rw [o 1 (by omega)]; exact h.c1, fun j hj => by rw [o _ (by omega)]; exact h.cb j hj, by rw [o 9 (by omega)]; exact h.c9, World.cell?_setCell_same _ _ _ h.c10, fun i => by rw [World.frozen?_setCell]; exact h.zs i⟩
theorem HpU.setU (h : HpU w hb sb u B a f) (v : Nat) : HpU (w.setCell ⟨hb, 1, none⟩ (.int .i64 v)) hb sb v B a f := by
  have o : ∀ i, i ≠ 1 → (w.setCell ⟨hb, 1, none⟩ (.int .i64 v)).cell? ⟨hb, i, none⟩ = w.cell? ⟨hb, i, none⟩ := fun i hi => World.cell?_setCell_other _ _ _ _ (by simp <;> omega)
  exact ⟨by rw [o 0 (by omega)]; exact h.c0, World.cell?_setCell_same _ _ _ h.c1, fun j hj => by rw [o _ (by omega)]; exact h.cb j hj, by rw [o 9 (by omega)]; exact h.c9, by rw [o 10 (by omega)]; exact h.c10, fun i => by rw [World.frozen?_setCell]; exact h.zs i⟩
theorem HpU.still (h : HpU w hb sb u B a f) (hf : Still w w') : HpU w' hb sb u B a f :=
  ⟨hf.cell' h.c0 (fun x => x), hf.cell' h.c1 (fun x => x), fun k hk => hf.cell' (h.cb k hk) (fun x => x), hf.cell' h.c9 (fun x => x), hf.cell' h.c10 (fun x => x),
    fun o => by rw [World.frozen?_of_block (a := ⟨hb, o, none⟩) (hf.block hb (World.block_lt_of_cell? _ _ h.c0) (fun x => x))]; exact h.zs o⟩

set_option maxRecDepth 20000 in
set_option maxHeartbeats 2000000 in
theorem h_layOut (h : HpU w hb sb u B a f) (h2 : u ≤ 8000) :
    Calls Tryz.prog 153 #[ptr hb] w fun e w' => e = .returned (.tuple #[]) ∧ HpU w' hb sb u (fun k => (Bw u k : Int)) (aw u) (fi u) ∧ Fr (fun k => k = hb) w w' := by
  have HH := hide h
  clear h
  go_enter Tryz.func153, Tryz.ntmps153
  go_wp2_with fail
  go_loopw [4, 2] (fun i p wr => ∃ k : Nat, k ≤ 7 ∧ i = .int .i64 k ∧ p = .int .i64 (Bw u k) ∧ ∃ B', HpU wr hb sb u B' a f ∧ (∀ j, j < k → B' j = Bw u j) ∧ Fr (fun k => k = hb) w wr) (fun i p wr => 7 - (intOf i).toNat)
  case atStart => exact ⟨0, by omega, rfl, rfl, B, unhide HH, fun j hj => by omega, Fr.refl _ w⟩
  case round =>
    obtain ⟨k, hk, rfl, rfl, B', hu, hB, hf⟩ := hrel
    by_cases hk7 : k < 7
    · have b36 : Bw u k ≤ 300 := by have := Bw_mono (nu := u) hk7; have := aw_le h2; unfold aw at this; omega
      have st := hu.setB k hk7 (Bw u k)
      have ck := hu.cb k hk7; have zk := hu.zs (2 + k)
      have hs : Bw u (k + 1) = Bw u k + gr u k := rfl
      have BK := h_blocks hb k hk7 _ h2 st.c1
      have GR := h_groups ((u / 2 ^ k : Nat) : Int) 64 (Int.natCast_nonneg _) (by have : u / 2 ^ k ≤ u := Nat.div_le_self _ _; omega) (by omega) (by omega) (wr.setCell ⟨hb, 2 + k, none⟩ (.int .i64 (Bw u k)))
      rw [gr_eq hk7] at GR
      obtain ⟨n, hn⟩ : ∃ n, u / 2 ^ k = n := ⟨_, rfl⟩
      rw [hn] at BK GR
      have g8 : gr u k ≤ 126 := by have := gr_le' u k; omega
      have HX := hide (And.intro st (And.intro hB hf)); have HHS := hide hs
      have hbk : ∃ bk, Bw u k = bk := ⟨_, rfl⟩
      clear hu st hB hf hn hs
      obtain ⟨bk, hbk⟩ := hbk
      have HB0 := hide hbk
      rw [hbk] at b36 BK GR HX HHS
      rw [hbk]
      clear hbk
      have hgr : ∃ gk, gr u k = gk := ⟨_, rfl⟩
      obtain ⟨gk, hgk⟩ := hgr
      rw [hgk] at g8 GR HHS
      clear hgk
      go_wp2_with (first | (go_at_call 146; refine BK.mono ?_; rintro e w' ⟨rfl, hh⟩; replace hh := hh.symm; subst hh) | (go_at_call 144; refine GR.mono ?_; rintro e w' ⟨rfl, hh⟩; replace hh := hh.symm; subst hh) | fail)
      obtain ⟨st, hB, hf⟩ := unhide HX
      refine ⟨⟨k + 1, by omega, by go_num, by rw [unhide HHS]; simp, _, st, fun j hj => ?_, hf.setCell (.inl rfl) _⟩, by simp [intOf]; omega⟩
      by_cases e : j = k
      · subst e; rw [upd_same, unhide HB0]
      · rw [upd_other _ _ e]; exact hB j (by omega)
    · have : k = 7 := by omega
      subst this
      obtain ⟨a7, ha7⟩ : ∃ a7, aw u = a7 := ⟨_, rfl⟩
      have ha3 := aw_le h2
      have q7 : Bw u 7 = a7 := ha7
      rw [ha7] at ha3
      have st1 := hu.setA a7
      have G1 := h_groups u 4 (by omega) (by omega) (by omega) (by omega) (wr.setCell ⟨hb, 9, none⟩ (.int .i64 a7))
      have e1 : ((u : Int) + 4 - 1) / 4 = ((u + 3) / 4 : Nat) := by omega
      rw [e1] at G1
      have c9 := hu.c9; have z9 := hu.zs 9; have c1 := st1.c1
      obtain ⟨n, hn⟩ : ∃ n, (u + 3) / 4 = n := ⟨_, rfl⟩
      have hn5 : n ≤ 2001 := by omega
      rw [hn] at G1
      have G2 := h_groups ((a7 : Int) + (n : Int)) 8 (by omega) (by omega) (by omega) (by omega) (wr.setCell ⟨hb, 9, none⟩ (.int .i64 a7))
      have e2 : ((a7 : Int) + (n : Int) + 8 - 1) / 8 = ((a7 + n + 7) / 8 : Nat) := by omega
      rw [e2] at G2
      obtain ⟨m, hm⟩ : ∃ m, (a7 + n + 7) / 8 = m := ⟨_, rfl⟩
      have hm5 : m ≤ 400 := by omega
      rw [hm] at G2
      have st2 := st1.setF ((m : Int) * 8)
      have c10 := st1.c10; have z10 := st1.zs 10
      have hfst : fi u = m * 8 := by unfold fi qa; rw [ha7, hn, hm]
      have HX := hide (And.intro st2 (And.intro hB hf)); have HFS := hide hfst; have HA7 := hide ha7
      clear hu st1 st2 hB hf hn hm e1 e2 hfst ha7
      rw [q7]
      clear q7
      go_wp2_with fail
      refine G1.mono ?_
      rintro e w' ⟨rfl, hh⟩
      replace hh := hh.symm
      subst hh
      clear G1
      go_wp2_with fail
      refine G2.mono ?_
      rintro e w' ⟨rfl, hh⟩
      replace hh := hh.symm
      subst hh
      clear G2
      go_wp2
      go_end0
      obtain ⟨st, hB, hf⟩ := unhide HX
      refine ⟨rfl, ⟨st.c0, st.c1, fun k hk => by rw [← hB k hk]; exact st.cb k hk, by rw [unhide HA7]; exact st.c9, ?_, st.zs⟩, (hf.setCell (.inl rfl) _).setCell (.inl rfl) _⟩
      rw [unhide HFS]
      have := st.c10
      simpa using this

def unitsOf (w : World) (hb : Nat) : Nat := match w.cell? ⟨hb, 1, none⟩ with | some (.int _ z) => z.toNat | _ => 0
theorem HpU.units (h : HpU w hb sb u B a f) : unitsOf w hb = u := by unfold unitsOf; rw [h.c1]; simp

set_option maxRecDepth 20000 in
set_option maxHeartbeats 2000000 in
theorem h_laidOut (G : Geo nu sz) (c2 : w.cell? ⟨sb, 2, none⟩ = some (.int .i64 sz)) :
    Calls Tryz.prog 95 #[ptr sb] w fun e w' => e = .returned (ptr w.heap.size) ∧ HpU w' w.heap.size sb nu (fun k => (Bw nu k : Int)) (aw nu) (fi nu) ∧ Still w w' ∧ w.heap.size < w'.heap.size := by
  have SZ : Calls Tryz.prog 94 #[ptr sb] w fun e w' => e = .returned (.int .i64 sz) ∧ w' = w := t_size (n := sz) c2
  obtain ⟨W, hW⟩ : ∃ W, w.alloc (.cells #[ptr sb, .int .i64 ((sz : Int) / 8), .int .i64 0, .int .i64 0, .int .i64 0, .int .i64 0, .int .i64 0, .int .i64 0, .int .i64 0, .int .i64 0, .int .i64 0] 111) = W := ⟨_, rfl⟩
  have fW : Still w W := hW ▸ (Fr.refl _ w).alloc _
  have zW : W.heap.size = w.heap.size + 1 := by rw [← hW]; simp
  have bW : W.heap[w.heap.size]? = some (.cells #[ptr sb, .int .i64 ((sz : Int) / 8), .int .i64 0, .int .i64 0, .int .i64 0, .int .i64 0, .int .i64 0, .int .i64 0, .int .i64 0, .int .i64 0, .int .i64 0] 111 (0, 0)) := hW ▸ heap_alloc_new w _
  have hU : HpU W w.heap.size sb (sz / 8) (fun _ => 0) 0 0 := by
    refine ⟨by rw [cell_of_obj bW]; rfl, by rw [cell_of_obj bW]; simp, fun k hk => ?_, by rw [cell_of_obj bW]; rfl, by rw [cell_of_obj bW]; rfl, fun o => by unfold World.frozen?; rw [bW]; simp⟩
    rw [cell_of_obj bW]
    rcases lt7 hk with rfl | rfl | rfl | rfl | rfl | rfl | rfl <;> rfl
  obtain ⟨g1, g2, g3, g4, g5, g6⟩ := G.b
  have LO := h_layOut hU (by omega)
  have HLO := hide LO; have HFW := hide fW; have HW := hide hW; have HZW := hide zW
  have hsb : sb < w.heap.size := World.block_lt_of_cell? _ _ c2
  have c2W : W.cell? ⟨sb, 2, none⟩ = some (.int .i64 sz) := fW.cell' c2 (fun x => x)
  clear LO fW hW bW hU zW
  go_enter Tryz.func95, Tryz.ntmps95
  go_wp2_with (first | (go_at_call 94; refine SZ.mono ?_; rintro e w' ⟨rfl, hh⟩; replace hh := hh.symm; subst hh) | fail)
  rw [unhide HW]
  refine (unhide HLO).mono ?_
  clear HLO SZ
  rintro e w1 ⟨rfl, hu1, hf1⟩
  have HX1 := hide (And.intro hu1 hf1)
  clear hu1 hf1
  go_wp2_with fail
  go_loopw [12] (fun p wr => ∃ u, nu ≤ u ∧ u ≤ sz / 8 ∧ HpU wr w.heap.size sb u (fun k => (Bw u k : Int)) (aw u) (fi u) ∧ Fr (fun k => k = w.heap.size) W wr) (fun p wr => unitsOf wr w.heap.size)
  case atStart => exact ⟨sz / 8, by omega, by omega, (unhide HX1).1, (unhide HX1).2⟩
  case round =>
    clear HX1
    obtain ⟨u, hu1, hu2, hu, hf⟩ := hrel
    have AL : ∀ q, Calls Tryz.prog 154 #[ptr w.heap.size] (wr.drewN q) _ := fun q => h_all w.heap.size u (by omega) (wr.drewN q) hu.c1
    have c2r : wr.cell? ⟨sb, 2, none⟩ = some (.int .i64 sz) := hf.cell' c2W (fun e => by have e : sb = w.heap.size := e; omega)
    have SZ : ∀ q, Calls Tryz.prog 94 #[ptr sb] (wr.drewN q) fun e w' => e = .returned (.int .i64 sz) ∧ w' = wr.drewN q := fun q => t_size (n := sz) c2r
    have c10 := hu.c10
    have f5 := fi_top (nu := u) (by omega)
    have hcnd : (sz : Int) < (fi u : Int) + u * 8 ↔ nu < u := by
      constructor
      · intro hh
        refine Classical.byContradiction fun hn => ?_
        have e : u = nu := by omega
        subst e
        omega
      · intro hh
        have := G.stop u hh hu2
        omega
    have HAL := @hide _ AL; have HSZ := @hide _ SZ; have HX := hide (And.intro hu hf)
    clear AL SZ
    by_cases hlt : nu < u
    · have hc' : ((sz : Int) < (fi u : Int) + u * 8) = True := by rw [hcnd]; simp [hlt]
      have c1 := hu.c1; have z1 := hu.zs 1
      have LO : ∀ q, Calls Tryz.prog 153 #[ptr w.heap.size] ((wr.drewN q).setCell ⟨w.heap.size, 1, none⟩ (.int .i64 ((u : Int) - 1))) fun e w' => e = .returned (.tuple #[]) ∧ HpU w' w.heap.size sb (u - 1) (fun k => (Bw (u - 1) k : Int)) (aw (u - 1)) (fi (u - 1)) ∧ Fr (fun k => k = w.heap.size) ((wr.drewN q).setCell ⟨w.heap.size, 1, none⟩ (.int .i64 ((u : Int) - 1))) w' := fun q => by
        have := (hu.still ((Fr.refl _ wr).drewN q)).setU (u - 1)
        rw [show ((u - 1 : Nat) : Int) = (u : Int) - 1 by omega] at this
        exact h_layOut this (by omega)
      have HLO := @hide _ LO
      have HUN := hide hu.units; have HF := hide hf
      clear hu hf LO hcnd HX
      generalize hfu : fi u = fu at *
      go_wp2_with fail
      refine region_tailP 9 (by kernel_rfl) (by kernel_rfl) ?_
      simp only [List.take_succ_cons, List.take_zero, List.drop_succ_cons, List.drop_zero]
      repeat (go_big_quiet_step (first | (go_at_call 154; exact Calls.quiet_of_same (unhide HAL _)) | (go_at_call 94; exact Calls.quiet_of_same (unhide HSZ _))))
      refine wpQuiet_nil ?_
      rintro _ ⟨nq, rfl⟩
      have c1' : (wr.drewN nq).cell? ⟨w.heap.size, 1, none⟩ = some (.int .i64 u) := c1
      have z1' : (wr.drewN nq).frozen? ⟨w.heap.size, 1, none⟩ = false := z1
      clear HAL HSZ c1 z1 c10 c2r hfu
      go_wp2_with fail
      refine (unhide HLO nq).mono ?_
      clear HLO
      rintro e w3 ⟨rfl, hu3, hf3⟩
      have HX3 := hide (And.intro hu3 hf3)
      clear hu3 hf3 c1' z1'
      go_wp2
      obtain ⟨hu3, hf3⟩ := unhide HX3
      refine ⟨⟨u - 1, by omega, by omega, hu3, ?_⟩, ?_⟩
      · exact (((unhide HF).drewN nq).setCell (.inl rfl) _).trans hf3
      · rw [hu3.units, unhide HUN]; omega
    · have e : nu = u := by omega
      subst e
      have hc' : ((sz : Int) < (fi nu : Int) + (nu : Nat) * 8) = False := by rw [hcnd]; simp
      clear hu hf hcnd
      go_wp2_with fail
      refine region_tailP 9 (by kernel_rfl) (by kernel_rfl) ?_
      simp only [List.take_succ_cons, List.take_zero, List.drop_succ_cons, List.drop_zero]
      repeat (go_big_quiet_step (first | (go_at_call 154; exact Calls.quiet_of_same (unhide HAL _)) | (go_at_call 94; exact Calls.quiet_of_same (unhide HSZ _))))
      refine wpQuiet_nil ?_
      rintro _ ⟨nq, rfl⟩
      clear HAL HSZ
      go_wp2
      go_ret
      obtain ⟨hu, hf⟩ := unhide HX
      have hf' := hf.drewN nq
      refine ⟨rfl, ?_, (unhide HFW).trans' hf' (fun k hk => .inr (by omega)), by have := hf'.size; have := unhide HZW; omega⟩
      exact hu.still ((Fr.refl _ wr).drewN nq)
end
end

section
structure OnxX (X : Nat → Prop) (w0 : World) (sb b : Nat) (T0 : Tay) (w : World) (T : Tay) (n : Nat) (A : Ab) (P : List (Int × Int)) (dd : Bool) : Prop where
  st : StL w sb b T n A P dd
  fr : Fr (fun k => tfoot sb b T0 k ∨ X k) w0 w
  sub : ∀ k, tfoot sb b T k → tfoot sb b T0 k ∨ w0.heap.size ≤ k

section
variable {X : Nat → Prop} {w w' w0 : World} {sb b : Nat} {T T0 T' : Tay} {n N : Nat} {A A' : Ab} {P P' : List (Int × Int)} {dd dd' : Bool} {free : Prop} {s : Int} {f base : Nat → Int}

theorem OnxX.of (h : Onx w0 sb b T0 w T n A P dd) : OnxX X w0 sb b T0 w T n A P dd := ⟨h.st, h.fr.mono (fun _ hk => .inl (.inl hk)), h.sub⟩
theorem OnxX.trans {w1 : World} {T1 : Tay} {A1 : Ab} {P1 : List (Int × Int)} {dd1 : Bool} (h : OnxX X w0 sb b T0 w T n A P dd) (k : Onx w sb b T w1 T1 n A1 P1 dd1) : OnxX X w0 sb b T0 w1 T1 n A1 P1 dd1 :=
  ⟨k.st, h.fr.trans' k.fr (fun j hj => (h.sub j hj).imp .inl id), fun j hj => (k.sub j hj).elim (h.sub j) (fun x => .inr (Nat.le_trans h.fr.size x))⟩
theorem OnxX.after {w1 : World} (h : OnxX X w1 sb b T0 w T n A P dd) (hf : Still w0 w1) : OnxX X w0 sb b T0 w T n A P dd :=
  ⟨h.st, (hf.mono (G := fun k => tfoot sb b T0 k ∨ X k) (fun _ hk => hk.elim)).trans h.fr, fun k hk => (h.sub k hk).imp id (fun x => Nat.le_trans hf.size x)⟩
theorem OnxX.quiet (h : OnxX X w0 sb b T0 w T n A P dd) (hf : Still w w') : OnxX X w0 sb b T0 w' T n A P dd := ⟨h.st.still hf, h.fr.trans' hf (fun _ hk => hk.elim), h.sub⟩
theorem OnxX.var (h : OnxX X w0 sb b T0 w T n A P dd) {F : Nat → Prop} (hf : Fr F w w') (h1 : ∀ k, F k → X k) (h2 : ∀ k, F k → ¬ tfoot sb b T k) : OnxX X w0 sb b T0 w' T n A P dd :=
  ⟨h.st.kept hf (fun k hk hF => h2 k hF hk), h.fr.trans' hf (fun k hk => .inl (.inr (h1 k hk))), h.sub⟩
theorem OnxX.turn (h : OnxX X w0 sb b T0 w T n A P dd) {F : Nat → Prop} (hf : Fr F w w') (h1 : ∀ k, F k → ¬ tfoot sb b T k) (h2 : ∀ k, F k → w0.heap.size ≤ k) : OnxX X w0 sb b T0 w' T n A P dd :=
  ⟨h.st.kept hf (fun k hk hF => h1 k hF hk), h.fr.trans' hf (fun k hk => .inr (h2 k hk)), h.sub⟩
theorem OnxX.other (h : OnxX X w0 sb b T0 w T n A P dd) {k : Nat} (hk : k < w0.heap.size) (hn : ¬ tfoot sb b T0 k) : ¬ tfoot sb b T k := fun hf => by
  rcases h.sub k hf with e | e
  · exact hn e
  · omega
theorem OnxX.boxed {w2 w3 : World} (h : StL w sb b T n A P dd) (f0 : Still w0 w) (o : OnxX X (w.alloc box) sb b T w2 T' n A' P' dd') (hf : Fr (fun k => k = w.heap.size) w2 w3) : OnxX X w0 sb b T w3 T' n A' P' dd' := by
  have o1 := o.after (f0.alloc box)
  refine o1.turn hf (fun k hk ht => ?_) (fun k hk => by have := f0.size; omega)
  rcases o.sub k ht with e | e
  · have := h.lt k e; omega
  · have : (w.alloc box).heap.size = w.heap.size + 1 := by simp
    omega

def ChangeX (X : Nat → Prop) (w : World) (sb b : Nat) (T : Tay) (n : Nat) (A : Ab) (fv : Value) (R : How → List (Int × Int) → World → Prop) : Prop :=
  ∀ w1, Still w w1 → Acts fv w1 fun h w2 => (h = .well ∨ ∃ i, h = .errno i) ∧ ∃ T' P', OnxX X w1 sb b T w2 T' n A P' false ∧ R h P' w2

def Stays (X : Nat → Prop) (R : How → List (Int × Int) → World → Prop) : Prop := ∀ (h : How) (P : List (Int × Int)) (w w' : World) (F : Nat → Prop), R h P w → Fr F w w' → (∀ k, X k → ¬ F k) → R h P w'

def DidX (X : Nat → Prop) (w : World) (sb b : Nat) (T : Tay) (n N : Nat) (free : Prop) (A : Ab) (s : Int) (base : Nat → Int) (R : How → List (Int × Int) → World → Prop) (e : Ending) (w' : World) : Prop :=
  (∃ P', R .well P' w' ∧ e = .returned (.int .i64 0) ∧ ∃ T' A', OnxX X w sb b T w' T' n A' [] false ∧ Done N free (s + 30729) base P' A') ∨
  (∃ P', R .well P' w' ∧ e = .returned (.int .i64 50) ∧ ∃ T' A', OnxX X w sb b T w' T' n A' P' true ∧ Gone N free (s + 30729) base P' A') ∨
  (∃ i P', R (.errno i) P' w' ∧ e = .returned (.int .i64 i) ∧ ∃ T', OnxX X w sb b T w' T' n A [] false)

set_option maxHeartbeats 2000000 in
theorem t_doX {g : Nat} {fi ca : Array Value} {R : How → List (Int × Int) → World → Prop} (h : StL w sb b T n A P false) (c : Calm N free A s f) (hc : Clean 0 12304 base f) (hX : ∀ k, X k → k < w.heap.size ∧ ¬ tfoot sb b T k) (hR : Stays X R)
    (hf : ChangeX X w sb b T n A (.func (.func g) fi ca) R) (hs : s + 30729 < 4294967296) :
    Calls Tryz.prog 11 #[ptr sb, .func (.func g) fi ca] w (DidX X w sb b T n N free A s base R) := by
  obtain ⟨W, hW⟩ : ∃ W, w.alloc (.cells #[.func (.func g) fi ca, .func (.func 51) #[ptr sb] #[]] 1) = W := ⟨_, rfl⟩
  have fW : Still w W := hW ▸ (Fr.refl _ w).alloc _
  have zW : W.heap.size = w.heap.size + 1 := by rw [← hW]; simp
  have hb : W.heap[w.heap.size]? = some (.cells #[.func (.func g) fi ca, .func (.func 51) #[ptr sb] #[]] 1) := hW ▸ heap_alloc_new w _
  have hWs := h.still fW
  have nT : ¬ (tfoot sb b T w.heap.size ∨ X w.heap.size) := fun e => by
    rcases e with e | e
    · have := h.lt _ e; omega
    · have := (hX _ e).1; omega
  have xl : ∀ k, X k → k < W.heap.size := fun k hk => by have := (hX k hk).1; omega
  have E := each_two (lb := w.heap.size) (f := .func (.func g) fi ca) (g := .func (.func 51) #[ptr sb] #[]) (w := W)
    (I1 := fun w' => ∃ T' P', OnxX X W sb b T w' T' n A P' false ∧ R .well P' w')
    (I2 := fun w' => ∃ P', R .well P' w' ∧ ∃ T' A', OnxX X W sb b T w' T' n A' [] false ∧ Done N free (s + 30729) base P' A')
    (S := fun h w' => (∃ i P', h = .errno i ∧ R (.errno i) P' w' ∧ ∃ T', OnxX X W sb b T w' T' n A P' false) ∨ (∃ P', h = .lost ∧ R .well P' w' ∧ ∃ T' A', OnxX X W sb b T w' T' n A' P' true ∧ Gone N free (s + 30729) base P' A'))
    (cell_of_obj hb 0)
    (try_fr (F := fun k => tfoot sb b T k ∨ X k) (fun k hk => hk.elim (hWs.lt k) (xl k)) ((hf (W.alloc box) (fW.alloc box)).mono (by
      rintro k w2 ⟨hk, T', P', o, r⟩
      refine ⟨o.fr, fun w3 f3 => ?_⟩
      have o3 := OnxX.boxed hWs (Fr.refl _ W) o f3
      have r3 : R k P' w3 := hR _ _ _ _ _ r f3 (fun j hj e => by have := xl j hj; omega)
      rcases hk with rfl | ⟨i, rfl⟩
      · exact .inl ⟨rfl, (o3.fr.cell' (cell_of_obj hb 1) nT), T', P', o3, r3⟩
      · exact .inr ⟨rfl, .inl ⟨i, P', rfl, r3, T', o3⟩⟩)))
    (by
      rintro w1 ⟨T1, P1, o1, r1⟩
      have few := o1.st.few
      have nX : ∀ k, X k → ¬ tfoot sb b T1 k := fun k hk => o1.other (xl k hk) (hX k hk).2
      have xl1 : ∀ k, X k → k < w1.heap.size := fun k hk => Nat.lt_of_lt_of_le (xl k hk) o1.fr.size
      refine try_store o1.st (acts_of (fun _ _ => by kernel_rfl) ((t_commit (o1.st.still ((Fr.refl _ w1).alloc box)) c hc (by omega)).mono ?_))
      rintro e w2 (⟨rfl, T', A', o, d⟩ | ⟨rfl, T', A', o, d⟩)
      · refine ⟨.well, rfl, o.fr, fun w3 f3 => .inl ⟨rfl, P1, ?_, T', A', o1.trans (Onx.boxed o1.st (Fr.refl _ w1) o f3), d.more (by omega)⟩⟩
        exact hR _ _ _ _ _ r1 (Onx.boxed o1.st (Fr.refl _ w1) o f3).fr nX
      · refine ⟨.lost, How.ended_one _ _, o.fr, fun w3 f3 => .inr ⟨rfl, .inr ⟨P1, rfl, ?_, T', A', o1.trans (Onx.boxed o1.st (Fr.refl _ w1) o f3), d.more (by omega)⟩⟩⟩
        exact hR _ _ _ _ _ r1 (Onx.boxed o1.st (Fr.refl _ w1) o f3).fr nX)
  have c5 := h.c5
  have h1 := mf
  have HE := hide E; have HW := hide hW; have HFW := hide fW; have HXL := hide xl; have HHX := hide hX; have HR := @hide _ hR
  clear E hW fW zW hb hWs nT h c hc hf xl hX hR
  unfold DidX
  go_enter Tryz.func11, Tryz.ntmps11
  go_wp2_with fail
  rw [unhide HW]
  refine (unhide HE).mono ?_
  clear HE
  rintro e w2 ⟨k, ⟨rfl, P', r, x⟩ | ⟨h, rfl, x⟩⟩
  · have K := settle_nil (sb := sb) w2
    have HX := hide x; have HRR := hide r
    clear x r
    go_wp2_with fail
    refine K.mono ?_
    rintro e w3 ⟨rfl, hh⟩
    replace hh := hh.symm
    subst hh
    clear K
    go_wp2
    go_ret
    obtain ⟨T', A', o, d⟩ := unhide HX
    exact .inl ⟨P', unhide HRR, rfl, T', A', o.after (unhide HFW), d⟩
  · rcases x with ⟨i, P', rfl, r, T', o⟩ | ⟨P', rfl, r, T', A', o, d⟩
    · have K := hide (settle_errno o.st i)
      have HX := hide (And.intro r o)
      clear r o
      simp only [How.v]
      go_wp2_with fail
      refine (unhide K).mono ?_
      rintro e w3 ⟨rfl, T3, -, o3⟩
      have HO3 := hide o3
      clear K o3
      go_wp2
      go_ret
      obtain ⟨r, o⟩ := unhide HX
      have nX : ∀ k, X k → ¬ tfoot sb b T' k := fun k hk => o.other (unhide HXL k hk) (unhide HHX k hk).2
      exact .inr (.inr ⟨i, P', unhide HR _ _ _ _ _ r (unhide HO3).fr nX, rfl, T3, (o.trans (unhide HO3)).after (unhide HFW)⟩)
    · have K := hide (settle_lost o.st)
      have HX := hide (And.intro r (And.intro o d))
      clear r o d
      simp only [How.v]
      go_wp2_with fail
      refine (unhide K).mono ?_
      rintro e w3 ⟨rfl, T3, -, o3⟩
      have HO3 := hide o3
      clear K o3
      go_wp2
      go_ret
      obtain ⟨r, o, d⟩ := unhide HX
      have nX : ∀ k, X k → ¬ tfoot sb b T' k := fun k hk => o.other (unhide HXL k hk) (unhide HHX k hk).2
      exact .inr (.inl ⟨P', unhide HR _ _ _ _ _ r (unhide HO3).fr nX, rfl, T3, A', (o.trans (unhide HO3)).after (unhide HFW), d⟩)
end
end

section
section
variable {nu sz : Nat} {w w' : World} {hb sb b : Nat} {T : Tay} {A : Ab} {P : List (Int × Int)}

set_option maxRecDepth 20000 in
set_option maxHeartbeats 1000000 in
theorem h_blank (h : Hp nu sz w hb sb b T A P) (hz : ∀ i, i < fi nu → says P A i = 0) : Calls Tryz.prog 97 #[ptr hb] w fun e w' => e = .returned (.bool true) ∧ w' = w := by
  have c0 := h.hp.c0; have c10 := h.hp.c10
  obtain ⟨g1, g2, g3, g4, g5, g6⟩ := h.hp.geo.b
  have LD : ∀ i : Nat, i < fi nu → Calls Tryz.prog 62 #[ptr sb, .int .i64 i] w fun e w' => e = .returned (u64 0) ∧ w' = w := fun i hi => by
    have := h.load i (by omega)
    rw [hz i hi] at this; exact this
  have HLD := @hide _ LD
  have hF := g2.2
  clear LD h hz g1 g2 g3 g4 g5 g6
  go_enter Tryz.func97, Tryz.ntmps97
  go_wp2_with fail
  go_loopw [8] (fun i wr => ∃ m : Nat, m ≤ fi nu ∧ i = .int .i64 m ∧ Hid (wr = w)) (fun i wr => fi nu - (intOf i).toNat)
  case atStart => exact ⟨0, by omega, rfl, rfl⟩
  case round =>
    obtain ⟨m, hm, rfl, hw⟩ := hrel
    have hw' : wr = w := hw
    subst hw'
    by_cases hlt : m < fi nu
    · have LDm := unhide HLD m hlt
      go_wp2_with (go_at_call 62; refine LDm.mono ?_; rintro e w' ⟨rfl, hh⟩; replace hh := hh.symm; subst hh)
      exact ⟨⟨m + 1, by omega, by go_num, hw⟩, by simp [intOf]; omega⟩
    · have : m = fi nu := by omega
      subst this
      go_wp2
      go_ret
      exact ⟨rfl, rfl⟩

structure Upto (nu : Nat) (F : Nat → Nat → Bool) (u : Nat) : Prop where
  inv : Inv nu F (fun _ => 0) (fun v => if v < u then 0 else 1)
  le : u ≤ nu
  al : ∃ j, j ≤ 6 ∧ u % 2 ^ j = 0 ∧ (j = 6 ∨ nu - u < 2 ^ j)

theorem upto_0 (nu : Nat) : Upto nu (fun _ _ => false) 0 := by
  refine ⟨⟨fun u _ => ?_, fun _ _ _ h => (by simp at h), fun _ _ _ h => (by simp at h), fun u h => absurd rfl h⟩, by omega, 6, by omega, by simp, .inl rfl⟩
  simp [hv, sum7, pc]
theorem bl_aux : ∀ (f x : Nat), x < 2 ^ f → x ≠ 0 → 2 ^ (Lib.bitLenAux f x - 1) ≤ x ∧ x < 2 ^ Lib.bitLenAux f x ∧ 1 ≤ Lib.bitLenAux f x
  | 0, x, h, h0 => by simp at h; omega
  | f + 1, x, h, h0 => by
    unfold Lib.bitLenAux
    rw [if_neg h0]
    by_cases e : x / 2 = 0
    · have : Lib.bitLenAux f (x / 2) = 0 := by rw [e]; cases f <;> simp [Lib.bitLenAux]
      rw [this]
      simp
      omega
    · obtain ⟨a, b, c⟩ := bl_aux f (x / 2) (by rw [Nat.pow_succ] at h; omega) e
      obtain ⟨y, hy⟩ : ∃ y, Lib.bitLenAux f (x / 2) = y + 1 := ⟨_, (Nat.sub_add_cancel c).symm⟩
      rw [hy] at a b ⊢
      simp only [Nat.add_sub_cancel] at a
      rw [show 1 + (y + 1) - 1 = y + 1 by omega, show 1 + (y + 1) = y + 1 + 1 by omega, Nat.pow_succ 2 (y + 1), Nat.pow_succ]
      rw [Nat.pow_succ] at b
      omega
theorem bl_of {m : Nat} (h : 0 < m) (h2 : m ≤ 4000) : 2 ^ (Lib.bitLen m - 1) ≤ m ∧ m < 2 ^ Lib.bitLen m ∧ 1 ≤ Lib.bitLen m ∧ Lib.bitLen m ≤ 12 := by
  obtain ⟨a, b, c⟩ := bl_aux 64 m (by omega) (by omega)
  exact ⟨a, b, c, Lib.bitLen_le m 12 (by omega) (by omega)⟩
theorem Upto.step {nu : Nat} {F : Nat → Nat → Bool} {u k : Nat} (h : Upto nu F u) (hlt : u < nu) (hn4 : nu ≤ 4000) (hk : k = min 6 (Lib.bitLen (nu - u) - 1)) : k < 7 ∧ u / 2 ^ k < nu / 2 ^ k ∧ u / 2 ^ k * 2 ^ k = u ∧ Upto nu (setF F k (u / 2 ^ k) true) (u + 2 ^ k) := by
  obtain ⟨b1, b2, b3, -⟩ := bl_of (show 0 < nu - u by omega) (by omega)
  obtain ⟨j, j1, j2, j3⟩ := h.al
  have k6 : k ≤ 6 := by omega
  have p1 := two_pos k
  have hp : 2 ^ k ≤ nu - u := by
    have : 2 ^ k ≤ 2 ^ (Lib.bitLen (nu - u) - 1) := Nat.pow_le_pow_right (by omega) (by omega)
    omega
  have hkj : k < j ∨ (k = 6 ∧ j = 6) := by
    rcases j3 with j3 | j3
    · omega
    · refine .inl (Classical.byContradiction fun hn => ?_)
      have : 2 ^ j ≤ 2 ^ k := Nat.pow_le_pow_right (by omega) (by omega)
      omega
  have hmul : ∀ i, i ≤ j → u % 2 ^ i = 0 := fun i hi => Nat.mod_eq_zero_of_dvd (Nat.dvd_trans (Nat.pow_dvd_pow 2 hi) (Nat.dvd_of_mod_eq_zero j2))
  have hu : u / 2 ^ k * 2 ^ k = u := Nat.div_mul_cancel (Nat.dvd_of_mod_eq_zero (hmul k (by omega)))
  have hb : u / 2 ^ k < nu / 2 ^ k := by
    rw [Nat.lt_div_iff_mul_lt p1, hu]; omega
  refine ⟨by omega, hb, hu, ⟨h.inv.set (by omega) hb (fun v _ => ?_) (fun v _ hv => ?_) ?_, by omega, ?_⟩⟩
  · rw [ind_iff, hu]
    by_cases e1 : v < u
    · rw [if_pos e1, if_pos (by omega), if_neg (by omega)]
    · rw [if_neg e1]
      by_cases e2 : v < u + 2 ^ k
      · rw [if_pos e2, if_pos (by omega)]
      · rw [if_neg e2, if_neg (by omega)]
  · rw [Nat.div_eq_iff p1, hu] at hv
    rw [if_pos (by omega)]
  · by_cases e : k = 6
    · exact .inl e
    · right
      cases hf : F k (bud (u / 2 ^ k))
      · rfl
      · exfalso
        have h1 := h.inv.inside k (by omega) _ hf
        have h2 := hmul (k + 1) (by omega)
        have h3 : u / 2 ^ k % 2 = 0 := by
          rw [Nat.pow_succ] at h2
          have := Nat.mod_mul_right_div_self u (2 ^ k) 2
          rw [h2] at this
          simpa using this.symm
        have h4 : bud (u / 2 ^ k) = u / 2 ^ k + 1 := by unfold bud; rw [if_pos h3]
        rw [h4] at h1
        have h5 := block_lt h1
        rw [Nat.add_mul, hu, Nat.one_mul] at h5
        have h6 : nu - u < 2 ^ (k + 1) := by
          have e2 : Lib.bitLen (nu - u) = k + 1 := by omega
          rw [← e2]; exact b2
        rw [Nat.pow_succ] at h6
        omega
  · by_cases e : k = 6
    · refine ⟨6, by omega, ?_, .inl rfl⟩
      have h1 := hmul 6 (by omega)
      rw [e, Nat.add_mod_right]; exact h1
    · refine ⟨k, k6, ?_, .inr ?_⟩
      · rw [Nat.add_mod_right]; exact hmul k (by omega)
      · have e2 : Lib.bitLen (nu - u) = k + 1 := by omega
        rw [e2, Nat.pow_succ] at b2
        omega
theorem Upto.done {nu : Nat} {F : Nat → Nat → Bool} (h : Upto nu F nu) : Inv nu F (fun _ => 0) (fun _ => 0) :=
  ⟨fun u hu => by have := h.inv.cov u hu; rw [if_pos hu] at this; exact this, h.inv.half, h.inv.inside, h.inv.asks⟩

structure Began (nu : Nat) (f g : Nat → Int) : Prop where
  st : HpS nu g
  ak : ask nu g = fun _ => 0
  root : ∀ i, 2 ≤ i → i < 18 → g i = 0

theorem ask_zero {nu : Nat} {f : Nat → Int} (hz : ∀ i, i < fi nu → f i = 0) : ask nu f = fun _ => 0 := by
  funext u
  have fg := fi_ge nu
  by_cases hu : u < 4 * qa nu
  · rw [ask_of hu, hz _ (by omega)]; simp [dig]
  · rw [ask_no hu]
theorem fre_zeros {nu : Nat} {f : Nat → Int} (hz : ∀ i, i < fi nu → f i = 0) : fre nu f = fun _ _ => false := by
  funext k c
  unfold fre
  by_cases hb : c < 64 * gr nu k
  · have := Bw_lt hb
    have fg := fi_ge nu
    rw [hz _ (by omega)]; simp
  · simp [hb]
theorem inP_none {nu : Nat} : inP nu (fun _ => 0) = 0 := sumTo_zero fun u _ => by unfold cv sum7 pc; simp

theorem began_of {nu : Nat} {f g2 g : Nat → Int} (hz : ∀ i, i < fi nu → f i = 0) (e2 : g2 = upd (upd f 0 7522525887014645809) 1 (8 * nu : Nat)) (b : Bits nu g2 g) (hf : Upto nu (fre nu g) nu) : Began nu f g := by
  have fg := fi_ge nu; have ag := aw_ge nu
  have hak : ask nu g = fun _ => 0 := by rw [b.ak, e2, ask_upd _ (.inl (by omega)), ask_upd _ (.inl (by omega))]; exact ask_zero hz
  refine ⟨⟨b.wd, ?_, by rw [hak]; exact hf.done, ?_⟩, hak, fun i h2 h18 => ?_⟩
  · rw [b.out 0 (.inl (by omega)), e2, upd_other _ _ (by omega), upd_same]
  · rw [b.out 1 (.inl (by omega)), e2, upd_same, hak, inP_none]; rfl
  · rw [b.out i (.inl h18), e2, upd_other _ _ (by omega), upd_other _ _ (by omega)]; exact hz i (by omega)

set_option maxRecDepth 20000 in
set_option maxHeartbeats 4000000 in
theorem h_begin (h : Hp nu sz w hb sb b T A P) (hm : P.length + 4100 ≤ 6144) (hz : ∀ i, i < fi nu → says P A i = 0) : Calls Tryz.prog 98 #[ptr hb] w fun e w' => e = .returned (.tuple #[]) ∧ ∃ g, To sz w sb b T A w' g (P.length + 4100) ∧ Began nu (says P A) g := by
  have c0 := h.hp.c0; have c1 := h.hp.c1
  obtain ⟨g1, g2, g3, g4, g5, g6⟩ := h.hp.geo.b
  have P0 : Calls Tryz.prog 56 #[ptr sb, .int .i64 0, .int .u64 7522525887014645809] w _ := h.put (by omega) 0 (by omega) 7522525887014645809
  have HP0 := hide P0; have HH := hide h; have HZ := hide hz
  clear P0 h hz
  go_enter Tryz.func98, Tryz.ntmps98
  go_wp2_with fail
  refine (unhide HP0).mono ?_
  clear HP0
  rintro e w1 ⟨rfl, T1, P1, o1, eg1, el1⟩
  have h1 := (unhide HH).call o1
  have c0' := h1.hp.c0; have c1' := h1.hp.c1
  have AL : ∀ q, Calls Tryz.prog 154 #[ptr hb] (w1.drewN q) fun e w' => e = .returned (.int .i64 (nu * 8)) ∧ w' = w1.drewN q := fun q => h_all hb nu (by omega) (w1.drewN q) c1'
  have PU : ∀ q, Calls Tryz.prog 56 #[ptr sb, .int .i64 1, .int .u64 ((nu : Int) * 8)] (w1.drewN q) _ := fun q => (h1.still ((Fr.refl _ w1).drewN q)).put (by omega) 1 (by omega) ((nu : Int) * 8)
  have hw8 : IntKind.u64.wrap ((nu : Int) * 8) = (nu : Int) * 8 := by rw [IntKind.wrap_u64]; omega
  have HAL := @hide _ AL; have HPU := @hide _ PU; have HH1 := hide h1; have HO1 := hide o1; have HE1 := hide eg1
  clear AL PU h1 o1 eg1 c0 c1
  go_wp2_with fail
  refine region_tailP 7 (by kernel_rfl) (by kernel_rfl) ?_
  simp only [List.take_succ_cons, List.take_zero, List.drop_succ_cons, List.drop_zero]
  repeat (go_big_quiet_step (first | (go_at_call 154; exact Calls.quiet_of_same (unhide HAL _))))
  refine wpQuiet_nil ?_
  rintro _ ⟨nq, rfl⟩
  clear HAL
  go_wp2_with fail
  refine (unhide HPU nq).mono ?_
  clear HPU
  rintro e w2 ⟨rfl, T2, P2, o2, eg2, el2⟩
  have o2' := o2.after ((Fr.refl (fun _ => False) w1).drewN nq)
  have h2 := (unhide HH1).call o2'
  have eg2' : says P2 A = upd (upd (says P A) 0 7522525887014645809) 1 (8 * nu : Nat) := by rw [eg2, unhide HE1, show ((8 * nu : Nat) : Int) = (nu : Int) * 8 by omega]
  have z2 : Words64 nu (says P2 A) := by
    rw [eg2']
    refine words_upd (words_upd (fun i hi => ?_) 0 7522525887014645809 (by omega)) 1 (8 * nu) (by omega)
    rw [unhide HZ i hi]; omega
  have f2 : Upto nu (fre nu (says P2 A)) 0 := by
    rw [eg2', fre_upd _ (.inl (by omega)), fre_upd _ (.inl (by omega)), fre_zeros (unhide HZ)]; exact upto_0 nu
  have HH2 := hide h2; have HO2 := hide o2'; have HE2 := hide eg2'; have HX2 := hide (And.intro z2 f2)
  clear o2 o2' h2 eg2 eg2' c0' c1' z2 f2
  go_wp2_with fail
  go_loopw [2] (fun i wr => ∃ u : Nat, i = .int .i64 u ∧ ∃ T' P', Onx w2 sb b T2 wr T' sz A P' false ∧ P'.length ≤ P2.length + u ∧ Bits nu (says P2 A) (says P' A) ∧ Upto nu (fre nu (says P' A)) u) (fun i wr => nu - (intOf i).toNat)
  case atStart => exact ⟨0, rfl, T2, P2, Onx.start (unhide HH2).st, by omega, ⟨(unhide HX2).1, rfl, fun _ _ => rfl⟩, (unhide HX2).2⟩
  case round =>
    clear HX2
    obtain ⟨u, rfl, T', P', o, el, bt, fs⟩ := hrel
    have hle := fs.le
    have h3 := (unhide HH2).call o
    have c1 := h3.hp.c1
    by_cases hlt : u < nu
    · obtain ⟨k, hk⟩ : ∃ k, k = min 6 (Lib.bitLen (nu - u) - 1) := ⟨_, rfl⟩
      obtain ⟨t2, t3, t4, t5⟩ := fs.step hlt (by omega) hk
      obtain ⟨-, -, t7, t8⟩ := bl_of (show 0 < nu - u by omega) (by omega)
      obtain ⟨c, hc⟩ : ∃ c, u / 2 ^ k = c := ⟨_, rfl⟩
      have t6 := hc
      rw [hc] at t3 t5
      have SF := h_setFree h3 bt.wd (by omega) k c (gr_ge t2 t3) true
      have BL : Calls Tryz.prog 155 #[.int .u64 ((nu : Int) - (u : Int))] wr _ := Tryz.bits_Len ((nu : Int) - (u : Int)) wr (by omega) (by omega)
      rw [show ((nu : Int) - (u : Int)).toNat = nu - u by omega] at BL
      obtain ⟨L, hL⟩ : ∃ L, Lib.bitLen (nu - u) = L := ⟨_, rfl⟩
      rw [hL] at BL t7 t8 hk
      obtain ⟨Y, hY⟩ : ∃ Y, 2 ^ k = Y := ⟨_, rfl⟩
      have hYe : ((2 : Int) ^ k) = Y := by rw [← hY]; simp
      have hY6 : Y ≤ 64 := by rw [← hY]; exact Nat.pow_le_pow_right (n := 2) (j := 6) (by omega) (by omega)
      have hw1 : wrap64 (Y : Int) = Y := small_w64 (by omega)
      have hY0 : 0 < Y := by rw [← hY]; exact two_pos k
      rw [hY] at t6
      have huc : (u : Int) / Y = c := by rw [← t6]; omega
      have hmin : min 6 ((L : Int) - 1) = k := by omega
      have HSF := hide SF; rw [hY] at t5; have HX := hide (And.intro o (And.intro bt t5)); have HH3 := hide h3
      have hnu : ((u : Int) < nu) = True := by simp; omega
      have hn4 := g5.2
      have hu4 : u ≤ 4000 := by omega
      have hL12 : L ≤ 12 := t8
      have hL1 : 1 ≤ L := t7
      clear SF o bt fs h3 t4 t5 t6 t7 t8 hL hc t3 hk hle g1 g2 g3 g4 g5 g6
      go_wp2_with (first | (go_at_call 155; refine BL.mono ?_; rintro e w' ⟨rfl, hh⟩; replace hh := hh.symm; subst hh) | fail)
      refine (unhide HSF).mono ?_
      clear HSF BL
      rintro e w4 ⟨rfl, g4, ⟨T4, P4, o4, eg4, el4⟩, b4, f4⟩
      have HX4 := hide (And.intro o4 (And.intro eg4 (And.intro b4 f4)))
      clear o4 eg4 b4 f4
      have HEL := hide (And.intro el4 (And.intro el (And.intro el1 (And.intro el2 hm))))
      clear el el1 el2 el4 hm hw8 hnu hL12 hL1 hmin huc hY c1
      go_wp2
      obtain ⟨el4, el, el1, el2, hm⟩ := unhide HEL
      obtain ⟨o4, eg4, b4, f4⟩ := unhide HX4
      obtain ⟨o, bt, t5⟩ := unhide HX
      rw [← eg4] at b4 f4
      refine ⟨⟨u + Y, by go_num, T4, P4, o.trans o4, by omega, bt.trans b4, ?_⟩, by simp [intOf]; omega⟩
      rw [f4]; exact t5
    · have eu : u = nu := by omega
      subst eu
      have HX := hide (And.intro o (And.intro bt fs))
      clear o bt fs h3
      go_wp2
      go_end0
      obtain ⟨o, bt, fs⟩ := unhide HX
      exact ⟨rfl, _, ⟨T', P', ((unhide HO1).trans (unhide HO2)).trans o, rfl, by omega⟩, began_of (unhide HZ) (unhide HE2) bt fs⟩
end

def rb (base : Nat → Int) : Nat → Int := fun i => base (12400 + i)

section
variable {nu sz : Nat} {w w' w0 : World} {X : Nat → Prop} {hb sb b : Nat} {T : Tay} {A : Ab} {P : List (Int × Int)} {N : Nat} {free : Prop} {s : Int} {f base : Nat → Int}

theorem says_base (c : Calm N free A s f) (k : Clean 0 12304 base f) (P : List (Int × Int)) : says P A = rb (homed P base) := by
  funext i
  show homed P A.now (12400 + i) = homed P base (12400 + i)
  unfold homed
  split
  · rfl
  · rw [c.now, k.out _ (.inr (by omega))]

structure HpC (nu sz : Nat) (w0 : World) (X : Nat → Prop) (w : World) (hb sb b : Nat) (T : Tay) (A : Ab) (N : Nat) (free : Prop) (s : Int) (base : Nat → Int) : Prop where
  hd : Hold w0 X w sb b sz T A [] false
  cl : ∃ f, Calm N free A s f ∧ Clean 0 12304 base f
  hp : HpL nu sz w hb sb
  xh : X hb
  l0 : 0 < w0.heap.size

theorem HpC.toHp (h : HpC nu sz w0 X w hb sb b T A N free s base) : Hp nu sz w hb sb b T A [] := by
  obtain ⟨f, c, k⟩ := h.cl
  exact ⟨h.hd.st, h.hp, h.hd.ap hb h.xh, fun ht => by have := h.hd.new 0 ht; have := h.l0; omega, c.dead⟩
theorem HpC.says (h : HpC nu sz w0 X w hb sb b T A N free s base) (P : List (Int × Int)) : says P A = rb (homed P base) := by
  obtain ⟨f, c, k⟩ := h.cl
  exact says_base c k P

set_option maxHeartbeats 1000000 in
theorem h_openC_new {bx : Nat} (h : Hp nu sz w hb sb b T A P) (hm : P.length + 4100 ≤ 6144) (hz : ∀ i, i < fi nu → says P A i = 0) (bc : w.cell? ⟨bx, 0, none⟩ = some (ptr hb)) : Calls Tryz.prog 96 #[ptr bx] w fun e w' => e = .returned (.tuple #[]) ∧ ∃ g, To sz w sb b T A w' g (P.length + 4100) ∧ Began nu (says P A) g := by
  have BL := h_blank h hz
  have BG := h_begin h hm hz
  have HBL := hide BL; have HBG := hide BG
  clear BL BG h hz
  go_enter Tryz.func96, Tryz.ntmps96
  go_wp2_with fail
  refine (unhide HBL).mono ?_
  rintro e w1 ⟨rfl, hh⟩
  replace hh := hh.symm
  subst hh
  clear HBL
  go_wp2_with fail
  refine (unhide HBG).mono ?_
  clear HBG
  rintro e w1 ⟨rfl, x⟩
  have HX := hide x
  clear x
  go_wp2
  go_end0
  exact ⟨rfl, unhide HX⟩

theorem HpU.hpl (h : HpU w hb sb nu (fun k => (Bw nu k : Int)) (aw nu) (fi nu)) (G : Geo nu sz) (tab : TabL w) : HpL nu sz w hb sb := ⟨G, h.c0, h.c1, h.cb, h.c9, h.c10, tab⟩

set_option maxRecDepth 20000 in
set_option maxHeartbeats 4000000 in
theorem h_open_by {R : List (Int × Int) → Prop} (G : Geo nu sz) (st : StL w sb b T sz A [] false) (c : Calm N free A s f) (k : Clean 0 12304 base f) (tab : TabL w) (n0 : ¬ tfoot sb b T 0) (hs : s + 30729 < 4294967296)
    (hclo : ∀ (w1 : World) (hb bx : Nat), Hp nu sz w1 hb sb b T A [] → w1.cell? ⟨bx, 0, none⟩ = some (ptr hb) → Calls Tryz.prog 96 #[ptr bx] w1 fun e w' => e = .returned (.tuple #[]) ∧ ∃ T' P', Onx w1 sb b T w' T' sz A P' false ∧ R P') :
    Calls Tryz.prog 46 #[ptr sb] w fun e w' => (∃ hb P' T' A', e = .returned (.tuple #[ptr hb, .int .i64 0]) ∧ w.heap.size ≤ hb ∧ HpL nu sz w' hb sb ∧ R P' ∧ Onx w sb b T w' T' sz A' [] false ∧ ¬ tfoot sb b T' hb ∧ Done N free (s + 30729) base P' A') ∨
      (∃ P' T' A', e = .returned (.tuple #[.pointer none, .int .i64 50]) ∧ R P' ∧ Onx w sb b T w' T' sz A' P' true ∧ Gone N free (s + 30729) base P' A') := by
  have SZ : Calls Tryz.prog 94 #[ptr sb] w fun e w' => e = .returned (.int .i64 sz) ∧ w' = w := t_size (n := sz) st.c2
  obtain ⟨g1, g2, g3, g4, g5, g6⟩ := G.b
  have hsz : ((sz : Int) < 1024) = False := by simp; omega
  have LO := h_laidOut (w := w) (sb := sb) G st.c2
  have e1 := eq_nil_stor
  have HLO := hide LO; have HST := hide st; have HCL := @hide _ hclo; have HCK := hide (And.intro c k); have HTB := hide tab; have HN0 := hide n0
  clear LO st c k hclo tab n0
  go_enter Tryz.func46, Tryz.ntmps46
  go_wp2_with (first | (go_at_call 94; refine SZ.mono ?_; rintro e w' ⟨rfl, hh⟩; replace hh := hh.symm; subst hh) | fail)
  refine (unhide HLO).mono ?_
  clear HLO SZ
  rintro e w1 ⟨rfl, hu, f1, l1⟩
  obtain ⟨W, hW⟩ : ∃ W, w1.alloc (.cells #[ptr w.heap.size] 25) = W := ⟨_, rfl⟩
  have fW : Still w1 W := hW ▸ (Fr.refl _ w1).alloc _
  have bx : Box W w1.heap.size (ptr w.heap.size) := hW ▸ Box.new w1 (ptr w.heap.size) 25
  have f0W : Still w W := f1.trans' fW (fun _ x => x.elim)
  have tabW : TabL W := fun j hj => f0W.cell' (unhide HTB j hj) (fun x => x)
  have stW := (unhide HST).still f0W
  have huW := (hu.still fW).hpl G tabW
  have nh : ¬ tfoot sb b T w.heap.size := fun ht => by have := (unhide HST).lt _ ht; omega
  have D := t_do (R := fun h P' => h = .well ∧ R P') stW (unhide HCK).1 (unhide HCK).2 (g := 96) (fi := #[]) (ca := #[ptr w1.heap.size]) (fun w2 f2 => acts_of (fun _ _ => by kernel_rfl) ((unhide HCL w2 w.heap.size w1.heap.size ⟨stW.still f2, huW.kept f2 (fun x => x) (fun x => x), nh, unhide HN0, (unhide HCK).1.dead⟩ (f2.cell' bx.c (fun x => x))).mono (by
    rintro e w3 ⟨rfl, T', P', o, r⟩
    exact ⟨.well, rfl, .inl rfl, T', P', o, rfl, r⟩))) hs
  have bc := bx.c
  rw [← hW] at bc
  have HD := hide D; have HX := hide (And.intro huW (And.intro f0W nh)); have HW := hide hW; have HBX := hide bx
  have ltb : w1.heap.size < W.heap.size := bx.lt
  have nb : ¬ tfoot sb b T w1.heap.size := fun ht => by have := (unhide HST).lt _ ht; have := f1.size; omega
  clear D huW f0W nh stW tabW fW hW bx hu f1
  go_wp2_with fail
  rw [unhide HW]
  unfold Did at HD
  refine (unhide HD).mono ?_
  clear HD
  rintro e w3 (⟨P', ⟨_, r⟩, rfl, T', A', o, d⟩ | ⟨P', ⟨_, r⟩, rfl, T', A', o, d⟩ | ⟨i, P', ⟨e, _⟩, _⟩ | ⟨y, P', ⟨e, _⟩, _⟩)
  · have bc3 : w3.cell? ⟨w1.heap.size, 0, none⟩ = some (ptr w.heap.size) := o.fr.cell' (unhide HBX).c nb
    have HO := hide (And.intro r (And.intro o d))
    clear r o d bc
    go_wp2
    go_ret2
    obtain ⟨r, o, d⟩ := unhide HO
    obtain ⟨huW, f0W, nh⟩ := unhide HX
    have lh : w.heap.size < W.heap.size := by omega
    have o' := o.after f0W
    exact .inl ⟨w.heap.size, P', T', A', rfl, Nat.le_refl _, huW.kept o.fr nh (unhide HN0), r, o', o.other lh nh, d⟩
  · have HO := hide (And.intro r (And.intro o d))
    clear r o d bc
    go_wp2
    go_ret2
    obtain ⟨r, o, d⟩ := unhide HO
    exact .inr ⟨P', T', A', rfl, r, o.after (unhide HX).2.1, d⟩
  · injection e with e; cases e
  · injection e with e; cases e
end
end

section
section
variable {nu sz : Nat} {w w' w0 : World} {X V : Nat → Prop} {hb sb b : Nat} {T : Tay} {A : Ab} {N : Nat} {free : Prop} {s : Int} {base : Nat → Int}

theorem HpC.still (h : HpC nu sz w0 X w hb sb b T A N free s base) (hf : Still w w') : HpC nu sz w0 X w' hb sb b T A N free s base :=
  ⟨h.hd.still hf, h.cl, h.hp.kept hf (fun x => x) (fun x => x), h.xh, h.l0⟩
theorem HpC.more (h : HpC nu sz w0 X w hb sb b T A N free s base) (o : Obj) : HpC nu sz w0 (fun k => X k ∨ k = w.heap.size) (w.alloc o) hb sb b T A N free s base :=
  ⟨h.hd.more o, h.cl, h.hp.kept ((Fr.refl (fun _ => False) w).alloc o) (fun x => x) (fun x => x), .inl h.xh, h.l0⟩
theorem HpC.var (h : HpC nu sz w0 X w hb sb b T A N free s base) {F : Nat → Prop} (hf : Fr F w w') (hF : ∀ k, F k → X k) (hn : ¬ F hb) : HpC nu sz w0 X w' hb sb b T A N free s base :=
  ⟨h.hd.var hf hF, h.cl, h.hp.kept hf hn (fun e => by have := (h.hd.xl 0 (hF 0 e)).1; have := h.l0; omega), h.xh, h.l0⟩
theorem HpC.sub {Y : Nat → Prop} (h : HpC nu sz w0 X w hb sb b T A N free s base) (hX : ∀ k, Y k → X k) (hy : Y hb) : HpC nu sz w0 Y w hb sb b T A N free s base := ⟨h.hd.sub hX, h.cl, h.hp, hy, h.l0⟩
theorem HpC.slow (h : HpC nu sz w0 X w hb sb b T A N free s base) {t : Int} (ht : s ≤ t) : HpC nu sz w0 X w hb sb b T A N free t base := by
  obtain ⟨f, c, k⟩ := h.cl
  exact { h with cl := ⟨f, c.more ht, k⟩ }

def DidH (nu sz : Nat) (w0 : World) (X V : Nat → Prop) (w : World) (hb sb b : Nat) (T : Tay) (A : Ab) (N : Nat) (s : Int) (base : Nat → Int) (R : How → List (Int × Int) → World → Prop) (e : Ending) (w' : World) : Prop :=
  Fr (fun k => tfoot sb b T k ∨ V k) w w' ∧ ((∃ P' T' A', R .well P' w' ∧ e = .returned (.int .i64 0) ∧ HpC nu sz w0 X w' hb sb b T' A' N True (s + 30729) (homed P' base)) ∨
  (∃ i P' T', R (.errno i) P' w' ∧ e = .returned (.int .i64 i) ∧ HpC nu sz w0 X w' hb sb b T' A N True s base))

theorem HpC.do_ {g : Nat} {fi ca : Array Value} {R : How → List (Int × Int) → World → Prop} (h : HpC nu sz w0 X w hb sb b T A N True s base) (hV : ∀ k, V k → X k) (hn : ¬ V hb) (hR : Stays V R)
    (hf : ChangeX V w sb b T sz A (.func (.func g) fi ca) R) (hs : s + 30729 < 4294967296) :
    Calls Tryz.prog 11 #[ptr sb, .func (.func g) fi ca] w (DidH nu sz w0 X V w hb sb b T A N s base R) := by
  obtain ⟨f, c, k⟩ := h.cl
  refine (t_doX h.hd.st c k (fun k hk => ⟨(h.hd.xl k (hV k hk)).2, h.hd.ap k (hV k hk)⟩) hR hf hs).mono ?_
  have key : ∀ {w' : World} {T' : Tay} {A' : Ab}, OnxX V w sb b T w' T' sz A' [] false → Hold w0 X w' sb b sz T' A' [] false ∧ HpL nu sz w' hb sb := by
    intro w' T' A' o
    refine ⟨⟨o.st, h.hd.fr.trans' o.fr (fun k hk => .inr (hk.elim (h.hd.new k) (fun x => (h.hd.xl k (hV k x)).1))), fun k hk => (o.sub k hk).elim (h.hd.new k) (fun x => Nat.le_trans h.hd.fr.size x), fun k hk => o.other (h.hd.xl k hk).2 (h.hd.ap k hk), fun k hk => ⟨(h.hd.xl k hk).1, Nat.lt_of_lt_of_le (h.hd.xl k hk).2 o.fr.size⟩⟩, ?_⟩
    refine h.hp.kept o.fr (fun e => e.elim (h.hd.ap hb h.xh) hn) (fun e => ?_)
    have l0 := h.l0
    rcases e with e | e
    · have := h.hd.new 0 e; omega
    · have := (h.hd.xl 0 (hV 0 e)).1; omega
  rintro e w' (⟨P', r, rfl, T', A', o, f', c', k'⟩ | ⟨_, _, _, _, _, _, hg, _⟩ | ⟨i, P', r, rfl, T', o⟩)
  · exact ⟨o.fr, .inl ⟨P', T', A', r, rfl, (key o).1, ⟨f', c', k'⟩, (key o).2, h.xh, h.l0⟩⟩
  · exact absurd trivial hg
  · exact ⟨o.fr, .inr ⟨i, P', T', r, rfl, (key o).1, ⟨f, c, k⟩, (key o).2, h.xh, h.l0⟩⟩

structure NewH (nu : Nat) (g : Nat → Int) : Prop where
  st : HpS nu g
  ak : ask nu g = fun _ => 0
  root : ∀ i, 2 ≤ i → i < 18 → g i = 0

theorem eq_nil_heap (b : Nat) (w : World) : (binOp .eql 25 (ptr b) (.pointer none)).run Tryz.prog w = .ok (.bool false) w := by kernel_rfl

end
end

section
set_option maxHeartbeats 1000000 in
theorem law_open (n N : Nat) (hn : N * 8 = 12400 + n) (hn0 : 0 < n) (hN : N ≤ 8192) (w : World) :
    Calls Tryz.prog 45 #[.int .i64 ((N : Int) * 8)] w fun e w' => ∃ b sb T A, e = .returned (.tuple #[ptr b, ptr sb]) ∧ Opd w b sb n T A w' := by
  have K := new_any N (by omega) hN w
  have HK := hide K
  have h1 := eq_nil_dev
  clear K
  go_enter Tryz.func45, Tryz.ntmps45
  go_wp2_with fail
  refine (unhide HK).mono ?_
  clear HK
  unfold NewOk
  rintro e w1 ⟨rfl, L, d, f, nw⟩
  have K2 := open_new n N hn hn0 w d f nw
  have HK := hide K2
  clear K2 d f nw
  go_wp2_with fail
  refine (unhide HK).mono ?_
  clear HK
  rintro e w2 ⟨sb, T, A, rfl, o⟩
  have HO := hide o
  clear o
  go_wp2
  go_ret2
  exact ⟨_, sb, T, A, rfl, unhide HO⟩

section
variable {nu sz : Nat}
set_option maxRecDepth 20000 in
set_option maxHeartbeats 1000000 in
theorem l8_open (G : Geo nu sz) {N : Nat} (hN8 : N * 8 = 12400 + sz) (w : World) (tab : TabL w) : Calls Tryz.prog 9 #[.int .i64 ((N : Int) * 8)] w fun e w' => ∃ b sb hb T A base, e = .returned (.tuple #[ptr b, ptr sb, ptr hb]) ∧ HpC nu sz w (fun k => k = hb) w' hb sb b T A N True 43021 base ∧ NewH nu (rb base) := by
  obtain ⟨g1, g2, g3, g4, g5, g6⟩ := G.b
  have K : Calls Tryz.prog 45 #[.int .i64 ((N : Int) * 8)] w _ := law_open sz N hN8 (by omega) (by omega) w
  have l0 : 0 < w.heap.size := World.block_lt_of_cell? _ _ (tab 0 (by omega))
  have h1 := eq_nil_stor
  have HK := hide K; have HT := hide tab
  clear K tab
  go_enter Tryz.func9, Tryz.ntmps9
  go_wp2_with fail
  refine (unhide HK).mono ?_
  clear HK
  rintro e w1 ⟨b, sb, T, A, rfl, o⟩
  obtain ⟨N', f, hN, c, k⟩ := o.calm
  have hN' : N' = N := by omega
  subst hN'
  have tab1 : TabL w1 := fun j hj => o.fr.cell' (unhide HT j hj) (fun x => x)
  have OP := h_open_by (R := fun P' => Began nu (says [] A) (says P' A)) G o.st c k tab1 (fun ht => by have := o.new 0 ht; omega) (by omega) (fun w2 hb bx hp bc => (h_openC_new hp (by simp) (fun i hi => by
    rw [says_base c k []]; rfl) bc).mono (by
    rintro e w3 ⟨rfl, g, ⟨T', P', o', eg, -⟩, bg⟩
    subst eg
    exact ⟨rfl, T', P', o', bg⟩))
  have HOP := hide OP; have HO := hide o; have HC := hide (And.intro c k)
  clear OP o c k tab1
  go_wp2_with fail
  refine (unhide HOP).mono ?_
  clear HOP
  rintro e w2 (⟨hb, P', T', A', rfl, lh, hl, bg, o2, nh, f', c', k'⟩ | ⟨_, _, _, _, _, _, hg, _⟩)
  · have HX := hide (And.intro lh (And.intro hl (And.intro bg (And.intro o2 (And.intro nh (And.intro c' k'))))))
    clear lh hl bg o2 nh c' k'
    go_wp2
    go_ret3
    obtain ⟨lh, hl, bg, o2, nh, c', k'⟩ := unhide HX
    have o := unhide HO
    refine ⟨b, sb, hb, T', A', homed P' (fun _ => 0), rfl, ⟨⟨o2.st, o.fr.trans' o2.fr (fun k hk => .inr (o.new k hk)), fun k hk => (o2.sub k hk).elim (o.new k) (fun x => Nat.le_trans o.fr.size x), fun k hk => by subst hk; exact nh, fun k hk => by subst hk; exact ⟨Nat.le_trans o.fr.size lh, World.block_lt_of_cell? _ _ hl.c0⟩⟩, ⟨f', c', k'⟩, hl, rfl, l0⟩, ?_⟩
    rw [← says_base (unhide HC).1 (unhide HC).2 P']
    exact ⟨bg.st, bg.ak, bg.root⟩
  · exact absurd trivial hg
end
end

section
def Nats (k : IntKind) (w : World) (a : Option Addr) (len : Nat) (b : Nat → Nat) : Prop := ∀ i, i < len → ∃ xb xo, a = some ⟨xb, xo, none⟩ ∧ w.cell? ⟨xb, xo + i, none⟩ = some (.int k (b i : Nat))
theorem Nats.on {k : IntKind} {w w' : World} {a : Option Addr} {len : Nat} {b : Nat → Nat} (h : Nats k w a len b) (bl : Below w.heap.size w w') : Nats k w' a len b := by
  intro i hi
  obtain ⟨xb, xo, e, c⟩ := h i hi
  exact ⟨xb, xo, e, (bl.cell (World.block_lt_of_cell? w _ c)).trans c⟩
theorem Nats.to {k : IntKind} {w : World} {a : Option Addr} {len n : Nat} {b : Nat → Nat} (h : Nats k w a len b) (hn : n ≤ len) : Nats k w a n b := fun i hi => h i (by omega)
theorem Nats.drewN {k : IntKind} {w : World} {a : Option Addr} {len : Nat} {b : Nat → Nat} (h : Nats k w a len b) (n : Nat) : Nats k (w.drewN n) a len b := h

theorem Below.drewN' {B : Nat} {a w : World} (h : Below B a w) (n : Nat) : Below B a (w.drewN n) := ⟨h.os, h.tape, h.output, h.size, h.block⟩
theorem Below.up {B : Nat} {a b c : World} (h : Below a.heap.size a b) (k : Below B b c) (hB : a.heap.size ≤ B) : Below a.heap.size a c := h.trans (k.mono hB)

structure Mem (k : IntKind) (w : World) (g n : Nat) (f : Nat → Nat) (wr : World) : Prop where
  cell : ∀ i, i < n → wr.cell? ⟨g, i, none⟩ = some (.int k (f i : Nat))
  fz : ∀ i, wr.frozen? ⟨g, i, none⟩ = false
  bel : Below w.heap.size w wr
  ge : w.heap.size ≤ g
theorem Mem.nats {k : IntKind} {w wr : World} {g n : Nat} {f : Nat → Nat} (h : Mem k w g n f wr) : Nats k wr (some ⟨g, 0, none⟩) n f := fun i hi => ⟨g, 0, rfl, by rw [Nat.zero_add]; exact h.cell i hi⟩
theorem Mem.drewN {k : IntKind} {w wr : World} {g n : Nat} {f : Nat → Nat} (h : Mem k w g n f wr) (q : Nat) : Mem k w g n f (wr.drewN q) := ⟨h.cell, h.fz, ⟨h.bel.os, h.bel.tape, h.bel.output, h.bel.size, h.bel.block⟩, h.ge⟩
theorem Mem.set {k : IntKind} {w wr : World} {g n : Nat} {f : Nat → Nat} (h : Mem k w g n f wr) (i v : Nat) (hi : i < n) : Mem k w g n (fun j => if j = i then v else f j) (wr.setCell ⟨g, i, none⟩ (.int k (v : Nat))) := by
  refine ⟨fun j hj => ?_, fun j => by rw [World.frozen?_setCell]; exact h.fz j, h.bel.setCell h.ge _, h.ge⟩
  by_cases e : j = i
  · subst e; rw [World.cell?_setCell_same _ _ _ (h.cell j hj)]; simp
  · rw [World.cell?_setCell_other _ _ _ _ (fun x => e (by injection x with _ x; exact x.symm)), h.cell j hj]; simp [e]
theorem Mem.ext {k : IntKind} {w wr : World} {g n : Nat} {f f' : Nat → Nat} (h : Mem k w g n f wr) (e : ∀ i, i < n → f i = f' i) : Mem k w g n f' wr := ⟨fun i hi => by rw [h.cell i hi, e i hi], h.fz, h.bel, h.ge⟩
theorem Mem.since {k : IntKind} {w0 w wr : World} {g n : Nat} {f : Nat → Nat} (h : Mem k w g n f wr) (b : Below w0.heap.size w0 w) : Mem k w0 g n f wr := ⟨h.cell, h.fz, b.trans (h.bel.mono b.size), Nat.le_trans b.size h.ge⟩
end
end Go.Proofs.YtflnaiijdpihcaaGreatDoor
