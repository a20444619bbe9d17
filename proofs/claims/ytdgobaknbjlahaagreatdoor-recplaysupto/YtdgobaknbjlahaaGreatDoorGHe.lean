/- cover: whole; Check. -/
import Derived.Test.YtdgobaknbjlahaaGreatDoorGHd
namespace Go.Proofs.YtdgobaknbjlahaaGreatDoor
open Go.RowKit

section
variable {nu sz : Nat} {w w' w1 : World} {hb cb ab sb b : Nat} {T : Tay} {A : Ab} {P : List (Int × Int)} {g : Nat → Nat} {fr : Nat}

set_option maxRecDepth 20000 in
set_option maxHeartbeats 2000000 in
theorem c_whole (h : Hp nu sz w hb sb b T A P) (s : HpS nu (says P A)) (c : CovL nu w hb cb ab sb b T (hv (fre nu (says P A)) (ask nu (says P A))) fr) (hfr : fr + 8 * inP nu (ask nu (says P A)) = 8 * sumTo (hv (fre nu (says P A)) (ask nu (says P A))) nu) :
    Calls Tryz.prog 76 #[ptr cb] w fun e w' => e = .returned (.bool true) ∧ Dr w w' := by
  have hone : ∀ v, v < nu → hv (fre nu (says P A)) (ask nu (says P A)) v = 1 := fun v hv' => s.inv.cov v hv'
  have hsum : sumTo (hv (fre nu (says P A)) (ask nu (says P A))) nu = nu := by
    rw [sumTo_congr hone, sumTo_one]
  have hf1 : says P A 1 = fr := by rw [s.fr]; omega
  have hfr4 : fr ≤ 8 * nu := by omega
  obtain ⟨g1, g2, g3, g4, g5, g6⟩ := h.hp.geo.b
  have c0 := c.c0; have c1 := c.c1; have c2 := c.c2; have h0 := h.hp.c0
  have LD : ∀ q, Calls Tryz.prog 36 #[ptr sb, .int .i64 1] (w.drewN q) _ := fun q => h.reads q 1 (by omega)
  rw [hf1] at LD
  have HLD := @hide _ LD; have HC := hide c; have HO := hide hone
  have hn4 := g5.2
  clear LD c hone hsum hf1 s h hfr g1 g2 g3 g4 g5 g6
  go_enter Tryz.func76, Tryz.ntmps76
  go_wp2_with fail
  go_loopw [10] (fun i wr => ∃ m : Nat, m ≤ nu ∧ i = .int .i64 m ∧ Dr w wr) (fun i wr => nu - (intOf i).toNat)
  case atStart => exact ⟨0, by omega, rfl, Dr.refl w⟩
  case round =>
    obtain ⟨m, hm, rfl, D⟩ := hrel
    have hc := (unhide HC).still D.still
    by_cases hlt : m < nu
    · have cm := hc.by_ m hlt
      rw [unhide HO m hlt] at cm
      have HD := hide D
      clear D hc
      go_wp2
      exact ⟨⟨m + 1, by omega, by go_num, unhide HD⟩, by simp [intOf]; omega⟩
    · have : m = nu := by omega
      subst this
      have c0 := hc.c0; have c2 := hc.c2; have h0 := D.still.cell' h0 (fun x => x)
      obtain ⟨q0, hq0⟩ := D
      have HLD : Hid (∀ q, Calls Tryz.prog 36 #[ptr sb, .int .i64 1] (wr.drewN q) fun e w' => e = .returned (u64 fr) ∧ w' = wr.drewN q) := by
        intro q
        have e : wr.drewN q = w.drewN (q0 + q) := by rw [hq0]; simp [World.drewN, Nat.add_assoc]
        rw [e]; exact unhide HLD (q0 + q)
      have HQ := hide hq0
      clear hq0 hc
      go_wp2_with fail
      refine region_tailP 14 (by kernel_rfl) (by kernel_rfl) ?_
      simp only [List.take_succ_cons, List.take_zero, List.drop_succ_cons, List.drop_zero]
      repeat (go_big_quiet_step (first | (go_at_call 36; exact Calls.quiet_of_same (unhide HLD _))))
      refine wpQuiet_nil ?_
      rintro _ ⟨nq, rfl⟩
      go_wp2
      go_ret
      exact ⟨by simp, q0 + nq, by rw [unhide HQ]; simp [World.drewN, Nat.add_assoc]⟩

set_option maxRecDepth 20000 in
set_option maxHeartbeats 4000000 in
theorem h_check (h : Hp nu sz w hb sb b T A P) (s : HpS nu (says P A)) : Calls Tryz.prog 40 #[ptr hb] w fun e w' => e = .returned (.int .i64 0) ∧ Still w w' := by
  have h0 := h.hp.c0; have h1 := h.hp.c1
  obtain ⟨g1, g2, g3, g4, g5, g6⟩ := h.hp.geo.b
  have m2 : (Instr.makeSlice 46 (.int .i64 nu) (.int .i64 nu)).run Tryz.prog w = .ok (row w.heap.size nu) (w.alloc (.cells (zeroInts nu) 3)) := make_ints nu (by omega) w
  obtain ⟨W1, hW1⟩ : ∃ W1, w.alloc (.cells (zeroInts nu) 3) = W1 := ⟨_, rfl⟩
  obtain ⟨W, hW⟩ : ∃ W, W1.alloc (.cells #[ptr hb, .slice (some ⟨w.heap.size, 0, none⟩) nu nu, .int .i64 0] 110) = W := ⟨_, rfl⟩
  have z1 : W1.heap.size = w.heap.size + 1 := by rw [← hW1]; simp
  have f1 : Still w W1 := hW1 ▸ (Fr.refl _ w).alloc _
  have f2 : Still W1 W := hW ▸ (Fr.refl _ W1).alloc _
  have fW : Still w W := f1.trans' f2 (fun _ x => x.elim)
  have ba : W.heap[w.heap.size]? = some (.cells (zeroInts nu) 3 (0, 0)) := by
    have e1 : W1.heap[w.heap.size]? = some (.cells (zeroInts nu) 3 (0, 0)) := hW1 ▸ heap_alloc_new w _
    rw [f2.block w.heap.size (by omega) (fun x => x)]; exact e1
  have bc : W.heap[w.heap.size + 1]? = some (.cells #[ptr hb, .slice (some ⟨w.heap.size, 0, none⟩) nu nu, .int .i64 0] 110 (0, 0)) := by
    have := heap_alloc_new W1 (.cells #[ptr hb, .slice (some ⟨w.heap.size, 0, none⟩) nu nu, .int .i64 0] 110)
    rw [hW, z1] at this; exact this
  have nt : ∀ k, w.heap.size ≤ k → ¬ tfoot sb b T k := fun k hk ht => by have := h.st.lt k ht; omega
  have l1 := h.lth; have l0 := h.lt0
  have cv0 : CovL nu W hb (w.heap.size + 1) w.heap.size sb b T (fun _ => 0) 0 :=
    { c0 := by rw [cell_of_obj bc]; rfl
      c1 := by rw [cell_of_obj bc]; rfl
      c2 := by rw [cell_of_obj bc]; rfl
      by_ := fun u hu => by rw [cell_of_obj ba, zeroInts_get nu u hu]; rfl
      z1 := fun o => by unfold World.frozen?; rw [bc]; simp
      z2 := fun o => by unfold World.frozen?; rw [ba]; simp
      ne := by omega
      n1 := nt _ (by omega)
      n2 := nt _ (by omega)
      h1 := ⟨by omega, by omega⟩
      h2 := ⟨by omega, by omega⟩
      hn := ⟨by omega, by omega⟩ }
  have hWp := h.still fW
  have LD : Calls Tryz.prog 36 #[ptr sb, .int .i64 0] W _ := hWp.load 0 (by omega)
  rw [s.mrk] at LD
  have PC := c_pieces hWp s cv0
  have h0W := hWp.hp.c0
  have HS := hide s; have HWP := hide hWp; have HLD := hide LD; have HPC := hide PC; have HCV0 := hide cv0; have HFW := hide fW
  rw [← hW1] at hW
  rw [← hW] at h0W
  have HW := hide hW
  clear h s hWp LD PC cv0 fW f1 f2 hW hW1 ba bc nt z1
  go_enter Tryz.func40, Tryz.ntmps40
  go_wp2_with fail
  rw [unhide HW]
  refine (unhide HLD).mono ?_
  clear HLD
  rintro e w' ⟨rfl, hh⟩
  replace hh := hh.symm
  subst hh
  go_wp2_with fail
  refine (unhide HPC).mono ?_
  clear HPC
  rintro e w2 ⟨rfl, hcv2, hcb2⟩
  have hp2 := (unhide HWP).cov (unhide HCV0) hcb2
  have BL := c_blocks hp2 (unhide HS) hcv2
  have HBL := hide BL; have HCV2 := hide hcv2; have HCB2 := hide hcb2; have HP2 := hide hp2
  clear BL hcv2 hcb2 hp2
  go_wp2_with fail
  refine (unhide HBL).mono ?_
  clear HBL
  rintro e w3 ⟨rfl, fr, hcv3, hfr, hcb3⟩
  have hp3 := (unhide HP2).cov (unhide HCV2) hcb3
  have WH := c_whole hp3 (unhide HS) hcv3 hfr
  have HWH := hide WH; have HCB3 := hide hcb3
  clear WH hcv3 hcb3 hp3 hfr
  go_wp2_with fail
  refine (unhide HWH).mono ?_
  clear HWH
  rintro e w4 ⟨rfl, D⟩
  have HD := hide D
  clear D
  go_wp2
  go_ret
  have hcb : Cb (w.heap.size + 1) w.heap.size W w4 := ((unhide HCB2).trans (unhide HCB3)).dr (unhide HD).still
  exact ⟨rfl, (unhide HFW).trans' hcb (fun k hk => by rcases hk with e | e <;> right <;> omega)⟩
end
end Go.Proofs.YtdgobaknbjlahaaGreatDoor
