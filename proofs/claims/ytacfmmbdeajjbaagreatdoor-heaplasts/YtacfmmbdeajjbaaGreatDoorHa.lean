/- piece, Size, Free, Root. -/
import Derived.Test.YtacfmmbdeajjbaaGreatDoorHq
namespace Go.Proofs.YtacfmmbdeajjbaaGreatDoor
open Go.RowKit

section
variable {w : World} {hb sb : Nat} {f : Nat → Int}

set_option maxHeartbeats 1000000 in
theorem h_piece (h : HpL w hb sb) (rd : Rds w sb f) (wd : Words64 f) (u : Nat) (hu : u < 478) :
    Calls Tryz.prog 40 #[ptr hb, .int .i64 (160 + u * 8)] w fun e w' => ((begs (ask f) u = true ∧ e = .returned (.tuple #[.int .i64 u, .int .i64 (ask f u)])) ∨ (begs (ask f) u = false ∧ e = .panicked (errnoQ 1))) ∧ Dr w w' := by
  have c1 := h.c1; have c10 := h.c10
  have AL : ∀ q, Calls Tryz.prog 7 #[ptr hb] (w.drewN q) fun e w' => e = .returned (.int .i64 3824) ∧ w' = w.drewN q := fun q => h_all hb 478 (by omega) (w.drewN q) c1
  have HAL := @hide _ AL
  obtain ⟨r0, r1⟩ := wd (36 + u / 4) (by omega)
  have e1 : ((160 + (u : Int) * 8) < 160) = False := by simp; omega
  have e2 : ((3984 : Int) ≤ 160 + (u : Int) * 8) = False := by simp; omega
  have e3 : ((160 + (u : Int) * 8) % 8 != 0) = false := by simp
  have e4 : (160 + (u : Int) * 8 - 160) / 8 = u := by omega
  have HH := hide h; have HRD := hide rd; have HR := hide (And.intro r0 r1)
  clear AL h rd wd r0 r1
  go_enter Tryz.func40, Tryz.ntmps40
  go_wp2_with fail
  refine region_tailP 21 (by kernel_rfl) (by kernel_rfl) ?_
  simp only [List.take_succ_cons, List.take_zero, List.drop_succ_cons, List.drop_zero]
  repeat (go_big_quiet_step (first | (go_at_call 7; exact Calls.quiet_of_same (unhide HAL _))))
  refine wpQuiet_nil ?_
  rintro _ ⟨nq, rfl⟩
  clear HAL e1 e2 e3
  have D1 : Dr w (w.drewN nq) := ⟨nq, rfl⟩
  have BG := h_begins ((unhide HH).dr D1) ((unhide HRD).dr D1) u (by omega) (unhide HR).1 (unhide HR).2
  have HBG := hide BG
  have c10' := ((unhide HH).dr D1).c10
  generalize w.drewN nq = w1 at *
  clear BG c1 c10
  go_wp2_with fail
  refine (unhide HBG).mono ?_
  clear HBG
  rintro e w2 ⟨rfl, D2⟩
  have D12 := D1.trans D2
  have AK := h_asked ((unhide HH).dr D12) ((unhide HRD).dr D12) u (by omega) (unhide HR).1 (unhide HR).2
  have HAK := hide AK; have HD := hide D12
  clear AK D12 D1 D2 HH HRD HR c10'
  cases hbg : begs (ask f) u
  · go_wp2
    exact ⟨rfl, .inr ⟨hbg, rfl⟩, unhide HD⟩
  · go_wp2_with fail
    refine (unhide HAK).mono ?_
    clear HAK
    rintro e w3 ⟨rfl, D3⟩
    have HD3 := hide ((unhide HD).trans D3)
    clear D3 HD
    go_wp2
    go_ret2
    exact ⟨.inl ⟨hbg, rfl⟩, unhide HD3⟩

set_option maxHeartbeats 1000000 in
theorem h_piece_no (h : HpL w hb sb) (at_ : Int) (ha : at_ < 160 ∨ 3984 ≤ at_ ∨ at_ % 8 ≠ 0) :
    Calls Tryz.prog 40 #[ptr hb, .int .i64 at_] w fun e w' => e = .panicked (errnoQ 1) ∧ Dr w w' := by
  have c1 := h.c1; have c10 := h.c10
  have AL : ∀ q, Calls Tryz.prog 7 #[ptr hb] (w.drewN q) fun e w' => e = .returned (.int .i64 3824) ∧ w' = w.drewN q := fun q => h_all hb 478 (by omega) (w.drewN q) c1
  have HAL := @hide _ AL
  clear AL h
  by_cases h1 : at_ < 160
  · have e1 : (at_ < 160) = True := by simp [h1]
    clear ha
    go_enter Tryz.func40, Tryz.ntmps40
    go_wp2_with fail
    refine region_tailP 21 (by kernel_rfl) (by kernel_rfl) ?_
    simp only [List.take_succ_cons, List.take_zero, List.drop_succ_cons, List.drop_zero]
    repeat (go_big_quiet_step (first | (go_at_call 7; exact Calls.quiet_of_same (unhide HAL _))))
    refine wpQuiet_nil ?_
    rintro _ ⟨nq, rfl⟩
    clear HAL
    go_wp2
    exact ⟨rfl, rfl, nq, rfl⟩
  · have e1 : (at_ < 160) = False := by simp; omega
    by_cases h2 : 3984 ≤ at_
    · have e2 : ((3984 : Int) ≤ at_) = True := by simp [h2]
      clear ha
      go_enter Tryz.func40, Tryz.ntmps40
      go_wp2_with fail
      refine region_tailP 21 (by kernel_rfl) (by kernel_rfl) ?_
      simp only [List.take_succ_cons, List.take_zero, List.drop_succ_cons, List.drop_zero]
      repeat (go_big_quiet_step (first | (go_at_call 7; exact Calls.quiet_of_same (unhide HAL _))))
      refine wpQuiet_nil ?_
      rintro _ ⟨nq, rfl⟩
      clear HAL
      go_wp2
      exact ⟨rfl, rfl, nq, rfl⟩
    · have e2 : ((3984 : Int) ≤ at_) = False := by simp; omega
      have e3 : (at_ % 8 != 0) = true := by simp; omega
      clear ha
      go_enter Tryz.func40, Tryz.ntmps40
      go_wp2_with fail
      refine region_tailP 21 (by kernel_rfl) (by kernel_rfl) ?_
      simp only [List.take_succ_cons, List.take_zero, List.drop_succ_cons, List.drop_zero]
      repeat (go_big_quiet_step (first | (go_at_call 7; exact Calls.quiet_of_same (unhide HAL _))))
      refine wpQuiet_nil ?_
      rintro _ ⟨nq, rfl⟩
      clear HAL
      go_wp2
      exact ⟨rfl, rfl, nq, rfl⟩

/-- No piece begins at a place. -/
def NoPiece (K : Nat → Nat) (at_ : Int) : Prop := ∀ u : Nat, u < 478 → at_ = 160 + u * 8 → begs K u = false

theorem h_piece_none (h : HpL w hb sb) (rd : Rds w sb f) (wd : Words64 f) (at_ : Int) (ha : NoPiece (ask f) at_) :
    Calls Tryz.prog 40 #[ptr hb, .int .i64 at_] w fun e w' => e = .panicked (errnoQ 1) ∧ Dr w w' := by
  by_cases hc : at_ < 160 ∨ 3984 ≤ at_ ∨ at_ % 8 ≠ 0
  · exact h_piece_no h at_ hc
  · obtain ⟨u, hu, rfl⟩ : ∃ u : Nat, u < 478 ∧ at_ = 160 + u * 8 := ⟨((at_ - 160) / 8).toNat, by omega, by omega⟩
    refine (h_piece h rd wd u hu).mono ?_
    rintro e w' ⟨⟨hb', _⟩ | ⟨_, rfl⟩, D⟩
    · rw [ha u hu rfl] at hb'; cases hb'
    · exact ⟨rfl, D⟩

set_option maxHeartbeats 400000 in
theorem h_size (h : HpL w hb sb) (rd : Rds w sb f) (wd : Words64 f) (u : Nat) (hu : u < 478) (hbg : begs (ask f) u = true) :
    Calls Tryz.prog 43 #[ptr hb, .int .i64 (160 + u * 8)] w fun e w' => e = .returned (.int .i64 (ask f u)) ∧ Dr w w' := by
  have HK := hide (h_piece h rd wd u hu)
  clear h rd wd
  go_enter Tryz.func43, Tryz.ntmps43
  go_wp2_with fail
  refine (unhide HK).mono ?_
  clear HK
  rintro e w1 ⟨⟨_, rfl⟩ | ⟨hb', _⟩, D⟩
  · have HD := hide D
    clear D
    go_wp2
    go_ret
    exact ⟨rfl, unhide HD⟩
  · rw [hbg] at hb'; cases hb'

set_option maxHeartbeats 400000 in
theorem h_size_none (h : HpL w hb sb) (rd : Rds w sb f) (wd : Words64 f) (at_ : Int) (ha : NoPiece (ask f) at_) :
    Calls Tryz.prog 43 #[ptr hb, .int .i64 at_] w fun e w' => e = .panicked (errnoQ 1) ∧ Dr w w' := by
  have HK := hide (h_piece_none h rd wd at_ ha)
  clear h rd wd ha
  go_enter Tryz.func43, Tryz.ntmps43
  go_wp2_with fail
  refine (unhide HK).mono ?_
  rintro e w1 ⟨rfl, D⟩
  exact ⟨rfl, rfl, D⟩

set_option maxHeartbeats 400000 in
theorem h_free (h : HpL w hb sb) (rd : Rds w sb f) (x : Nat) (hx : x ≤ 3824) (hf : f 1 = x) :
    Calls Tryz.prog 24 #[ptr hb] w fun e w' => e = .returned (.int .i64 x) ∧ w' = w := by
  have c0 := h.c0
  have LD : Calls Tryz.prog 38 #[ptr sb, .int .i64 1] w _ := rd 0 1 (by omega)
  rw [hf] at LD
  have HLD := hide LD
  have hw := small_w64 (x := (x : Int)) (by omega)
  clear LD h rd
  go_enter Tryz.func24, Tryz.ntmps24
  go_wp2_with (go_at_call 38; refine (unhide HLD).mono ?_; rintro e w' ⟨rfl, hh⟩; replace hh := hh.symm; subst hh)
  go_ret
  exact ⟨by simp, rfl⟩

end
end Go.Proofs.YtacfmmbdeajjbaaGreatDoor
