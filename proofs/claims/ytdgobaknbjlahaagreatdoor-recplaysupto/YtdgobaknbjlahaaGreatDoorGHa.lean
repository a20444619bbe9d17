/- piece, Size, Free, Root. -/
import Derived.Test.YtdgobaknbjlahaaGreatDoorGHq
namespace Go.Proofs.YtdgobaknbjlahaaGreatDoor
open Go.RowKit

section
variable {nu sz : Nat} {w : World} {hb sb : Nat} {f : Nat → Int}

set_option maxHeartbeats 1000000 in
theorem h_piece (h : HpL nu sz w hb sb) (rd : Rds sz w sb f) (wd : Words64 nu f) (u : Nat) (hu : u < nu) :
    Calls Tryz.prog 70 #[ptr hb, .int .i64 (fi nu + u * 8)] w fun e w' => ((begs nu (ask nu f) u = true ∧ e = .returned (.tuple #[.int .i64 u, .int .i64 (ask nu f u)])) ∨ (begs nu (ask nu f) u = false ∧ e = .panicked (errnoQ 1))) ∧ Dr w w' := by
  have c1 := h.c1; have c10 := h.c10
  obtain ⟨g1, g2, g3, g4, g5, g6⟩ := h.geo.b
  have AL : ∀ q, Calls Tryz.prog 85 #[ptr hb] (w.drewN q) fun e w' => e = .returned (.int .i64 (nu * 8)) ∧ w' = w.drewN q := fun q => h_all hb nu (by omega) (w.drewN q) c1
  have HAL := @hide _ AL
  obtain ⟨r0, r1⟩ := wd (aw nu + u / 4) (by omega)
  have e1 : (((fi nu : Int) + (u : Int) * 8) < fi nu) = False := by simp; omega
  have e2 : ((fi nu : Int) + (nu : Int) * 8 ≤ (fi nu : Int) + (u : Int) * 8) = False := by simp; omega
  have f8 := fi_8 nu
  have e3 : ((fi nu : Int) % 8 != 0) = false := by simp; omega
  have e4 : ((fi nu : Int) + (u : Int) * 8 - fi nu) / 8 = u := by omega
  have HH := hide h; have HRD := hide rd; have HR := hide (And.intro r0 r1)
  have hq4 : u < 4 * qa nu := by omega
  have hF := g2.2; have hn4 := g5.2
  clear AL h rd wd r0 r1 g1 g2 g3 g4 g5 g6 f8
  go_enter Tryz.func70, Tryz.ntmps70
  go_wp2_with fail
  refine region_tailP 21 (by kernel_rfl) (by kernel_rfl) ?_
  simp only [List.take_succ_cons, List.take_zero, List.drop_succ_cons, List.drop_zero]
  repeat (go_big_quiet_step (first | (go_at_call 85; exact Calls.quiet_of_same (unhide HAL _))))
  refine wpQuiet_nil ?_
  rintro _ ⟨nq, rfl⟩
  clear HAL e1 e2 e3
  have D1 : Dr w (w.drewN nq) := ⟨nq, rfl⟩
  have BG := h_begins ((unhide HH).dr D1) ((unhide HRD).dr D1) u hq4 (unhide HR).1 (unhide HR).2
  have HBG := hide BG
  have c10' := ((unhide HH).dr D1).c10
  generalize w.drewN nq = w1 at *
  clear BG c1 c10
  go_wp2_with fail
  refine (unhide HBG).mono ?_
  clear HBG
  rintro e w2 ⟨rfl, D2⟩
  have D12 := D1.trans D2
  have AK := h_asked ((unhide HH).dr D12) ((unhide HRD).dr D12) u hq4 (unhide HR).1 (unhide HR).2
  have HAK := hide AK; have HD := hide D12
  clear AK D12 D1 D2 HH HRD HR c10'
  cases hbg : begs nu (ask nu f) u
  · go_wp2
    exact ⟨rfl, .inr ⟨hbg, rfl⟩, unhide HD⟩
  · go_wp2_with fail
    refine (unhide HAK).mono ?_
    clear HAK
    rintro e w3 ⟨rfl, D3⟩
    have HD3 := hide ((unhide HD).trans D3)
    clear D3 HD
    go_wp2
    go_ret2
    exact ⟨.inl ⟨hbg, rfl⟩, unhide HD3⟩

set_option maxHeartbeats 1000000 in
theorem h_piece_no (h : HpL nu sz w hb sb) (at_ : Int) (ha : at_ < fi nu ∨ fi nu + 8 * nu ≤ at_ ∨ at_ % 8 ≠ 0) :
    Calls Tryz.prog 70 #[ptr hb, .int .i64 at_] w fun e w' => e = .panicked (errnoQ 1) ∧ Dr w w' := by
  have c1 := h.c1; have c10 := h.c10
  obtain ⟨g1, g2, g3, g4, g5, g6⟩ := h.geo.b
  have AL : ∀ q, Calls Tryz.prog 85 #[ptr hb] (w.drewN q) fun e w' => e = .returned (.int .i64 (nu * 8)) ∧ w' = w.drewN q := fun q => h_all hb nu (by omega) (w.drewN q) c1
  have HAL := @hide _ AL
  have hF := g2.2; have hn4 := g5.2
  clear AL h g1 g2 g3 g4 g5 g6
  by_cases h1 : at_ < fi nu
  · have e1 : (at_ < fi nu) = True := by simp [h1]
    clear ha
    go_enter Tryz.func70, Tryz.ntmps70
    go_wp2_with fail
    refine region_tailP 21 (by kernel_rfl) (by kernel_rfl) ?_
    simp only [List.take_succ_cons, List.take_zero, List.drop_succ_cons, List.drop_zero]
    repeat (go_big_quiet_step (first | (go_at_call 85; exact Calls.quiet_of_same (unhide HAL _))))
    refine wpQuiet_nil ?_
    rintro _ ⟨nq, rfl⟩
    clear HAL
    go_wp2
    exact ⟨rfl, rfl, nq, rfl⟩
  · have e1 : (at_ < fi nu) = False := by simp; omega
    by_cases h2 : (fi nu : Int) + (nu : Int) * 8 ≤ at_
    · have e2 : ((fi nu : Int) + (nu : Int) * 8 ≤ at_) = True := by simp [h2]
      clear ha
      go_enter Tryz.func70, Tryz.ntmps70
      go_wp2_with fail
      refine region_tailP 21 (by kernel_rfl) (by kernel_rfl) ?_
      simp only [List.take_succ_cons, List.take_zero, List.drop_succ_cons, List.drop_zero]
      repeat (go_big_quiet_step (first | (go_at_call 85; exact Calls.quiet_of_same (unhide HAL _))))
      refine wpQuiet_nil ?_
      rintro _ ⟨nq, rfl⟩
      clear HAL
      go_wp2
      exact ⟨rfl, rfl, nq, rfl⟩
    · have e2 : ((fi nu : Int) + (nu : Int) * 8 ≤ at_) = False := by simp; omega
      have e3 : (at_ % 8 != 0) = true := by simp; omega
      clear ha
      go_enter Tryz.func70, Tryz.ntmps70
      go_wp2_with fail
      refine region_tailP 21 (by kernel_rfl) (by kernel_rfl) ?_
      simp only [List.take_succ_cons, List.take_zero, List.drop_succ_cons, List.drop_zero]
      repeat (go_big_quiet_step (first | (go_at_call 85; exact Calls.quiet_of_same (unhide HAL _))))
      refine wpQuiet_nil ?_
      rintro _ ⟨nq, rfl⟩
      clear HAL
      go_wp2
      exact ⟨rfl, rfl, nq, rfl⟩

/-- No piece begins at a place. -/
def NoPiece (nu : Nat) (K : Nat → Nat) (at_ : Int) : Prop := ∀ u : Nat, u < nu → at_ = fi nu + u * 8 → begs nu K u = false

theorem h_piece_none (h : HpL nu sz w hb sb) (rd : Rds sz w sb f) (wd : Words64 nu f) (at_ : Int) (ha : NoPiece nu (ask nu f) at_) :
    Calls Tryz.prog 70 #[ptr hb, .int .i64 at_] w fun e w' => e = .panicked (errnoQ 1) ∧ Dr w w' := by
  have f8 := fi_8 nu
  by_cases hc : at_ < fi nu ∨ (fi nu : Int) + 8 * nu ≤ at_ ∨ at_ % 8 ≠ 0
  · exact h_piece_no h at_ hc
  · obtain ⟨u, hu, rfl⟩ : ∃ u : Nat, u < nu ∧ at_ = fi nu + u * 8 := ⟨((at_ - fi nu) / 8).toNat, by omega, by omega⟩
    refine (h_piece h rd wd u hu).mono ?_
    rintro e w' ⟨⟨hb', _⟩ | ⟨_, rfl⟩, D⟩
    · rw [ha u hu rfl] at hb'; cases hb'
    · exact ⟨rfl, D⟩

set_option maxHeartbeats 400000 in
theorem h_size (h : HpL nu sz w hb sb) (rd : Rds sz w sb f) (wd : Words64 nu f) (u : Nat) (hu : u < nu) (hbg : begs nu (ask nu f) u = true) :
    Calls Tryz.prog 67 #[ptr hb, .int .i64 (fi nu + u * 8)] w fun e w' => e = .returned (.int .i64 (ask nu f u)) ∧ Dr w w' := by
  have HK := hide (h_piece h rd wd u hu)
  clear h rd wd
  go_enter Tryz.func67, Tryz.ntmps67
  go_wp2_with fail
  refine (unhide HK).mono ?_
  clear HK
  rintro e w1 ⟨⟨_, rfl⟩ | ⟨hb', _⟩, D⟩
  · have HD := hide D
    clear D
    go_wp2
    go_ret
    exact ⟨rfl, unhide HD⟩
  · rw [hbg] at hb'; cases hb'

set_option maxHeartbeats 400000 in
theorem h_size_none (h : HpL nu sz w hb sb) (rd : Rds sz w sb f) (wd : Words64 nu f) (at_ : Int) (ha : NoPiece nu (ask nu f) at_) :
    Calls Tryz.prog 67 #[ptr hb, .int .i64 at_] w fun e w' => e = .panicked (errnoQ 1) ∧ Dr w w' := by
  have HK := hide (h_piece_none h rd wd at_ ha)
  clear h rd wd ha
  go_enter Tryz.func67, Tryz.ntmps67
  go_wp2_with fail
  refine (unhide HK).mono ?_
  rintro e w1 ⟨rfl, D⟩
  exact ⟨rfl, rfl, D⟩

set_option maxHeartbeats 400000 in
theorem h_free (h : HpL nu sz w hb sb) (rd : Rds sz w sb f) (x : Nat) (hx : x ≤ 8 * nu) (hf : f 1 = x) :
    Calls Tryz.prog 13 #[ptr hb] w fun e w' => e = .returned (.int .i64 x) ∧ w' = w := by
  have c0 := h.c0
  obtain ⟨g1, g2, g3, g4, g5, g6⟩ := h.geo.b
  have LD : Calls Tryz.prog 36 #[ptr sb, .int .i64 1] w _ := rd 0 1 (by omega)
  rw [hf] at LD
  have HLD := hide LD
  have hw := small_w64 (x := (x : Int)) (by omega)
  clear LD h rd
  go_enter Tryz.func13, Tryz.ntmps13
  go_wp2_with (go_at_call 36; refine (unhide HLD).mono ?_; rintro e w' ⟨rfl, hh⟩; replace hh := hh.symm; subst hh)
  go_ret
  exact ⟨by simp, rfl⟩

end
end Go.Proofs.YtdgobaknbjlahaaGreatDoor
