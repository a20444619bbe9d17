/- Power: the power comes back. -/
import Derived.Test.YtamghkabclbkgaaPow
import Derived.BigRegion
namespace Go.Proofs.Ytamghkabclbkgaa
open Go.RowKit

theorem DevL.keptF {w w' : World} {b : Nat} {L : Lay} {A : Ab} (h : DevL w b L A) (hf : Fr (fun _ => False) w w') : DevL w' b L A := h.kept hf fun _ _ h => h

set_option maxHeartbeats 2000000 in
theorem power_row {w : World} {b : Nat} {L : Lay} {A : Ab} (h : DevL w b L A) (hst : A.steps < 4294967296) (flip : Bool) (la : Option Addr) (len cap : Nat) (zs : Nat → Int) (hlen : len ≤ maxLen)
    (hl : ∀ k, k < len → ∃ xb xo, la = some ⟨xb, xo, none⟩ ∧ w.cell? ⟨xb, xo + k, none⟩ = some (.int .i64 (zs k))) :
    Calls Try.prog 15 #[ptr b, .bool flip, .slice la len cap] w fun e w' => e = .returned (.tuple #[]) ∧ ∃ L', DevL w' b L' (A.powered flip (nm zs len)) ∧ Fr (foot b L) w w' ∧ ∀ k, foot b L' k → foot b L k := by
  have hn := h.n8
  have W := words_any b L.bn A.n w hn h.c0
  have hmk := make_bools A.n hn
  have HD := hide h; have HL := hide hl
  clear h hl
  unfold maxLen at hlen
  go_enter Try.func15, Try.ntmps15
  go_wp2_with (go_at_call 46; refine W.mono ?_; rintro e w' ⟨rfl, rfl⟩)
  go_loopw [16] (fun i wr => ∃ q : Nat, q ≤ len ∧ i = .int .i64 q ∧ Fr (fun _ => False) w' wr ∧ w'.heap.size < wr.heap.size ∧ (∀ j, j < A.n * 8 → wr.cell? ⟨w'.heap.size, j, none⟩ = some (.bool (nm zs q j))) ∧ (∀ j, wr.frozen? ⟨w'.heap.size, j, none⟩ = false)) (fun i wr => len - (intOf i).toNat)
  case atStart => exact ⟨0, Nat.zero_le _, rfl, (Fr.refl _ _).alloc _, by simp, fun j hj => made_bool _ _ _ hj, fun j => by simp⟩
  case round =>
    obtain ⟨q, hq, rfl, hfr, hsz, hnm, hzz⟩ := hrel
    have hD := (unhide HD).keptF hfr
    by_cases hlt : q < len
    · obtain ⟨xb, xo, rfl, hx⟩ := unhide HL q hlt
      have hx' := hfr.cell' hx (fun h => h)
      by_cases hz : 0 ≤ zs q ∧ zs q < A.n * 8
      · obtain ⟨j, hj⟩ : ∃ j : Nat, zs q = j := ⟨(zs q).toNat, by omega⟩
        have K := has_yes b L.bn A.n j wr hn hD.c0 (by omega) (by omega)
        have hjn : j < A.n * 8 := by omega
        have cj := hnm j hjn
        have zj := hzz j
        rw [hj] at hx'
        generalize nm zs q j = old at cj
        have HX := hide (And.intro hfr (And.intro hnm hzz))
        have HJ := hide hj
        clear hfr hnm hzz hx hj hz hD
        go_wp2_with (go_at_call 47; refine K.mono ?_; rintro e w'' ⟨rfl, rfl⟩)
        go_roundw
        case rel =>
          obtain ⟨hfr, hnm, hzz⟩ := unhide HX
          refine ⟨q + 1, by omega, by go_num, hfr.setCell (.inr (Nat.le_refl _)) _, by simpa using hsz, fun i hi => ?_, fun i => by rw [World.frozen?_setCell]; exact hzz i⟩
          simp only [nm]
          by_cases e : i = j
          · subst e; rw [World.cell?_setCell_same _ _ _ cj, if_pos (unhide HJ)]
          · rw [World.cell?_setCell_other _ _ _ _ (by simp <;> omega), hnm i hi, if_neg (by rw [unhide HJ]; omega)]
        case measure => simp [intOf]; omega
      · have K := has_no b L.bn A.n (zs q) wr hn hD.c0 (by omega)
        have HX := hide (And.intro hfr (And.intro hnm (And.intro hzz hz)))
        clear hfr hnm hzz hx hz hD
        go_wp2_with (go_at_call 47; refine K.mono ?_; rintro e w'' ⟨rfl, rfl⟩)
        go_roundw
        case rel =>
          obtain ⟨hfr, hnm, hzz, hz⟩ := unhide HX
          refine ⟨q + 1, by omega, by go_num, hfr, hsz, fun i hi => ?_, hzz⟩
          simp only [nm]
          rw [hnm i hi, if_neg (by omega)]
        case measure => simp [intOf]; omega
    · have hqm : q = len := by omega
      subst hqm
      have K := waiting_ok hD
      have HX := hide (And.intro hfr (And.intro hnm hzz))
      have HD2 := hide hD
      clear hfr hnm hzz hD HL
      go_wp2_with fail
      refine K.mono ?_
      rintro e w2 ⟨v, rfl, hown, hf2⟩
      obtain ⟨va, cap2, rfl, hcells⟩ := owns_open hown
      have hwl := waitL_len A.now A.lasts (A.n * 8)
      obtain ⟨hfr, hnm, hzz⟩ := unhide HX
      have hD := (unhide HD2).keptF hf2
      have hnm2 : ∀ j, j < A.n * 8 → w2.cell? ⟨w'.heap.size, j, none⟩ = some (.bool (nm zs q j)) := fun j hj => hf2.cell' (hnm j hj) (fun h => h)
      have hFw : Fr (fun _ => False) w' w2 := hfr.trans hf2
      have HW := hide (And.intro hD (And.intro hnm2 (And.intro hcells hFw)))
      have hNb : w'.heap.size ≠ L.bn := by have := (unhide HD).ltn; omega
      have hsz2 := hf2.size
      have hbn2 := hD.ltn
      have HMEM := hide (fun j => waitL_mem A.now A.lasts j (A.n * 8))
      clear hown hf2 hfr hnm hzz hD hnm2 hcells hFw HX HD2 K W hmk
      generalize hWL : waitL A.now A.lasts (A.n * 8) = WL at HW hwl HMEM
      have HWL := hide hWL; clear hWL
      generalize hm : WL.length = m at hwl
      have HM := hide hm; clear hm
      go_wp2
      go_loopw [30] (fun i wx => ∃ p : Nat, p ≤ m ∧ i = .int .i64 p ∧ Fr (fun k => k = L.bn) w2 wx ∧ (∀ j, j < A.n * 8 → wx.cell? ⟨L.bn, j, none⟩ = some (u64 (pw WL (nm zs q) flip A.now A.lasts p j))) ∧ (∀ j, wx.frozen? ⟨L.bn, j, none⟩ = false)) (fun i wx => m - (intOf i).toNat)
      case atStart =>
        obtain ⟨hD, _⟩ := unhide HW
        exact ⟨0, Nat.zero_le _, rfl, Fr.refl _ _, fun j hj => by rw [hD.now j hj]; simp [pw], hD.zn⟩
      case round =>
        obtain ⟨p, hp, rfl, hfx, hnx, hzx⟩ := hrel
        obtain ⟨hD, hnm2, hcells, hFw⟩ := unhide HW
        by_cases hpm : p < m
        · obtain ⟨g, rfl, hg, hcell⟩ := hcells p (by rw [unhide HM]; exact hpm)
          generalize hi : WL.getD p 0 = i at hcell
          have hmem : i ∈ WL := by
            have hpl : p < WL.length := by rw [unhide HM]; exact hpm
            rw [← hi]; simp [hpl]
          have hin := ((unhide HMEM i).1 hmem).1
          have hgn : g ≠ L.bn := by have := (unhide HD).ltn; omega
          have x1 := hfx.cell' hcell hgn
          have x2 := hfx.cell' (hnm2 i hin) hNb
          have x3 := hfx.cell' hD.c0 hD.bbn
          have x4 := hfx.cell' hD.c1 hD.bbn
          have x5 := hfx.cell' (hD.lasts i hin) (Ne.symm hD.bnl)
          have x6 := hnx i hin
          have x7 := hzx i
          have e8 : i / 8 * 8 + i % 8 = i := by omega
          generalize pw WL (nm zs q) flip A.now A.lasts p i = old at x6
          rw [← e8] at x5 x6 x7
          have HX := hide (And.intro hfx (And.intro hnx (And.intro hzx (And.intro hi e8))))
          clear hfx hnx hzx hD hnm2 hcells hFw hcell hi hmem e8
          by_cases hf : nm zs q i = flip
          · have hbe : (nm zs q i == flip) = true := by simp [hf]
            have HF := hide hf; clear hf
            go_wp2
            go_region
            go_wp2
            go_roundw
            case rel =>
              obtain ⟨hfx, hnx, hzx, hi, e8⟩ := unhide HX
              refine ⟨p + 1, by omega, by go_num, (hfx.setCell (.inl rfl) _).drew, fun j hj => ?_, fun j => by rw [World.frozen?_drew, World.frozen?_setCell]; exact hzx j⟩
              rw [World.cell?_drew]
              simp only [e8] at x6 ⊢
              by_cases ej : j = i
              · subst ej
                rw [World.cell?_setCell_same _ _ _ x6]
                simp only [pw]
                rw [if_pos ⟨(take_succ_mem (by rw [unhide HM]; exact hpm)).2 (.inr hi.symm), unhide HF⟩]
              · rw [World.cell?_setCell_other _ _ _ _ (by simp <;> omega), hnx j hj]
                simp only [pw]
                have : j ∈ WL.take (p + 1) ↔ j ∈ WL.take p := by
                  rw [take_succ_mem (by rw [unhide HM]; exact hpm), hi]; simp [ej]
                simp only [this]
            case measure => simp [intOf]; omega
          · have hbe : (nm zs q i == flip) = false := by simp [hf]
            have HF := hide hf; clear hf
            go_wp2
            go_roundw
            case rel =>
              obtain ⟨hfx, hnx, hzx, hi, e8⟩ := unhide HX
              refine ⟨p + 1, by omega, by go_num, hfx, fun j hj => ?_, hzx⟩
              rw [hnx j hj]
              simp only [pw]
              by_cases ej : j = i
              · subst ej; simp [unhide HF]
              · have : j ∈ WL.take (p + 1) ↔ j ∈ WL.take p := by
                  rw [take_succ_mem (by rw [unhide HM]; exact hpm), hi]; simp [ej]
                simp only [this]
            case measure => simp [intOf]; omega
        · have hpe : p = m := by omega
          subst hpe
          have hD1 := hD.renow (fun j => if nm zs q j = flip then A.lasts j else A.now j) hfx (fun j hj => by
            rw [hnx j hj, ← unhide HWL, pw_end j hj _ (by rw [unhide HWL, unhide HM]; exact Nat.le_refl _)]) hzx
          have hsome : ∀ j, j < A.n * 8 → (wr.cell? ⟨L.bl, j, none⟩).isSome = true := fun j hj => by rw [hD1.lasts j hj]; rfl
          have f3 : Fr (fun k => k = L.bl) wr ((wr.drew).setCells L.bl 0 ((List.range (A.n * 8)).map fun j => u64 (if nm zs q j = flip then A.lasts j else A.now j))) :=
            setCells_fr L.bl (F := fun k => k = L.bl) (.inl rfl) _ _ _ ((Fr.refl _ wr).drew)
          have hD3 := hD1.relast (fun j => if nm zs q j = flip then A.lasts j else A.now j) f3 (fun j hj => copied (wr.drew) L.bl A.n j _ hsome hj) (fun o => by rw [World.frozen?_setCells, World.frozen?_drew]; exact hD1.zl o)
          have x3 := hD1.c0
          have x4 := hD1.c1
          have HQ := hide (And.intro hD3 f3)
          have HS := hide (And.intro hD1.now (And.intro hsome hD1.zl))
          have HFx := hide (hFw.mono (G := foot b L) (fun k hk => hk.elim))
          have HFy := hide (hfx.mono (G := foot b L) (fun k hk => .inl (.inr (.inl hk))))
          clear hD3 f3 hD1 hsome hfx hnx hzx hD hnm2 hcells hFw HW HWL HMEM HM
          go_wp2
          go_region_law ((refine step_copy_lines (k1 := L.kl) (k2 := L.kn) rfl (.tmp 65) (.tmp 69) 72 72 rfl 71 Try.underlying72 info57 L.bl A.n L.bn (fun j => if nm zs q j = flip then A.lasts j else A.now j) (by simp [Act.eval]) (by simp [Act.eval]) (unhide HS).1 (unhide HS).2.1 (unhide HS).2.2 ?_); (revert HQ; generalize (wr.drew).setCells L.bl 0 ((List.range (A.n * 8)).map fun j => u64 (if nm zs q j = flip then A.lasts j else A.now j)) = W3; intro HQ))
          all_goals
            have K := forget_ok (unhide HQ).1 hst
            go_wp2_with fail
            refine K.mono ?_
            rintro e w4 ⟨rfl, L', d4, f4, s4⟩
            have y6 := d4.c6
            have y5 := d4.c5
            have z6 := d4.zb 6
            have z5 := d4.zb 5
            have HE := hide (And.intro d4 (And.intro f4 s4))
            clear d4 f4 s4 K
            go_wp2
            go_end0
            obtain ⟨d4, f4, s4⟩ := unhide HE
            refine ⟨rfl, L', (d4.setDead false).setFuse (-1), ?_, s4⟩
            have g1 := ((unhide HFx).trans (unhide HFy)).trans ((unhide HQ).2.mono (G := foot b L) (fun k hk => .inl (.inr (.inr (.inl hk)))))
            exact ((g1.trans f4).setCell (.inl (.inl rfl)) _).setCell (.inl (.inl rfl)) _
end Go.Proofs.Ytamghkabclbkgaa
