/- NvmApart's closure. -/
import Derived.Test.YtmhlbhbakfcdeaaApartS
import Derived.Deep.RegionHeld3
namespace Go.Proofs.Ytmhlbhbakfcdeaa
open Go.RowKit

theorem At.steps0 {w0 w : World} {b : Nat} {F : Nat → Prop} {G : Nat → Option Obj} {A : Ab} (h : At w0 b F G w A) : 0 ≤ A.steps := by
  obtain ⟨L, d, _⟩ := h.ex
  have := d.few
  omega

set_option maxHeartbeats 8000000 in
theorem apart1 {w : World} {b pA pd pB pK po : Nat} {F : Nat → Prop} {a1 a2 a3 : Option Addr} {len1 cap1 len2 cap2 len3 cap3 : Nat} {z1 z2 z3 : Nat → Int}
    (h : At w b F (boolG po true) w (Ab.fresh 4)) (hd : w.cell? ⟨pd, 0, none⟩ = some (ptr b)) (ndF : ¬ F pd) (ndG : pd ≠ po)
    (sA : Sees w F (boolG po true) pA a1 len1 cap1 z1) (sB : Sees w F (boolG po true) pB a2 len2 cap2 z2) (sK : Sees w F (boolG po true) pK a3 len3 cap3 z3) :
    Calls Try.prog 24 #[ptr pA, ptr pd, ptr pB, ptr pK, ptr po] w fun e w' => e = .returned (.tuple #[]) ∧ ∃ A, At w b F (boolG po true) w' A ∧ 1 ≤ A.steps := by
  have HA := hide sA; have HB := hide sB; have HK := hide sK
  have hlen1 := sA.len
  have hlen2 := sB.len
  unfold maxLen at hlen1 hlen2
  have HAt := hide h
  clear sA sB sK h
  go_enter Try.func24, Try.ntmps24
  go_wp2
  go_loopw [5] (fun i wr => ∃ (q : Nat) (A : Ab), q ≤ 30 ∧ i = .int .i64 q ∧ At w b F (boolG po true) wr A ∧ Plain A 4 (2 * q)) (fun i wr => 30 - (intOf i).toNat)
  case atStart => exact ⟨0, Ab.fresh 4, by omega, rfl, unhide HAt, ⟨rfl, rfl, rfl, by simp [Ab.fresh]⟩⟩
  case round =>
    obtain ⟨q, A, hq, rfl, ha, pl⟩ := hrel
    have cA := ((unhide HA).at ha (fun _ x => x)).1
    have cd := ha.cell hd ndF (boolG_other _ _ ndG)
    by_cases hlt : q < len1 ∧ q < 30
    · obtain ⟨hq1, hq2⟩ := hlt
      obtain ⟨xb, xo, rfl, hxw⟩ := (unhide HA).nums q hq1
      obtain ⟨hxF, hxG⟩ := (unhide HA).aF (by omega) xb xo rfl
      have hx := ha.cell hxw hxF hxG
      have hm := mask31 (z1 q)
      have hml := msk_le (z1 q) 31
      have hm1 : bits .and .i64 (z1 q) 32 = (msk (z1 q) 32 : Int) := mask_i64 (z1 q) 32 (by omega)
      obtain ⟨hw1, hw2⟩ := wrap_small ((q : Int) + 1) (by omega) (by omega)
      have K : Calls Try.prog 12 #[ptr b, .int .i64 (msk (z1 q) 31 : Nat), .int .u64 ((q : Int) + 1)] wr.drew fun e w' => e = .returned (.tuple #[]) ∧ At w b F (boolG po true) w' (A.tick.store (msk (z1 q) 31) ((q : Int) + 1)) :=
        at_store ha.drew (pl.live (by omega)) (msk (z1 q) 31) (by rw [pl.n]; omega) ((q : Int) + 1)
      generalize msk (z1 q) 31 = j at hm hml K
      generalize msk (z1 q) 32 = u at hm1
      have HP := hide pl
      have HK1 := hide K
      clear ha pl K
      go_wp2
      go_region_held3 (fun w' => w'.cell? ⟨pd, 0, none⟩ = some (ptr b) ∧ w'.cell? ⟨pA, 0, none⟩ = some (.slice (some ⟨xb, xo, none⟩) len1 cap1) ∧ w'.cell? ⟨xb, xo + q, none⟩ = some (.int .i64 (z1 q))) (go_keep)
        (first | (go_at_call 12; refine (unhide HK1).mono ?_; rintro e w2 ⟨rfl, ha2⟩; have cd2 := ha2.cell hd ndF (boolG_other _ _ ndG); have cA2 := ((unhide HA).at ha2 (fun _ x => x)).1; have hx2 := ha2.cell hxw hxF hxG; have HA2 := hide ha2; clear ha2))
      clear HK1 cd cA hx
      by_cases hu : u = 32
      · have he : ((u : Int) == 32) = true := by simp; omega
        clear hu
        have K := at_flush (unhide HA2).drew ((unhide HP).tick.store j _ |>.live (by omega)) (by have := ((unhide HP).tick.store j ((q : Int) + 1)).few; omega) j (by rw [((unhide HP).tick.store j ((q : Int) + 1)).n]; omega)
        have HK2 := hide K
        clear K
        go_wp2
        go_region_held3 (fun w' => w'.cell? ⟨pd, 0, none⟩ = some (ptr b) ∧ w'.cell? ⟨pA, 0, none⟩ = some (.slice (some ⟨xb, xo, none⟩) len1 cap1) ∧ w'.cell? ⟨xb, xo + q, none⟩ = some (.int .i64 (z1 q))) (go_keep)
          (first | (go_at_call 13; refine (unhide HK2).mono ?_; rintro e w3 ⟨rfl, ha3⟩; have cd3 := ha3.cell hd ndF (boolG_other _ _ ndG); have cA3 := ((unhide HA).at ha3 (fun _ x => x)).1; have hx3 := ha3.cell hxw hxF hxG; have HA3 := hide ha3; clear ha3))
        clear HK2
        go_wp2
        go_roundw
        case rel =>
          refine ⟨q + 1, _, by omega, by go_num, unhide HA3, ?_⟩
          have := (((unhide HP).tick.store j ((q : Int) + 1)).tick.send (j / 8))
          rw [show (2 : Int) * ((q + 1 : Nat) : Int) = 2 * (q : Int) + 1 + 1 from by omega]; exact this
        case measure => simp [intOf]; omega
      · have he : ((u : Int) == 32) = false := by simp; omega
        clear hu
        go_wp2
        go_roundw
        case rel =>
          refine ⟨q + 1, _, by omega, by go_num, unhide HA2, ?_⟩
          have p := (unhide HP).tick.store j ((q : Int) + 1)
          exact ⟨p.n, p.fuse, p.dead, by have := p.few; omega⟩
        case measure => simp [intOf]; omega
    · have hst := pl.few
      obtain ⟨L, d, hL⟩ := ha.ex
      have d0 : DevL wr.drew b L A := d.keptF ((Fr.refl _ wr).drew)
      have K1 := copy_ok d0 (by omega)
      have HQ := hide (And.intro ha.drew (And.intro d0 (And.intro hL pl)))
      have H1 := hide K1
      clear K1 ha d d0 hL pl
      rcases (show (¬ q < len1) ∨ (q < len1 ∧ ¬ q < 30) by omega) with hq1 | ⟨hq1, hq2⟩
      all_goals
        clear hlt
        go_wp2
        go_region_held3 (fun w' => w'.cell? ⟨pd, 0, none⟩ = some (ptr b)) (go_keep)
          (first
            | (go_at_call 25; refine (unhide H1).mono ?_; rintro e w2 ⟨bc, N, rfl, dc, nc, f1⟩; have cd2 : w2.cell? ⟨pd, 0, none⟩ = some (ptr b) := f1.cell' (v := ptr b) cd (fun x => x); have HC := hide (And.intro dc (And.intro nc f1)); clear dc nc f1)
            | (go_at_call 25; refine (copy_ok ((unhide HQ).2.1.keptF (unhide HC).2.2) (by omega)).mono ?_; rintro e w3 ⟨bx, M, rfl, dx, nx, f2⟩; have cd3 := f2.cell' cd2 (fun x => x); have HX := hide (And.intro dx (And.intro nx f2)); clear dx nx f2))
        have T : Trio w b bc bx po F w3 A (foot bc N) := Trio.made (unhide HQ).1 (unhide HQ).2.1 (unhide HQ).2.2.1 (unhide HC).1 (unhide HC).2.1 (unhide HC).2.2 (unhide HX).1 (unhide HX).2.1 (unhide HX).2.2
        have HT := hide T
        have cB3 := ((unhide HB).at T.pair.at_ (fun _ x => x)).1
        have nB := hide ((unhide HB).at T.pair.at_ (fun _ x => x)).2
        have lB : pB < w.heap.size := World.block_lt_of_cell? _ _ (unhide HB).cell
        have nC : ∀ k, k < w.heap.size → ¬ foot bc N k := fun k hk hf => by have := T.new k hf; omega
        have lX : ∀ xb xo, 0 < len2 → a2 = some ⟨xb, xo, none⟩ → xb < w.heap.size := fun xb xo h0 e => by
          obtain ⟨xb', xo', e', c⟩ := (unhide HB).nums 0 h0
          rw [e] at e'; cases e'
          exact World.block_lt_of_cell? _ _ c
        have HNC := hide nC; have HLX := hide lX
        have p0 : Plain A 4 60 := by
          have p := (unhide HQ).2.2.2
          exact ⟨p.n, p.fuse, p.dead, by have := p.few; omega⟩
        have HP0 := hide p0
        clear T p0 nC lX HC HX HQ H1 cd cd2 hst
        go_wp2
        go_loopw [8] (fun i wx => ∃ (r : Nat) (C : Ab), r ≤ 30 ∧ i = .int .i64 r ∧ At w3 bc (foot bc N) noG wx C ∧ Plain C 4 (60 + 3 * r)) (fun i wx => 30 - (intOf i).toNat)
        case atStart => exact ⟨0, A, by omega, rfl, (unhide HT).third, unhide HP0⟩
        case round =>
          obtain ⟨r, C, hr, rfl, hc, pl⟩ := hrel
          have cB := hc.cell cB3 (unhide HNC _ lB) rfl
          by_cases hlt2 : r < len2 ∧ r < 30
          · obtain ⟨hr1, hr2⟩ := hlt2
            obtain ⟨xb, xo, rfl, hxw⟩ := (unhide nB) r hr1
            have hxC := unhide HNC _ (unhide HLX xb xo (by omega) rfl)
            have hx := hc.cell hxw hxC rfl
            have hm := mask31 (z2 r)
            have hml := msk_le (z2 r) 31
            obtain ⟨hw1, hw2⟩ := wrap_small (90 + (r : Int)) (by omega) (by omega)
            have K := at_store hc (pl.live (by omega)) (msk (z2 r) 31) (by rw [pl.n]; omega) (90 + (r : Int))
            generalize msk (z2 r) 31 = j at hm hml K
            have HP := hide pl
            have HK1 := hide K
            clear hc pl K
            go_wp2_with fail
            refine (unhide HK1).mono ?_
            rintro e w4 ⟨rfl, h4⟩
            have p4 := (unhide HP).tick.store j (90 + (r : Int))
            have cB4 := h4.cell cB3 (unhide HNC _ lB) rfl
            have hx4 := h4.cell hxw hxC rfl
            have K2 := at_flush h4 (p4.live (by omega)) (by have := p4.few; omega) j (by rw [p4.n]; omega)
            have HK2 := hide K2
            have HP4 := hide p4
            clear HK1 HP K2 h4 p4 cB hx
            go_wp2_with fail
            refine (unhide HK2).mono ?_
            rintro e w5 ⟨rfl, h5⟩
            have p5 := (unhide HP4).tick.send (j / 8)
            have K3 := at_fence h5 (p5.live (by omega)) (by have := p5.few; omega)
            have HK3 := hide K3
            have HP5 := hide p5
            clear HK2 HP4 K3 h5 p5 cB4 hx4
            go_wp2_with fail
            refine (unhide HK3).mono ?_
            rintro e w6 ⟨rfl, h6⟩
            have p6 := (unhide HP5).tick.fenced
            have H6 := hide h6; have HP6 := hide p6
            clear HK3 HP5 h6 p6
            go_wp2
            go_roundw
            case rel =>
              refine ⟨r + 1, _, by omega, by go_num, unhide H6, ?_⟩
              have p := unhide HP6
              exact ⟨p.n, p.fuse, p.dead, by have := p.few; omega⟩
            case measure => simp [intOf]; omega
          · have P := (unhide HT).back hc
            have HP := hide P
            have cdx := P.at_.cell hd ndF (boolG_other _ _ ndG)
            clear P hc pl
            rcases (show (¬ r < len2) ∨ (r < len2 ∧ ¬ r < 30) by omega) with hr1 | ⟨hr1, hr2⟩
            all_goals
              clear hlt2
              go_wp2_with fail
              refine ((unhide HP).fenceB ((unhide HP0).live (by omega)) (by have := (unhide HP0).few; omega)).mono ?_
              rintro e w4 ⟨rfl, P4⟩
              have H4 := hide P4
              clear P4 cdx
              go_wp2_with fail
              refine ((unhide H4).fenceC ((unhide HP0).live (by omega)) (by have := (unhide HP0).few; omega)).mono ?_
              rintro e w5 ⟨rfl, P5⟩
              have p5 := (unhide HP0).tick.fenced
              have s5 : 1 ≤ A.tick.fenced.steps := by have := (unhide HP).at_.steps0; simp only [Ab.fenced, Ab.tick]; omega
              generalize A.tick.fenced = B at P5 p5 s5
              have cd5 := P5.at_.cell hd ndF (boolG_other _ _ ndG)
              have cK5 := ((unhide HK).at P5.at_ (fun _ x => x)).1
              have H5 := hide P5; have HP5 := hide p5
              clear P5 p5 H4 HP HT
              go_wp2_with fail
              refine ((unhide H5).powerB (by have := (unhide HP5).few; omega) a3 len3 cap3 z3 (unhide HK).len ((unhide HK).at (unhide H5).at_ (fun _ x => x)).2).mono ?_
              rintro e w6 ⟨rfl, P6⟩
              have cK6 := ((unhide HK).at P6.at_ (fun _ x => x)).1
              have H6 := hide P6
              clear P6 cd5 cK5
              go_wp2_with fail
              refine ((unhide H6).powerC (by have := (unhide HP5).few; omega) a3 len3 cap3 z3 (unhide HK).len ((unhide HK).at (unhide H6).at_ (fun _ x => x)).2).mono ?_
              rintro e w7 ⟨rfl, P7⟩
              have p7 := (unhide HP5).powered false (nm z3 len3)
              have s7 : 1 ≤ (B.powered false (nm z3 len3)).steps := s5
              generalize B.powered false (nm z3 len3) = D at P7 p7 s7
              have H7 := hide P7; have HP7 := hide p7
              clear P7 p7 H6 H5 HP5 s5 cK6
              go_wp2
              go_loopw [9] (fun i wy => ∃ (t : Nat), t ≤ 32 ∧ i = .int .i64 t ∧ Pair w b bx po F wy D D) (fun i wy => 32 - (intOf i).toNat)
              case atStart => exact ⟨0, by omega, rfl, unhide H7⟩
              case round =>
                obtain ⟨t, ht, rfl, P⟩ := hrel
                by_cases ht2 : t < 32
                · have cdy := P.at_.cell hd ndF (boolG_other _ _ ndG)
                  have co := P.at_.gcell (boolG_at po true) 0
                  have zo := P.at_.gfrozen (boolG_at po true) 0
                  have K1 := P.loadB (unhide HP7).dead t (by rw [(unhide HP7).n]; omega)
                  have K2 := P.loadC (unhide HP7).dead t (by rw [(unhide HP7).n]; omega)
                  have HK1 := hide K1; have HK2 := hide K2; have HY := hide P
                  clear K1 K2 P
                  go_wp2_with fail
                  refine (unhide HK1).mono ?_
                  rintro e w8 ⟨rfl, rfl⟩
                  go_wp2_with fail
                  refine (unhide HK2).mono ?_
                  rintro e w8 ⟨rfl, rfl⟩
                  clear HK1 HK2
                  go_wp2
                  go_roundw
                  case rel => exact ⟨t + 1, by omega, by go_num, (unhide HY).setTrue⟩
                  case measure => simp [intOf]; omega
                · have HY := hide P
                  clear P
                  go_wp2
                  go_end0
                  exact ⟨rfl, D, (unhide HY).at_, s7⟩
end Go.Proofs.Ytmhlbhbakfcdeaa
