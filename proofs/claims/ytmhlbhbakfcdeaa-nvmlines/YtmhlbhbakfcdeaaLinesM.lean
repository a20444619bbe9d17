/- NvmLines' closure: its walk. -/
import Derived.Test.YtmhlbhbakfcdeaaLinesC
import Derived.Deep.RegionHeld3
namespace Go.Proofs.Ytmhlbhbakfcdeaa
open Go.RowKit

/-- What NvmLines' second array holds at last: the line of at, as it stood. -/
def lsent (f : Nat → Int) (at_ : Nat) : Nat → Int := fun j => if at_ / 8 * 8 ≤ j ∧ j < at_ / 8 * 8 + 8 then f j else 0
/-- What is on its way. -/
def lway (f : Nat → Int) (at_ : Nat) : Nat → Option (Nat → Int) := upd (fun _ => none) (at_ / 8) (some fun k => f (at_ / 8 * 8 + k))

theorem lines_lasts {A : Ab} {f : Nat → Int} {at_ : Nat} (hl : A.lasts = fun _ => 0) (hw : A.way = lway f at_) (j : Nat) : A.tick.fenced.lasts j = lsent f at_ j := by
  simp only [Ab.fenced, Ab.tick, hw, hl, lway, lsent, upd]
  by_cases e : j / 8 = at_ / 8
  · rw [if_pos e, if_pos (by omega)]
    show f (at_ / 8 * 8 + j % 8) = f j
    rw [show at_ / 8 * 8 + j % 8 = j from by omega]
  · rw [if_neg e, if_neg (by omega)]

set_option maxHeartbeats 8000000 in
theorem lines1 {w : World} {b pB pd pN pA pS pH pO : Nat} {F : Nat → Prop} {a1 a2 : Option Addr} {len1 cap1 len2 cap2 : Nat} {z1 z2 : Nat → Int} {at_ : Nat} (hat : at_ < 64)
    (h : At w b F (g3 pN pS pO 28 64 (fun _ => 0) (fun _ => 0) true) w (Ab.fresh 8)) (d1 : pN ≠ pO) (d2 : pN ≠ pS) (d3 : pS ≠ pO)
    (hd : w.cell? ⟨pd, 0, none⟩ = some (ptr b)) (ndF : ¬ F pd) (ndG : pd ≠ pN ∧ pd ≠ pS ∧ pd ≠ pO)
    (hA : w.cell? ⟨pA, 0, none⟩ = some (.int .i64 at_)) (naF : ¬ F pA) (naG : pA ≠ pN ∧ pA ≠ pS ∧ pA ≠ pO)
    (sB : Sees w F (g3 pN pS pO 28 64 (fun _ => 0) (fun _ => 0) true) pB a1 len1 cap1 z1) (sH : Sees w F (g3 pN pS pO 28 64 (fun _ => 0) (fun _ => 0) true) pH a2 len2 cap2 z2) :
    Calls Try.prog 11 #[ptr pB, ptr pd, ptr pN, ptr pA, ptr pS, ptr pH, ptr pO] w fun e w' => e = .returned (.tuple #[]) ∧ ∃ f s A, At w b F (g3 pN pS pO 28 64 f s true) w' A := by
  have hG : ∀ f s x k, g3 pN pS pO 28 64 (fun _ => 0) (fun _ => 0) true k = none → g3 pN pS pO 28 64 f s x k = none := fun f s x k hk => by
    have := g3_dom (pN := pN) (pS := pS) (pO := pO) (t := 28) (n := 64) (f := fun _ => 0) (s := fun _ => 0) (x := true) f s x k
    rw [hk] at this
    cases hq : g3 pN pS pO 28 64 f s x k with
    | none => rfl
    | some o => rw [hq] at this; cases this
  have HG := hide hG; clear hG
  have HB := hide sB; have HHs := hide sH
  have hlen1 := sB.len; have hlen2 := sH.len
  unfold maxLen at hlen1 hlen2
  have HAt := hide h
  clear sB sH h
  go_enter Try.func11, Try.ntmps11
  go_wp2
  go_loopw [7] (fun i wr => ∃ (q : Nat) (f : Nat → Int) (A : Ab), q ≤ 40 ∧ i = .int .i64 q ∧ At w b F (g3 pN pS pO 28 64 f (fun _ => 0) true) wr A ∧ Plain A 8 q ∧ A.now = f ∧ A.lasts = (fun _ => 0) ∧ A.way = fun _ => none) (fun i wr => 40 - (intOf i).toNat)
  case atStart => exact ⟨0, fun _ => 0, Ab.fresh 8, by omega, rfl, unhide HAt, ⟨rfl, rfl, rfl, by simp [Ab.fresh]⟩, rfl, rfl, rfl⟩
  case round =>
    obtain ⟨q, f, A, hq, rfl, ha, pl, hnow, hlasts, hway⟩ := hrel
    obtain ⟨cB, nB⟩ := (unhide HB).at ha (unhide HG _ _ _)
    have cd := ha.cell hd ndF (g3_other ndG.1 ndG.2.1 ndG.2.2)
    by_cases hlt : q < len1 ∧ q < 40
    · obtain ⟨hq1, hq2⟩ := hlt
      obtain ⟨xb, xo, rfl, hxw⟩ := (unhide HB).nums q hq1
      obtain ⟨hxF, hxG0⟩ := (unhide HB).aF (by omega) xb xo rfl
      have hxG : ∀ f s x, g3 pN pS pO 28 64 f s x xb = none := fun f s x => unhide HG f s x xb hxG0
      have hx := ha.cell hxw hxF (hxG _ _ _)
      have hm := mask63 (z1 q)
      have hml := msk_le (z1 q) 63
      obtain ⟨hw1, hw2⟩ := wrap_small ((q : Int) + 1) (by omega) (by omega)
      have K : Calls Try.prog 12 #[ptr b, .int .i64 (msk (z1 q) 63 : Nat), .int .u64 ((q : Int) + 1)] wr.drew fun e w' => e = .returned (.tuple #[]) ∧ At w b F (g3 pN pS pO 28 64 f (fun _ => 0) true) w' (A.tick.store (msk (z1 q) 63) ((q : Int) + 1)) :=
        at_store ha.drew (pl.live (by omega)) (msk (z1 q) 63) (by rw [pl.n]; omega) ((q : Int) + 1)
      generalize msk (z1 q) 63 = j at hm hml K
      have HP := hide (And.intro pl (And.intro hnow (And.intro hlasts hway)))
      have HK := hide K
      have HXG := hide hxG
      clear ha pl hnow hlasts hway nB hxG0 K hxG
      go_wp2
      go_region_held3 (fun w' => w'.cell? ⟨pd, 0, none⟩ = some (ptr b) ∧ w'.cell? ⟨pB, 0, none⟩ = some (.slice (some ⟨xb, xo, none⟩) len1 cap1) ∧ w'.cell? ⟨xb, xo + q, none⟩ = some (.int .i64 (z1 q))) (go_keep)
        (first | (go_at_call 12; refine (unhide HK).mono ?_; rintro e w2 ⟨rfl, ha2⟩; have cd2 := ha2.cell hd ndF (g3_other ndG.1 ndG.2.1 ndG.2.2); have cB2 := ((unhide HB).at ha2 (unhide HG _ _ _)).1; have hx2 := ha2.cell hxw hxF (unhide HXG _ _ _); have cN2 : w2.cell? ⟨pN, j, none⟩ = some (u64 (f j)) := (ha2.gcell (g3_N d1 d2) j).trans (arr_get 64 f j (by omega)); have zN2 := ha2.gfrozen (g3_N d1 d2) j; have HA2 := hide ha2; clear ha2))
      go_wp2
      go_roundw
      case rel =>
        obtain ⟨pl, hnow, hlasts, hway⟩ := unhide HP
        exact ⟨q + 1, upd f j ((q : Int) + 1), _, by omega, by go_num, (unhide HA2).setN d1 d2 j ((q : Int) + 1), by have := pl.tick.store j ((q : Int) + 1); simpa using this, by rw [← hnow]; rfl, hlasts, hway⟩
      case measure => simp [intOf]; omega
    · by_cases hq1 : q < len1
      · have hq2 : ¬ q < 40 := by omega
        clear hlt
        have cA := ha.cell hA naF (g3_other naG.1 naG.2.1 naG.2.2)
        have K : Calls Try.prog 13 #[ptr b, .int .i64 (at_ : Nat)] wr fun e w' => e = .returned (.tuple #[]) ∧ At w b F (g3 pN pS pO 28 64 f (fun _ => 0) true) w' (A.tick.sendLine (at_ / 8)) := at_flush ha (pl.live (by omega)) (by have := pl.few; omega) at_ (by rw [pl.n]; omega)
        have HP := hide (And.intro pl (And.intro hnow (And.intro hlasts hway)))
        have HK := hide K
        clear ha pl hnow hlasts hway K nB
        go_wp2_with fail
        refine (unhide HK).mono ?_
        rintro e w2 ⟨rfl, ha2⟩
        have cA2 := ha2.cell hA naF (g3_other naG.1 naG.2.1 naG.2.2)
        obtain ⟨pl2, hnow2, hlasts2, hway2⟩ : Plain (A.tick.sendLine (at_ / 8)) 8 42 ∧ (A.tick.sendLine (at_ / 8)).now = f ∧ (A.tick.sendLine (at_ / 8)).lasts = (fun _ => 0) ∧ (A.tick.sendLine (at_ / 8)).way = lway f at_ := by
          obtain ⟨pl, hnow, hlasts, hway⟩ := unhide HP
          refine ⟨⟨pl.n, (pl.tick.send _).fuse, pl.dead, by have := (pl.tick.send (at_ / 8)).few; omega⟩, hnow, hlasts, ?_⟩
          simp only [Ab.sendLine, Ab.tick, lway, hway, hnow]
        generalize A.tick.sendLine (at_ / 8) = A2 at ha2 pl2 hnow2 hlasts2 hway2
        have H2 := hide (And.intro ha2 (And.intro pl2 (And.intro hnow2 (And.intro hlasts2 hway2))))
        clear ha2 pl2 hnow2 hlasts2 hway2 HK HP cA
        go_wp2
        go_loopw [8] (fun i wx => ∃ r : Nat, r ≤ 8 ∧ i = .int .i64 ((at_ / 8 * 8 + r : Nat) : Int) ∧ At w b F (g3 pN pS pO 28 64 f (fun j => if at_ / 8 * 8 ≤ j ∧ j < at_ / 8 * 8 + r then f j else 0) true) wx A2) (fun i wx => 72 - (intOf i).toNat)
        case atStart => exact ⟨0, by omega, by simp, by
          have e : (fun j => if at_ / 8 * 8 ≤ j ∧ j < at_ / 8 * 8 + 0 then f j else 0) = fun _ => (0 : Int) := by funext j; rw [if_neg (by omega)]
          rw [e]; exact (unhide H2).1⟩
        case round =>
          obtain ⟨r, hr, rfl, hx⟩ := hrel
          have cA3 := hx.cell hA naF (g3_other naG.1 naG.2.1 naG.2.2)
          by_cases hr8 : r < 8
          · have x1 : wr.cell? ⟨pN, at_ / 8 * 8 + r, none⟩ = some (.int .u64 (f (at_ / 8 * 8 + r))) := (hx.gcell (g3_N d1 d2) _).trans (arr_get 64 f _ (by omega))
            have x2 : wr.cell? ⟨pS, at_ / 8 * 8 + r, none⟩ = some (.int .u64 _) := (hx.gcell (g3_S d3) _).trans (arr_get 64 _ _ (by omega))
            have z2 := hx.gfrozen (g3_S d3) (at_ / 8 * 8 + r)
            have e8 : (at_ : Int) / 8 * 8 + 8 = ((at_ / 8 * 8 + 8 : Nat) : Int) := by omega
            generalize (if at_ / 8 * 8 ≤ at_ / 8 * 8 + r ∧ at_ / 8 * 8 + r < at_ / 8 * 8 + r then f (at_ / 8 * 8 + r) else 0) = old at x2
            have HX := hide hx
            generalize hk : at_ / 8 * 8 + r = k at x1 x2 z2
            have HKK := hide hk
            have hk64 : k < 64 := by omega
            have hklt : (k : Int) < (at_ : Int) / 8 * 8 + 8 := by omega
            clear hx e8 hk
            go_wp2
            go_roundw
            case rel =>
              have hk := unhide HKK
              refine ⟨r + 1, by omega, by rw [← Nat.add_assoc, hk]; go_num, ?_⟩
              have := (unhide HX).setS d3 d2 k (f k)
              have e : upd (fun j => if at_ / 8 * 8 ≤ j ∧ j < at_ / 8 * 8 + r then f j else 0) k (f k) = fun j => if at_ / 8 * 8 ≤ j ∧ j < at_ / 8 * 8 + (r + 1) then f j else 0 := by
                funext j
                simp only [upd]
                by_cases ej : j = k
                · subst ej; rw [if_pos rfl, if_pos (by omega)]
                · rw [if_neg ej]
                  by_cases hin : at_ / 8 * 8 ≤ j ∧ j < at_ / 8 * 8 + r
                  · rw [if_pos hin, if_pos (by omega)]
                  · rw [if_neg hin, if_neg (by omega)]
              rw [e] at this; exact this
            case measure => simp [intOf]; omega
          · have hr9 : r = 8 := by omega
            subst hr9
            have hend : ¬ (((at_ / 8 * 8 + 8 : Nat) : Int) < (at_ : Int) / 8 * 8 + 8) := by omega
            have e : (fun j => if at_ / 8 * 8 ≤ j ∧ j < at_ / 8 * 8 + 8 then f j else 0) = lsent f at_ := rfl
            rw [e] at hx
            obtain ⟨_, pl2, hnow2, hlasts2, hway2⟩ := unhide H2
            have H3 := hide (And.intro hx (And.intro pl2 (And.intro hnow2 (And.intro hlasts2 hway2))))
            clear hx pl2 hnow2 hlasts2 hway2 H2 e
            go_wp2
            go_loopw [9] (fun i wx => ∃ (q3 : Nat) (f3 : Nat → Int) (A3 : Ab), q3 ≤ 40 ∧ i = .int .i64 q3 ∧ At w b F (g3 pN pS pO 28 64 f3 (lsent f at_) true) wx A3 ∧ Plain A3 8 (42 + q3) ∧ A3.now = f3 ∧ A3.lasts = (fun _ => 0) ∧ A3.way = lway f at_) (fun i wx => 40 - (intOf i).toNat)
            case atStart =>
              obtain ⟨hx, pl2, hnow2, hlasts2, hway2⟩ := unhide H3
              exact ⟨0, f, A2, by omega, rfl, hx, ⟨pl2.n, pl2.fuse, pl2.dead, by have := pl2.few; omega⟩, hnow2, hlasts2, hway2⟩
            case round =>
              obtain ⟨q3, f3, A3, hq3, rfl, ha3, pl3, hnow3, hlasts3, hway3⟩ := hrel
              have cd := ha3.cell hd ndF (g3_other ndG.1 ndG.2.1 ndG.2.2)
              have cH := ((unhide HHs).at ha3 (unhide HG _ _ _)).1
              by_cases hlt3 : q3 < len2 ∧ q3 < 40
              · obtain ⟨hq1, hq2⟩ := hlt3
                obtain ⟨xb, xo, rfl, hxw⟩ := (unhide HHs).nums q3 hq1
                obtain ⟨hxF, hxG0⟩ := (unhide HHs).aF (by omega) xb xo rfl
                have hxG : ∀ f s x, g3 pN pS pO 28 64 f s x xb = none := fun f s x => unhide HG f s x xb hxG0
                have hx := ha3.cell hxw hxF (hxG _ _ _)
                have hm := mask63 (z2 q3)
                have hml := msk_le (z2 q3) 63
                obtain ⟨hw1, hw2⟩ := wrap_small (100 + (q3 : Int)) (by omega) (by omega)
                have K : Calls Try.prog 12 #[ptr b, .int .i64 (msk (z2 q3) 63 : Nat), .int .u64 (100 + (q3 : Int))] wr.drew fun e w' => e = .returned (.tuple #[]) ∧ At w b F (g3 pN pS pO 28 64 f3 (lsent f at_) true) w' (A3.tick.store (msk (z2 q3) 63) (100 + (q3 : Int))) :=
                  at_store ha3.drew (pl3.live (by omega)) (msk (z2 q3) 63) (by rw [pl3.n]; omega) (100 + (q3 : Int))
                generalize msk (z2 q3) 63 = j at hm hml K
                have HP := hide (And.intro pl3 (And.intro hnow3 (And.intro hlasts3 hway3)))
                have HK := hide K
                have HXG := hide hxG
                clear ha3 pl3 hnow3 hlasts3 hway3 hxG0 K hxG
                go_wp2
                go_region_held3 (fun w' => w'.cell? ⟨pd, 0, none⟩ = some (ptr b) ∧ w'.cell? ⟨pH, 0, none⟩ = some (.slice (some ⟨xb, xo, none⟩) len2 cap2) ∧ w'.cell? ⟨xb, xo + q3, none⟩ = some (.int .i64 (z2 q3))) (go_keep)
                  (first | (go_at_call 12; refine (unhide HK).mono ?_; rintro e w2 ⟨rfl, ha2⟩; have cd2 := ha2.cell hd ndF (g3_other ndG.1 ndG.2.1 ndG.2.2); have cB2 := ((unhide HHs).at ha2 (unhide HG _ _ _)).1; have hx2 := ha2.cell hxw hxF (unhide HXG _ _ _); have cN2 : w2.cell? ⟨pN, j, none⟩ = some (.int .u64 (f3 j)) := (ha2.gcell (g3_N d1 d2) j).trans (arr_get 64 f3 j (by omega)); have zN2 := ha2.gfrozen (g3_N d1 d2) j; have HA2 := hide ha2; clear ha2))
                go_wp2
                go_roundw
                case rel =>
                  obtain ⟨pl3, hnow3, hlasts3, hway3⟩ := unhide HP
                  exact ⟨q3 + 1, upd f3 j (100 + (q3 : Int)), _, by omega, by go_num, (unhide HA2).setN d1 d2 j (100 + (q3 : Int)), ⟨pl3.n, (pl3.tick.store j (100 + (q3 : Int))).fuse, pl3.dead, by have := (pl3.tick.store j (100 + (q3 : Int))).few; omega⟩, by rw [← hnow3]; rfl, hlasts3, hway3⟩
                case measure => simp [intOf]; omega
              · by_cases hq1 : q3 < len2
                · have hq2 : ¬ q3 < 40 := by omega
                  have K : Calls Try.prog 14 #[ptr b] wr fun e w' => e = .returned (.tuple #[]) ∧ At w b F (g3 pN pS pO 28 64 f3 (lsent f at_) true) w' A3.tick.fenced := at_fence ha3 (pl3.live (by omega)) (by have := pl3.few; omega)
                  have cd3 := ha3.cell hd ndF (g3_other ndG.1 ndG.2.1 ndG.2.2)
                  have HP := hide (And.intro pl3 (And.intro hnow3 (And.intro hlasts3 hway3)))
                  have HK := hide K
                  clear ha3 pl3 hnow3 hlasts3 hway3 K cd
                  go_wp2_with fail
                  refine (unhide HK).mono ?_
                  rintro e w4 ⟨rfl, ha4⟩
                  obtain ⟨pl4, hnow4, hl4⟩ : Plain A3.tick.fenced 8 130 ∧ A3.tick.fenced.now = f3 ∧ ∀ j, j < 64 → A3.tick.fenced.lasts j = lsent f at_ j := by
                    obtain ⟨pl3, hnow3, hlasts3, hway3⟩ := unhide HP
                    exact ⟨⟨pl3.tick.fenced.n, pl3.tick.fenced.fuse, pl3.tick.fenced.dead, by have := pl3.tick.fenced.few; omega⟩, hnow3, fun j hj => lines_lasts hlasts3 hway3 j⟩
                  generalize A3.tick.fenced = A4 at ha4 pl4 hnow4 hl4
                  have H4 := hide (And.intro ha4 (And.intro pl4 (And.intro hnow4 hl4)))
                  clear ha4 pl4 hnow4 hl4 HK HP cd3
                  go_wp2
                  go_loopw [10] (fun i wx => ∃ r : Nat, r ≤ 64 ∧ i = .int .i64 r ∧ At w b F (g3 pN pS pO 28 64 f3 (lsent f at_) true) wx A4) (fun i wx => 64 - (intOf i).toNat)
                  case atStart => exact ⟨0, by omega, rfl, (unhide H4).1⟩
                  case round =>
                    obtain ⟨r, hr, rfl, hx⟩ := hrel
                    by_cases hr64 : r < 64
                    · obtain ⟨_, pl4, hnow4, _⟩ := unhide H4
                      have x1 := hx.cell hd ndF (g3_other ndG.1 ndG.2.1 ndG.2.2)
                      have x2 : wr.cell? ⟨pO, 0, none⟩ = some (.bool true) := hx.gcell g3_O 0
                      have x3 : wr.cell? ⟨pN, r, none⟩ = some (.int .u64 (f3 r)) := (hx.gcell (g3_N d1 d2) r).trans (arr_get 64 f3 r hr64)
                      have z2 := hx.gfrozen g3_O 0
                      have hs := hx.setO true
                      have y1 := hs.cell hd ndF (g3_other ndG.1 ndG.2.1 ndG.2.2)
                      have y2 : (wr.setCell ⟨pO, 0, none⟩ (.bool true)).cell? ⟨pO, 0, none⟩ = some (.bool true) := hs.gcell g3_O 0
                      have y3 : (wr.setCell ⟨pO, 0, none⟩ (.bool true)).cell? ⟨pN, r, none⟩ = some (.int .u64 (f3 r)) := (hs.gcell (g3_N d1 d2) r).trans (arr_get 64 f3 r hr64)
                      clear hs
                      have K : Calls Try.prog 15 #[ptr b, .int .i64 (r : Nat)] wr.drew fun e w' => e = .returned (.int .u64 (f3 r)) ∧ wr.drew = w' := (at_load hx.drew pl4.dead r (by rw [pl4.n]; exact hr64)).mono (by rintro e w' ⟨rfl, rfl⟩; rw [hnow4]; exact ⟨rfl, rfl⟩)
                      have HX := hide hx; have HK := hide K
                      clear hx K pl4 hnow4
                      go_wp2
                      go_region_held3 (fun w' => w'.cell? ⟨pd, 0, none⟩ = some (ptr b) ∧ w'.cell? ⟨pO, 0, none⟩ = some (.bool true) ∧ w'.cell? ⟨pN, r, none⟩ = some (.int .u64 (f3 r))) (go_keep)
                        (first | (go_at_call 15; refine (unhide HK).mono ?_; rintro e w5 ⟨rfl, rfl⟩))
                      all_goals
                        go_wp2
                        go_roundw
                        case rel => exact ⟨r + 1, by omega, by go_num, by have := ((unhide HX).drew).setO true; exact this⟩
                        case measure => simp [intOf]; omega
                    · have K : Calls Try.prog 16 #[ptr b, .bool false, .slice none 0 0] wr fun e w' => e = .returned (.tuple #[]) ∧ At w b F (g3 pN pS pO 28 64 f3 (lsent f at_) true) w' (A4.powered false (fun _ => false)) := at_power_nil hx (by have := (unhide H4).2.1.few; omega) false
                      have cd4 := hx.cell hd ndF (g3_other ndG.1 ndG.2.1 ndG.2.2)
                      have HK := hide K
                      clear hx K
                      go_wp2_with fail
                      refine (unhide HK).mono ?_
                      rintro e w6 ⟨rfl, ha6⟩
                      obtain ⟨pl6, hnow6⟩ : Plain (A4.powered false (fun _ => false)) 8 130 ∧ ∀ j, j < 64 → (A4.powered false (fun _ => false)).now j = lsent f at_ j := by
                        obtain ⟨_, pl4, hnow4, hl4⟩ := unhide H4
                        exact ⟨pl4.powered _ _, fun j hj => by simp only [Ab.powered, if_true]; exact hl4 j hj⟩
                      generalize A4.powered false (fun _ => false) = A6 at ha6 pl6 hnow6
                      have H6 := hide (And.intro ha6 (And.intro pl6 hnow6))
                      clear ha6 pl6 hnow6 HK cd4 H4
                      go_wp2
                      go_loopw [11] (fun i wy => ∃ r : Nat, r ≤ 64 ∧ i = .int .i64 r ∧ At w b F (g3 pN pS pO 28 64 f3 (lsent f at_) true) wy A6) (fun i wy => 64 - (intOf i).toNat)
                      case atStart => exact ⟨0, by omega, rfl, (unhide H6).1⟩
                      case round =>
                        obtain ⟨t, ht, rfl, hy⟩ := hrel
                        by_cases ht64 : t < 64
                        · obtain ⟨_, pl6, hnow6⟩ := unhide H6
                          have x1 := hy.cell hd ndF (g3_other ndG.1 ndG.2.1 ndG.2.2)
                          have x2 : wr.cell? ⟨pO, 0, none⟩ = some (.bool true) := hy.gcell g3_O 0
                          have x3 : wr.cell? ⟨pS, t, none⟩ = some (.int .u64 (lsent f at_ t)) := (hy.gcell (g3_S d3) t).trans (arr_get 64 _ t ht64)
                          have z2 := hy.gfrozen g3_O 0
                          have hs := hy.setO true
                          have y1 := hs.cell hd ndF (g3_other ndG.1 ndG.2.1 ndG.2.2)
                          have y2 : (wr.setCell ⟨pO, 0, none⟩ (.bool true)).cell? ⟨pO, 0, none⟩ = some (.bool true) := hs.gcell g3_O 0
                          have y3 : (wr.setCell ⟨pO, 0, none⟩ (.bool true)).cell? ⟨pS, t, none⟩ = some (.int .u64 (lsent f at_ t)) := (hs.gcell (g3_S d3) t).trans (arr_get 64 _ t ht64)
                          clear hs
                          have K : Calls Try.prog 15 #[ptr b, .int .i64 (t : Nat)] wr.drew fun e w' => e = .returned (.int .u64 (lsent f at_ t)) ∧ wr.drew = w' := (at_load hy.drew pl6.dead t (by rw [pl6.n]; exact ht64)).mono (by rintro e w' ⟨rfl, rfl⟩; rw [hnow6 t ht64]; exact ⟨rfl, rfl⟩)
                          have HX := hide hy; have HK := hide K
                          clear hy K pl6 hnow6
                          generalize lsent f at_ t = sv at x3 y3 HK
                          go_wp2
                          go_region_held3 (fun w' => w'.cell? ⟨pd, 0, none⟩ = some (ptr b) ∧ w'.cell? ⟨pO, 0, none⟩ = some (.bool true) ∧ w'.cell? ⟨pS, t, none⟩ = some (.int .u64 sv)) (go_keep)
                            (first | (go_at_call 15; refine (unhide HK).mono ?_; rintro e w5 ⟨rfl, rfl⟩))
                          all_goals
                            go_wp2
                            go_roundw
                            case rel => exact ⟨t + 1, by omega, by go_num, by have := ((unhide HX).drew).setO true; exact this⟩
                            case measure => simp [intOf]; omega
                        · have HX := hide hy
                          clear hy
                          go_wp2
                          go_end0
                          exact ⟨rfl, _, _, _, unhide HX⟩
                · clear hlt3
                  have K : Calls Try.prog 14 #[ptr b] wr fun e w' => e = .returned (.tuple #[]) ∧ At w b F (g3 pN pS pO 28 64 f3 (lsent f at_) true) w' A3.tick.fenced := at_fence ha3 (pl3.live (by omega)) (by have := pl3.few; omega)
                  have cd3 := ha3.cell hd ndF (g3_other ndG.1 ndG.2.1 ndG.2.2)
                  have HP := hide (And.intro pl3 (And.intro hnow3 (And.intro hlasts3 hway3)))
                  have HK := hide K
                  clear ha3 pl3 hnow3 hlasts3 hway3 K cd
                  go_wp2_with fail
                  refine (unhide HK).mono ?_
                  rintro e w4 ⟨rfl, ha4⟩
                  obtain ⟨pl4, hnow4, hl4⟩ : Plain A3.tick.fenced 8 130 ∧ A3.tick.fenced.now = f3 ∧ ∀ j, j < 64 → A3.tick.fenced.lasts j = lsent f at_ j := by
                    obtain ⟨pl3, hnow3, hlasts3, hway3⟩ := unhide HP
                    exact ⟨⟨pl3.tick.fenced.n, pl3.tick.fenced.fuse, pl3.tick.fenced.dead, by have := pl3.tick.fenced.few; omega⟩, hnow3, fun j hj => lines_lasts hlasts3 hway3 j⟩
                  generalize A3.tick.fenced = A4 at ha4 pl4 hnow4 hl4
                  have H4 := hide (And.intro ha4 (And.intro pl4 (And.intro hnow4 hl4)))
                  clear ha4 pl4 hnow4 hl4 HK HP cd3
                  go_wp2
                  go_loopw [10] (fun i wx => ∃ r : Nat, r ≤ 64 ∧ i = .int .i64 r ∧ At w b F (g3 pN pS pO 28 64 f3 (lsent f at_) true) wx A4) (fun i wx => 64 - (intOf i).toNat)
                  case atStart => exact ⟨0, by omega, rfl, (unhide H4).1⟩
                  case round =>
                    obtain ⟨r, hr, rfl, hx⟩ := hrel
                    by_cases hr64 : r < 64
                    · obtain ⟨_, pl4, hnow4, _⟩ := unhide H4
                      have x1 := hx.cell hd ndF (g3_other ndG.1 ndG.2.1 ndG.2.2)
                      have x2 : wr.cell? ⟨pO, 0, none⟩ = some (.bool true) := hx.gcell g3_O 0
                      have x3 : wr.cell? ⟨pN, r, none⟩ = some (.int .u64 (f3 r)) := (hx.gcell (g3_N d1 d2) r).trans (arr_get 64 f3 r hr64)
                      have z2 := hx.gfrozen g3_O 0
                      have hs := hx.setO true
                      have y1 := hs.cell hd ndF (g3_other ndG.1 ndG.2.1 ndG.2.2)
                      have y2 : (wr.setCell ⟨pO, 0, none⟩ (.bool true)).cell? ⟨pO, 0, none⟩ = some (.bool true) := hs.gcell g3_O 0
                      have y3 : (wr.setCell ⟨pO, 0, none⟩ (.bool true)).cell? ⟨pN, r, none⟩ = some (.int .u64 (f3 r)) := (hs.gcell (g3_N d1 d2) r).trans (arr_get 64 f3 r hr64)
                      clear hs
                      have K : Calls Try.prog 15 #[ptr b, .int .i64 (r : Nat)] wr.drew fun e w' => e = .returned (.int .u64 (f3 r)) ∧ wr.drew = w' := (at_load hx.drew pl4.dead r (by rw [pl4.n]; exact hr64)).mono (by rintro e w' ⟨rfl, rfl⟩; rw [hnow4]; exact ⟨rfl, rfl⟩)
                      have HX := hide hx; have HK := hide K
                      clear hx K pl4 hnow4
                      go_wp2
                      go_region_held3 (fun w' => w'.cell? ⟨pd, 0, none⟩ = some (ptr b) ∧ w'.cell? ⟨pO, 0, none⟩ = some (.bool true) ∧ w'.cell? ⟨pN, r, none⟩ = some (.int .u64 (f3 r))) (go_keep)
                        (first | (go_at_call 15; refine (unhide HK).mono ?_; rintro e w5 ⟨rfl, rfl⟩))
                      all_goals
                        go_wp2
                        go_roundw
                        case rel => exact ⟨r + 1, by omega, by go_num, by have := ((unhide HX).drew).setO true; exact this⟩
                        case measure => simp [intOf]; omega
                    · have K : Calls Try.prog 16 #[ptr b, .bool false, .slice none 0 0] wr fun e w' => e = .returned (.tuple #[]) ∧ At w b F (g3 pN pS pO 28 64 f3 (lsent f at_) true) w' (A4.powered false (fun _ => false)) := at_power_nil hx (by have := (unhide H4).2.1.few; omega) false
                      have cd4 := hx.cell hd ndF (g3_other ndG.1 ndG.2.1 ndG.2.2)
                      have HK := hide K
                      clear hx K
                      go_wp2_with fail
                      refine (unhide HK).mono ?_
                      rintro e w6 ⟨rfl, ha6⟩
                      obtain ⟨pl6, hnow6⟩ : Plain (A4.powered false (fun _ => false)) 8 130 ∧ ∀ j, j < 64 → (A4.powered false (fun _ => false)).now j = lsent f at_ j := by
                        obtain ⟨_, pl4, hnow4, hl4⟩ := unhide H4
                        exact ⟨pl4.powered _ _, fun j hj => by simp only [Ab.powered, if_true]; exact hl4 j hj⟩
                      generalize A4.powered false (fun _ => false) = A6 at ha6 pl6 hnow6
                      have H6 := hide (And.intro ha6 (And.intro pl6 hnow6))
                      clear ha6 pl6 hnow6 HK cd4 H4
                      go_wp2
                      go_loopw [11] (fun i wy => ∃ r : Nat, r ≤ 64 ∧ i = .int .i64 r ∧ At w b F (g3 pN pS pO 28 64 f3 (lsent f at_) true) wy A6) (fun i wy => 64 - (intOf i).toNat)
                      case atStart => exact ⟨0, by omega, rfl, (unhide H6).1⟩
                      case round =>
                        obtain ⟨t, ht, rfl, hy⟩ := hrel
                        by_cases ht64 : t < 64
                        · obtain ⟨_, pl6, hnow6⟩ := unhide H6
                          have x1 := hy.cell hd ndF (g3_other ndG.1 ndG.2.1 ndG.2.2)
                          have x2 : wr.cell? ⟨pO, 0, none⟩ = some (.bool true) := hy.gcell g3_O 0
                          have x3 : wr.cell? ⟨pS, t, none⟩ = some (.int .u64 (lsent f at_ t)) := (hy.gcell (g3_S d3) t).trans (arr_get 64 _ t ht64)
                          have z2 := hy.gfrozen g3_O 0
                          have hs := hy.setO true
                          have y1 := hs.cell hd ndF (g3_other ndG.1 ndG.2.1 ndG.2.2)
                          have y2 : (wr.setCell ⟨pO, 0, none⟩ (.bool true)).cell? ⟨pO, 0, none⟩ = some (.bool true) := hs.gcell g3_O 0
                          have y3 : (wr.setCell ⟨pO, 0, none⟩ (.bool true)).cell? ⟨pS, t, none⟩ = some (.int .u64 (lsent f at_ t)) := (hs.gcell (g3_S d3) t).trans (arr_get 64 _ t ht64)
                          clear hs
                          have K : Calls Try.prog 15 #[ptr b, .int .i64 (t : Nat)] wr.drew fun e w' => e = .returned (.int .u64 (lsent f at_ t)) ∧ wr.drew = w' := (at_load hy.drew pl6.dead t (by rw [pl6.n]; exact ht64)).mono (by rintro e w' ⟨rfl, rfl⟩; rw [hnow6 t ht64]; exact ⟨rfl, rfl⟩)
                          have HX := hide hy; have HK := hide K
                          clear hy K pl6 hnow6
                          generalize lsent f at_ t = sv at x3 y3 HK
                          go_wp2
                          go_region_held3 (fun w' => w'.cell? ⟨pd, 0, none⟩ = some (ptr b) ∧ w'.cell? ⟨pO, 0, none⟩ = some (.bool true) ∧ w'.cell? ⟨pS, t, none⟩ = some (.int .u64 sv)) (go_keep)
                            (first | (go_at_call 15; refine (unhide HK).mono ?_; rintro e w5 ⟨rfl, rfl⟩))
                          all_goals
                            go_wp2
                            go_roundw
                            case rel => exact ⟨t + 1, by omega, by go_num, by have := ((unhide HX).drew).setO true; exact this⟩
                            case measure => simp [intOf]; omega
                        · have HX := hide hy
                          clear hy
                          go_wp2
                          go_end0
                          exact ⟨rfl, _, _, _, unhide HX⟩
      · clear hlt
        have cA := ha.cell hA naF (g3_other naG.1 naG.2.1 naG.2.2)
        have K : Calls Try.prog 13 #[ptr b, .int .i64 (at_ : Nat)] wr fun e w' => e = .returned (.tuple #[]) ∧ At w b F (g3 pN pS pO 28 64 f (fun _ => 0) true) w' (A.tick.sendLine (at_ / 8)) := at_flush ha (pl.live (by omega)) (by have := pl.few; omega) at_ (by rw [pl.n]; omega)
        have HP := hide (And.intro pl (And.intro hnow (And.intro hlasts hway)))
        have HK := hide K
        clear ha pl hnow hlasts hway K nB
        go_wp2_with fail
        refine (unhide HK).mono ?_
        rintro e w2 ⟨rfl, ha2⟩
        have cA2 := ha2.cell hA naF (g3_other naG.1 naG.2.1 naG.2.2)
        obtain ⟨pl2, hnow2, hlasts2, hway2⟩ : Plain (A.tick.sendLine (at_ / 8)) 8 42 ∧ (A.tick.sendLine (at_ / 8)).now = f ∧ (A.tick.sendLine (at_ / 8)).lasts = (fun _ => 0) ∧ (A.tick.sendLine (at_ / 8)).way = lway f at_ := by
          obtain ⟨pl, hnow, hlasts, hway⟩ := unhide HP
          refine ⟨⟨pl.n, (pl.tick.send _).fuse, pl.dead, by have := (pl.tick.send (at_ / 8)).few; omega⟩, hnow, hlasts, ?_⟩
          simp only [Ab.sendLine, Ab.tick, lway, hway, hnow]
        generalize A.tick.sendLine (at_ / 8) = A2 at ha2 pl2 hnow2 hlasts2 hway2
        have H2 := hide (And.intro ha2 (And.intro pl2 (And.intro hnow2 (And.intro hlasts2 hway2))))
        clear ha2 pl2 hnow2 hlasts2 hway2 HK HP cA
        go_wp2
        go_loopw [8] (fun i wx => ∃ r : Nat, r ≤ 8 ∧ i = .int .i64 ((at_ / 8 * 8 + r : Nat) : Int) ∧ At w b F (g3 pN pS pO 28 64 f (fun j => if at_ / 8 * 8 ≤ j ∧ j < at_ / 8 * 8 + r then f j else 0) true) wx A2) (fun i wx => 72 - (intOf i).toNat)
        case atStart => exact ⟨0, by omega, by simp, by
          have e : (fun j => if at_ / 8 * 8 ≤ j ∧ j < at_ / 8 * 8 + 0 then f j else 0) = fun _ => (0 : Int) := by funext j; rw [if_neg (by omega)]
          rw [e]; exact (unhide H2).1⟩
        case round =>
          obtain ⟨r, hr, rfl, hx⟩ := hrel
          have cA3 := hx.cell hA naF (g3_other naG.1 naG.2.1 naG.2.2)
          by_cases hr8 : r < 8
          · have x1 : wr.cell? ⟨pN, at_ / 8 * 8 + r, none⟩ = some (.int .u64 (f (at_ / 8 * 8 + r))) := (hx.gcell (g3_N d1 d2) _).trans (arr_get 64 f _ (by omega))
            have x2 : wr.cell? ⟨pS, at_ / 8 * 8 + r, none⟩ = some (.int .u64 _) := (hx.gcell (g3_S d3) _).trans (arr_get 64 _ _ (by omega))
            have z2 := hx.gfrozen (g3_S d3) (at_ / 8 * 8 + r)
            have e8 : (at_ : Int) / 8 * 8 + 8 = ((at_ / 8 * 8 + 8 : Nat) : Int) := by omega
            generalize (if at_ / 8 * 8 ≤ at_ / 8 * 8 + r ∧ at_ / 8 * 8 + r < at_ / 8 * 8 + r then f (at_ / 8 * 8 + r) else 0) = old at x2
            have HX := hide hx
            generalize hk : at_ / 8 * 8 + r = k at x1 x2 z2
            have HKK := hide hk
            have hk64 : k < 64 := by omega
            have hklt : (k : Int) < (at_ : Int) / 8 * 8 + 8 := by omega
            clear hx e8 hk
            go_wp2
            go_roundw
            case rel =>
              have hk := unhide HKK
              refine ⟨r + 1, by omega, by rw [← Nat.add_assoc, hk]; go_num, ?_⟩
              have := (unhide HX).setS d3 d2 k (f k)
              have e : upd (fun j => if at_ / 8 * 8 ≤ j ∧ j < at_ / 8 * 8 + r then f j else 0) k (f k) = fun j => if at_ / 8 * 8 ≤ j ∧ j < at_ / 8 * 8 + (r + 1) then f j else 0 := by
                funext j
                simp only [upd]
                by_cases ej : j = k
                · subst ej; rw [if_pos rfl, if_pos (by omega)]
                · rw [if_neg ej]
                  by_cases hin : at_ / 8 * 8 ≤ j ∧ j < at_ / 8 * 8 + r
                  · rw [if_pos hin, if_pos (by omega)]
                  · rw [if_neg hin, if_neg (by omega)]
              rw [e] at this; exact this
            case measure => simp [intOf]; omega
          · have hr9 : r = 8 := by omega
            subst hr9
            have hend : ¬ (((at_ / 8 * 8 + 8 : Nat) : Int) < (at_ : Int) / 8 * 8 + 8) := by omega
            have e : (fun j => if at_ / 8 * 8 ≤ j ∧ j < at_ / 8 * 8 + 8 then f j else 0) = lsent f at_ := rfl
            rw [e] at hx
            obtain ⟨_, pl2, hnow2, hlasts2, hway2⟩ := unhide H2
            have H3 := hide (And.intro hx (And.intro pl2 (And.intro hnow2 (And.intro hlasts2 hway2))))
            clear hx pl2 hnow2 hlasts2 hway2 H2 e
            go_wp2
            go_loopw [9] (fun i wx => ∃ (q3 : Nat) (f3 : Nat → Int) (A3 : Ab), q3 ≤ 40 ∧ i = .int .i64 q3 ∧ At w b F (g3 pN pS pO 28 64 f3 (lsent f at_) true) wx A3 ∧ Plain A3 8 (42 + q3) ∧ A3.now = f3 ∧ A3.lasts = (fun _ => 0) ∧ A3.way = lway f at_) (fun i wx => 40 - (intOf i).toNat)
            case atStart =>
              obtain ⟨hx, pl2, hnow2, hlasts2, hway2⟩ := unhide H3
              exact ⟨0, f, A2, by omega, rfl, hx, ⟨pl2.n, pl2.fuse, pl2.dead, by have := pl2.few; omega⟩, hnow2, hlasts2, hway2⟩
            case round =>
              obtain ⟨q3, f3, A3, hq3, rfl, ha3, pl3, hnow3, hlasts3, hway3⟩ := hrel
              have cd := ha3.cell hd ndF (g3_other ndG.1 ndG.2.1 ndG.2.2)
              have cH := ((unhide HHs).at ha3 (unhide HG _ _ _)).1
              by_cases hlt3 : q3 < len2 ∧ q3 < 40
              · obtain ⟨hq1, hq2⟩ := hlt3
                obtain ⟨xb, xo, rfl, hxw⟩ := (unhide HHs).nums q3 hq1
                obtain ⟨hxF, hxG0⟩ := (unhide HHs).aF (by omega) xb xo rfl
                have hxG : ∀ f s x, g3 pN pS pO 28 64 f s x xb = none := fun f s x => unhide HG f s x xb hxG0
                have hx := ha3.cell hxw hxF (hxG _ _ _)
                have hm := mask63 (z2 q3)
                have hml := msk_le (z2 q3) 63
                obtain ⟨hw1, hw2⟩ := wrap_small (100 + (q3 : Int)) (by omega) (by omega)
                have K : Calls Try.prog 12 #[ptr b, .int .i64 (msk (z2 q3) 63 : Nat), .int .u64 (100 + (q3 : Int))] wr.drew fun e w' => e = .returned (.tuple #[]) ∧ At w b F (g3 pN pS pO 28 64 f3 (lsent f at_) true) w' (A3.tick.store (msk (z2 q3) 63) (100 + (q3 : Int))) :=
                  at_store ha3.drew (pl3.live (by omega)) (msk (z2 q3) 63) (by rw [pl3.n]; omega) (100 + (q3 : Int))
                generalize msk (z2 q3) 63 = j at hm hml K
                have HP := hide (And.intro pl3 (And.intro hnow3 (And.intro hlasts3 hway3)))
                have HK := hide K
                have HXG := hide hxG
                clear ha3 pl3 hnow3 hlasts3 hway3 hxG0 K hxG
                go_wp2
                go_region_held3 (fun w' => w'.cell? ⟨pd, 0, none⟩ = some (ptr b) ∧ w'.cell? ⟨pH, 0, none⟩ = some (.slice (some ⟨xb, xo, none⟩) len2 cap2) ∧ w'.cell? ⟨xb, xo + q3, none⟩ = some (.int .i64 (z2 q3))) (go_keep)
                  (first | (go_at_call 12; refine (unhide HK).mono ?_; rintro e w2 ⟨rfl, ha2⟩; have cd2 := ha2.cell hd ndF (g3_other ndG.1 ndG.2.1 ndG.2.2); have cB2 := ((unhide HHs).at ha2 (unhide HG _ _ _)).1; have hx2 := ha2.cell hxw hxF (unhide HXG _ _ _); have cN2 : w2.cell? ⟨pN, j, none⟩ = some (.int .u64 (f3 j)) := (ha2.gcell (g3_N d1 d2) j).trans (arr_get 64 f3 j (by omega)); have zN2 := ha2.gfrozen (g3_N d1 d2) j; have HA2 := hide ha2; clear ha2))
                go_wp2
                go_roundw
                case rel =>
                  obtain ⟨pl3, hnow3, hlasts3, hway3⟩ := unhide HP
                  exact ⟨q3 + 1, upd f3 j (100 + (q3 : Int)), _, by omega, by go_num, (unhide HA2).setN d1 d2 j (100 + (q3 : Int)), ⟨pl3.n, (pl3.tick.store j (100 + (q3 : Int))).fuse, pl3.dead, by have := (pl3.tick.store j (100 + (q3 : Int))).few; omega⟩, by rw [← hnow3]; rfl, hlasts3, hway3⟩
                case measure => simp [intOf]; omega
              · by_cases hq1 : q3 < len2
                · have hq2 : ¬ q3 < 40 := by omega
                  have K : Calls Try.prog 14 #[ptr b] wr fun e w' => e = .returned (.tuple #[]) ∧ At w b F (g3 pN pS pO 28 64 f3 (lsent f at_) true) w' A3.tick.fenced := at_fence ha3 (pl3.live (by omega)) (by have := pl3.few; omega)
                  have cd3 := ha3.cell hd ndF (g3_other ndG.1 ndG.2.1 ndG.2.2)
                  have HP := hide (And.intro pl3 (And.intro hnow3 (And.intro hlasts3 hway3)))
                  have HK := hide K
                  clear ha3 pl3 hnow3 hlasts3 hway3 K cd
                  go_wp2_with fail
                  refine (unhide HK).mono ?_
                  rintro e w4 ⟨rfl, ha4⟩
                  obtain ⟨pl4, hnow4, hl4⟩ : Plain A3.tick.fenced 8 130 ∧ A3.tick.fenced.now = f3 ∧ ∀ j, j < 64 → A3.tick.fenced.lasts j = lsent f at_ j := by
                    obtain ⟨pl3, hnow3, hlasts3, hway3⟩ := unhide HP
                    exact ⟨⟨pl3.tick.fenced.n, pl3.tick.fenced.fuse, pl3.tick.fenced.dead, by have := pl3.tick.fenced.few; omega⟩, hnow3, fun j hj => lines_lasts hlasts3 hway3 j⟩
                  generalize A3.tick.fenced = A4 at ha4 pl4 hnow4 hl4
                  have H4 := hide (And.intro ha4 (And.intro pl4 (And.intro hnow4 hl4)))
                  clear ha4 pl4 hnow4 hl4 HK HP cd3
                  go_wp2
                  go_loopw [10] (fun i wx => ∃ r : Nat, r ≤ 64 ∧ i = .int .i64 r ∧ At w b F (g3 pN pS pO 28 64 f3 (lsent f at_) true) wx A4) (fun i wx => 64 - (intOf i).toNat)
                  case atStart => exact ⟨0, by omega, rfl, (unhide H4).1⟩
                  case round =>
                    obtain ⟨r, hr, rfl, hx⟩ := hrel
                    by_cases hr64 : r < 64
                    · obtain ⟨_, pl4, hnow4, _⟩ := unhide H4
                      have x1 := hx.cell hd ndF (g3_other ndG.1 ndG.2.1 ndG.2.2)
                      have x2 : wr.cell? ⟨pO, 0, none⟩ = some (.bool true) := hx.gcell g3_O 0
                      have x3 : wr.cell? ⟨pN, r, none⟩ = some (.int .u64 (f3 r)) := (hx.gcell (g3_N d1 d2) r).trans (arr_get 64 f3 r hr64)
                      have z2 := hx.gfrozen g3_O 0
                      have hs := hx.setO true
                      have y1 := hs.cell hd ndF (g3_other ndG.1 ndG.2.1 ndG.2.2)
                      have y2 : (wr.setCell ⟨pO, 0, none⟩ (.bool true)).cell? ⟨pO, 0, none⟩ = some (.bool true) := hs.gcell g3_O 0
                      have y3 : (wr.setCell ⟨pO, 0, none⟩ (.bool true)).cell? ⟨pN, r, none⟩ = some (.int .u64 (f3 r)) := (hs.gcell (g3_N d1 d2) r).trans (arr_get 64 f3 r hr64)
                      clear hs
                      have K : Calls Try.prog 15 #[ptr b, .int .i64 (r : Nat)] wr.drew fun e w' => e = .returned (.int .u64 (f3 r)) ∧ wr.drew = w' := (at_load hx.drew pl4.dead r (by rw [pl4.n]; exact hr64)).mono (by rintro e w' ⟨rfl, rfl⟩; rw [hnow4]; exact ⟨rfl, rfl⟩)
                      have HX := hide hx; have HK := hide K
                      clear hx K pl4 hnow4
                      go_wp2
                      go_region_held3 (fun w' => w'.cell? ⟨pd, 0, none⟩ = some (ptr b) ∧ w'.cell? ⟨pO, 0, none⟩ = some (.bool true) ∧ w'.cell? ⟨pN, r, none⟩ = some (.int .u64 (f3 r))) (go_keep)
                        (first | (go_at_call 15; refine (unhide HK).mono ?_; rintro e w5 ⟨rfl, rfl⟩))
                      all_goals
                        go_wp2
                        go_roundw
                        case rel => exact ⟨r + 1, by omega, by go_num, by have := ((unhide HX).drew).setO true; exact this⟩
                        case measure => simp [intOf]; omega
                    · have K : Calls Try.prog 16 #[ptr b, .bool false, .slice none 0 0] wr fun e w' => e = .returned (.tuple #[]) ∧ At w b F (g3 pN pS pO 28 64 f3 (lsent f at_) true) w' (A4.powered false (fun _ => false)) := at_power_nil hx (by have := (unhide H4).2.1.few; omega) false
                      have cd4 := hx.cell hd ndF (g3_other ndG.1 ndG.2.1 ndG.2.2)
                      have HK := hide K
                      clear hx K
                      go_wp2_with fail
                      refine (unhide HK).mono ?_
                      rintro e w6 ⟨rfl, ha6⟩
                      obtain ⟨pl6, hnow6⟩ : Plain (A4.powered false (fun _ => false)) 8 130 ∧ ∀ j, j < 64 → (A4.powered false (fun _ => false)).now j = lsent f at_ j := by
                        obtain ⟨_, pl4, hnow4, hl4⟩ := unhide H4
                        exact ⟨pl4.powered _ _, fun j hj => by simp only [Ab.powered, if_true]; exact hl4 j hj⟩
                      generalize A4.powered false (fun _ => false) = A6 at ha6 pl6 hnow6
                      have H6 := hide (And.intro ha6 (And.intro pl6 hnow6))
                      clear ha6 pl6 hnow6 HK cd4 H4
                      go_wp2
                      go_loopw [11] (fun i wy => ∃ r : Nat, r ≤ 64 ∧ i = .int .i64 r ∧ At w b F (g3 pN pS pO 28 64 f3 (lsent f at_) true) wy A6) (fun i wy => 64 - (intOf i).toNat)
                      case atStart => exact ⟨0, by omega, rfl, (unhide H6).1⟩
                      case round =>
                        obtain ⟨t, ht, rfl, hy⟩ := hrel
                        by_cases ht64 : t < 64
                        · obtain ⟨_, pl6, hnow6⟩ := unhide H6
                          have x1 := hy.cell hd ndF (g3_other ndG.1 ndG.2.1 ndG.2.2)
                          have x2 : wr.cell? ⟨pO, 0, none⟩ = some (.bool true) := hy.gcell g3_O 0
                          have x3 : wr.cell? ⟨pS, t, none⟩ = some (.int .u64 (lsent f at_ t)) := (hy.gcell (g3_S d3) t).trans (arr_get 64 _ t ht64)
                          have z2 := hy.gfrozen g3_O 0
                          have hs := hy.setO true
                          have y1 := hs.cell hd ndF (g3_other ndG.1 ndG.2.1 ndG.2.2)
                          have y2 : (wr.setCell ⟨pO, 0, none⟩ (.bool true)).cell? ⟨pO, 0, none⟩ = some (.bool true) := hs.gcell g3_O 0
                          have y3 : (wr.setCell ⟨pO, 0, none⟩ (.bool true)).cell? ⟨pS, t, none⟩ = some (.int .u64 (lsent f at_ t)) := (hs.gcell (g3_S d3) t).trans (arr_get 64 _ t ht64)
                          clear hs
                          have K : Calls Try.prog 15 #[ptr b, .int .i64 (t : Nat)] wr.drew fun e w' => e = .returned (.int .u64 (lsent f at_ t)) ∧ wr.drew = w' := (at_load hy.drew pl6.dead t (by rw [pl6.n]; exact ht64)).mono (by rintro e w' ⟨rfl, rfl⟩; rw [hnow6 t ht64]; exact ⟨rfl, rfl⟩)
                          have HX := hide hy; have HK := hide K
                          clear hy K pl6 hnow6
                          generalize lsent f at_ t = sv at x3 y3 HK
                          go_wp2
                          go_region_held3 (fun w' => w'.cell? ⟨pd, 0, none⟩ = some (ptr b) ∧ w'.cell? ⟨pO, 0, none⟩ = some (.bool true) ∧ w'.cell? ⟨pS, t, none⟩ = some (.int .u64 sv)) (go_keep)
                            (first | (go_at_call 15; refine (unhide HK).mono ?_; rintro e w5 ⟨rfl, rfl⟩))
                          all_goals
                            go_wp2
                            go_roundw
                            case rel => exact ⟨t + 1, by omega, by go_num, by have := ((unhide HX).drew).setO true; exact this⟩
                            case measure => simp [intOf]; omega
                        · have HX := hide hy
                          clear hy
                          go_wp2
                          go_end0
                          exact ⟨rfl, _, _, _, unhide HX⟩
                · clear hlt3
                  have K : Calls Try.prog 14 #[ptr b] wr fun e w' => e = .returned (.tuple #[]) ∧ At w b F (g3 pN pS pO 28 64 f3 (lsent f at_) true) w' A3.tick.fenced := at_fence ha3 (pl3.live (by omega)) (by have := pl3.few; omega)
                  have cd3 := ha3.cell hd ndF (g3_other ndG.1 ndG.2.1 ndG.2.2)
                  have HP := hide (And.intro pl3 (And.intro hnow3 (And.intro hlasts3 hway3)))
                  have HK := hide K
                  clear ha3 pl3 hnow3 hlasts3 hway3 K cd
                  go_wp2_with fail
                  refine (unhide HK).mono ?_
                  rintro e w4 ⟨rfl, ha4⟩
                  obtain ⟨pl4, hnow4, hl4⟩ : Plain A3.tick.fenced 8 130 ∧ A3.tick.fenced.now = f3 ∧ ∀ j, j < 64 → A3.tick.fenced.lasts j = lsent f at_ j := by
                    obtain ⟨pl3, hnow3, hlasts3, hway3⟩ := unhide HP
                    exact ⟨⟨pl3.tick.fenced.n, pl3.tick.fenced.fuse, pl3.tick.fenced.dead, by have := pl3.tick.fenced.few; omega⟩, hnow3, fun j hj => lines_lasts hlasts3 hway3 j⟩
                  generalize A3.tick.fenced = A4 at ha4 pl4 hnow4 hl4
                  have H4 := hide (And.intro ha4 (And.intro pl4 (And.intro hnow4 hl4)))
                  clear ha4 pl4 hnow4 hl4 HK HP cd3
                  go_wp2
                  go_loopw [10] (fun i wx => ∃ r : Nat, r ≤ 64 ∧ i = .int .i64 r ∧ At w b F (g3 pN pS pO 28 64 f3 (lsent f at_) true) wx A4) (fun i wx => 64 - (intOf i).toNat)
                  case atStart => exact ⟨0, by omega, rfl, (unhide H4).1⟩
                  case round =>
                    obtain ⟨r, hr, rfl, hx⟩ := hrel
                    by_cases hr64 : r < 64
                    · obtain ⟨_, pl4, hnow4, _⟩ := unhide H4
                      have x1 := hx.cell hd ndF (g3_other ndG.1 ndG.2.1 ndG.2.2)
                      have x2 : wr.cell? ⟨pO, 0, none⟩ = some (.bool true) := hx.gcell g3_O 0
                      have x3 : wr.cell? ⟨pN, r, none⟩ = some (.int .u64 (f3 r)) := (hx.gcell (g3_N d1 d2) r).trans (arr_get 64 f3 r hr64)
                      have z2 := hx.gfrozen g3_O 0
                      have hs := hx.setO true
                      have y1 := hs.cell hd ndF (g3_other ndG.1 ndG.2.1 ndG.2.2)
                      have y2 : (wr.setCell ⟨pO, 0, none⟩ (.bool true)).cell? ⟨pO, 0, none⟩ = some (.bool true) := hs.gcell g3_O 0
                      have y3 : (wr.setCell ⟨pO, 0, none⟩ (.bool true)).cell? ⟨pN, r, none⟩ = some (.int .u64 (f3 r)) := (hs.gcell (g3_N d1 d2) r).trans (arr_get 64 f3 r hr64)
                      clear hs
                      have K : Calls Try.prog 15 #[ptr b, .int .i64 (r : Nat)] wr.drew fun e w' => e = .returned (.int .u64 (f3 r)) ∧ wr.drew = w' := (at_load hx.drew pl4.dead r (by rw [pl4.n]; exact hr64)).mono (by rintro e w' ⟨rfl, rfl⟩; rw [hnow4]; exact ⟨rfl, rfl⟩)
                      have HX := hide hx; have HK := hide K
                      clear hx K pl4 hnow4
                      go_wp2
                      go_region_held3 (fun w' => w'.cell? ⟨pd, 0, none⟩ = some (ptr b) ∧ w'.cell? ⟨pO, 0, none⟩ = some (.bool true) ∧ w'.cell? ⟨pN, r, none⟩ = some (.int .u64 (f3 r))) (go_keep)
                        (first | (go_at_call 15; refine (unhide HK).mono ?_; rintro e w5 ⟨rfl, rfl⟩))
                      all_goals
                        go_wp2
                        go_roundw
                        case rel => exact ⟨r + 1, by omega, by go_num, by have := ((unhide HX).drew).setO true; exact this⟩
                        case measure => simp [intOf]; omega
                    · have K : Calls Try.prog 16 #[ptr b, .bool false, .slice none 0 0] wr fun e w' => e = .returned (.tuple #[]) ∧ At w b F (g3 pN pS pO 28 64 f3 (lsent f at_) true) w' (A4.powered false (fun _ => false)) := at_power_nil hx (by have := (unhide H4).2.1.few; omega) false
                      have cd4 := hx.cell hd ndF (g3_other ndG.1 ndG.2.1 ndG.2.2)
                      have HK := hide K
                      clear hx K
                      go_wp2_with fail
                      refine (unhide HK).mono ?_
                      rintro e w6 ⟨rfl, ha6⟩
                      obtain ⟨pl6, hnow6⟩ : Plain (A4.powered false (fun _ => false)) 8 130 ∧ ∀ j, j < 64 → (A4.powered false (fun _ => false)).now j = lsent f at_ j := by
                        obtain ⟨_, pl4, hnow4, hl4⟩ := unhide H4
                        exact ⟨pl4.powered _ _, fun j hj => by simp only [Ab.powered, if_true]; exact hl4 j hj⟩
                      generalize A4.powered false (fun _ => false) = A6 at ha6 pl6 hnow6
                      have H6 := hide (And.intro ha6 (And.intro pl6 hnow6))
                      clear ha6 pl6 hnow6 HK cd4 H4
                      go_wp2
                      go_loopw [11] (fun i wy => ∃ r : Nat, r ≤ 64 ∧ i = .int .i64 r ∧ At w b F (g3 pN pS pO 28 64 f3 (lsent f at_) true) wy A6) (fun i wy => 64 - (intOf i).toNat)
                      case atStart => exact ⟨0, by omega, rfl, (unhide H6).1⟩
                      case round =>
                        obtain ⟨t, ht, rfl, hy⟩ := hrel
                        by_cases ht64 : t < 64
                        · obtain ⟨_, pl6, hnow6⟩ := unhide H6
                          have x1 := hy.cell hd ndF (g3_other ndG.1 ndG.2.1 ndG.2.2)
                          have x2 : wr.cell? ⟨pO, 0, none⟩ = some (.bool true) := hy.gcell g3_O 0
                          have x3 : wr.cell? ⟨pS, t, none⟩ = some (.int .u64 (lsent f at_ t)) := (hy.gcell (g3_S d3) t).trans (arr_get 64 _ t ht64)
                          have z2 := hy.gfrozen g3_O 0
                          have hs := hy.setO true
                          have y1 := hs.cell hd ndF (g3_other ndG.1 ndG.2.1 ndG.2.2)
                          have y2 : (wr.setCell ⟨pO, 0, none⟩ (.bool true)).cell? ⟨pO, 0, none⟩ = some (.bool true) := hs.gcell g3_O 0
                          have y3 : (wr.setCell ⟨pO, 0, none⟩ (.bool true)).cell? ⟨pS, t, none⟩ = some (.int .u64 (lsent f at_ t)) := (hs.gcell (g3_S d3) t).trans (arr_get 64 _ t ht64)
                          clear hs
                          have K : Calls Try.prog 15 #[ptr b, .int .i64 (t : Nat)] wr.drew fun e w' => e = .returned (.int .u64 (lsent f at_ t)) ∧ wr.drew = w' := (at_load hy.drew pl6.dead t (by rw [pl6.n]; exact ht64)).mono (by rintro e w' ⟨rfl, rfl⟩; rw [hnow6 t ht64]; exact ⟨rfl, rfl⟩)
                          have HX := hide hy; have HK := hide K
                          clear hy K pl6 hnow6
                          generalize lsent f at_ t = sv at x3 y3 HK
                          go_wp2
                          go_region_held3 (fun w' => w'.cell? ⟨pd, 0, none⟩ = some (ptr b) ∧ w'.cell? ⟨pO, 0, none⟩ = some (.bool true) ∧ w'.cell? ⟨pS, t, none⟩ = some (.int .u64 sv)) (go_keep)
                            (first | (go_at_call 15; refine (unhide HK).mono ?_; rintro e w5 ⟨rfl, rfl⟩))
                          all_goals
                            go_wp2
                            go_roundw
                            case rel => exact ⟨t + 1, by omega, by go_num, by have := ((unhide HX).drew).setO true; exact this⟩
                            case measure => simp [intOf]; omega
                        · have HX := hide hy
                          clear hy
                          go_wp2
                          go_end0
                          exact ⟨rfl, _, _, _, unhide HX⟩
end Go.Proofs.Ytmhlbhbakfcdeaa
