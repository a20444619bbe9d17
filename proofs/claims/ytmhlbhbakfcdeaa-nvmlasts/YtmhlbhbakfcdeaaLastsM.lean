/- NvmLasts' closure: its walk. -/
import Derived.Test.YtmhlbhbakfcdeaaLinesC
import Derived.Deep.RegionHeld3
namespace Go.Proofs.Ytmhlbhbakfcdeaa
open Go.RowKit

/-- A whole block of another's is stored. -/
theorem At.setRow {w0 w : World} {b : Nat} {F : Nat → Prop} {G : Nat → Option Obj} {A : Ab} (h : At w0 b F G w A) {k : Nat} {cs : Array Value} {t : TypeId} (hk : G k = some (.cells cs t (0, 0))) (cs' : Array Value) :
    At w0 b F (upd G k (some (.cells cs' t (0, 0)))) (w.setRow k cs') A := by
  obtain ⟨L, d, hL⟩ := h.ex
  have hf : Fr (fun j => j = k) w (w.setRow k cs') := ⟨rfl, rfl, rfl, by simp, fun j _ hj => setRow_other w k j cs' hj⟩
  obtain ⟨g1, g2, g3⟩ := h.gs k _ hk
  refine ⟨⟨L, d.kept hf (fun j hj e => h.hf hL hk (by rw [← e]; exact hj)), hL⟩, ?_, fun j o e => ?_⟩
  · refine (h.fr.mono (G := fun j => F j ∨ (upd G k (some (Obj.cells cs' t (0, 0))) j).isSome = true) (fun j hj => .inl ?_)).trans' hf (fun j hj => .inl (.inr (by subst hj; rw [upd_same]; rfl)))
    rcases hj with e | e
    · exact .inl e
    · refine .inr ?_
      by_cases ej : j = k
      · subst ej; rw [upd_same]; rfl
      · rw [upd_other _ _ ej]; exact e
  · by_cases ej : j = k
    · subst ej
      rw [upd_same] at e
      cases e
      exact ⟨setRow_heap w j cs cs' t (0, 0) g1, g2, g3⟩
    · rw [upd_other _ _ ej] at e
      obtain ⟨q1, q2, q3⟩ := h.gs j o e
      exact ⟨(setRow_other w k j cs' ej).trans q1, q2, q3⟩

theorem At.rowS {pN pS pO : Nat} {t : TypeId} {n : Nat} {f s : Nat → Int} {x : Bool} {w0 w : World} {b : Nat} {F : Nat → Prop} {A : Ab} (h : At w0 b F (g3 pN pS pO t n f s x) w A) (h1 : pS ≠ pO) (s' : Nat → Int) : At w0 b F (g3 pN pS pO t n f s' x) (w.setRow pS (arr n s')) A := by
  have := h.setRow (g3_S h1) (arr n s')
  rwa [g3_ext (G := upd _ pS _) (f' := f) (s' := s') (x' := x) (by rw [upd_other _ _ (Ne.symm h1)]; exact g3_O) (fun _ => upd_same _ _ _) (fun a c => by rw [upd_other _ _ c]; exact g3_N a c) (fun k a b c => by rw [upd_other _ _ b]; exact g3_other a b c)] at this

/-- The first r lines on their way. -/
def lw (f : Nat → Int) (r : Nat) : Nat → Option (Nat → Int) := fun a => if a < r then some (fun k => f (a * 8 + k)) else none
theorem lw_succ (f : Nat → Int) (r : Nat) : upd (lw f r) r (some fun k => f (r * 8 + k)) = lw f (r + 1) := by
  funext a
  simp only [upd, lw]
  by_cases e : a = r
  · subst e; rw [if_pos rfl, if_pos (by omega)]
  · rw [if_neg e]
    by_cases h : a < r
    · rw [if_pos h, if_pos (by omega)]
    · rw [if_neg h, if_neg (by omega)]

theorem lasts_lasts {A : Ab} {f : Nat → Int} (hw : A.way = lw f 4) (j : Nat) (hj : j < 32) : A.tick.fenced.lasts j = f j := by
  simp only [Ab.fenced, Ab.tick, hw, lw]
  rw [if_pos (by omega)]
  show f (j / 8 * 8 + j % 8) = f j
  rw [show j / 8 * 8 + j % 8 = j from by omega]

theorem arr_size (n : Nat) (f : Nat → Int) : (arr n f).size = n := by simp [arr]
theorem arr_one (n : Nat) (f : Nat → Int) : (arr n f).all (·.oneCell') = true := by
  rw [Array.all_eq_true_iff_forall_mem]
  intro v hv
  simp [arr] at hv
  obtain ⟨a, _, rfl⟩ := hv
  rfl
theorem info45 (f : Nat → Int) : (Try.prog.info? 45).map (·.size) = some (arr 32 f).size := by
  rw [arr_size]; kernel_rfl

set_option maxHeartbeats 8000000 in
theorem lasts1 {w : World} {b pB pd pN pS pH pF pL pO : Nat} {F : Nat → Prop} {a1 a2 a3 : Option Addr} {len1 cap1 len2 cap2 len3 cap3 : Nat} {z1 z2 z3 : Nat → Int} {flip : Bool}
    (h : At w b F (g3 pN pS pO 45 32 (fun _ => 0) (fun _ => 0) true) w (Ab.fresh 4)) (d1 : pN ≠ pO) (d2 : pN ≠ pS) (d3 : pS ≠ pO)
    (hd : w.cell? ⟨pd, 0, none⟩ = some (ptr b)) (ndF : ¬ F pd) (ndG : pd ≠ pN ∧ pd ≠ pS ∧ pd ≠ pO)
    (hA : w.cell? ⟨pF, 0, none⟩ = some (.bool flip)) (naF : ¬ F pF) (naG : pF ≠ pN ∧ pF ≠ pS ∧ pF ≠ pO)
    (sB : Sees w F (g3 pN pS pO 45 32 (fun _ => 0) (fun _ => 0) true) pB a1 len1 cap1 z1) (sH : Sees w F (g3 pN pS pO 45 32 (fun _ => 0) (fun _ => 0) true) pH a2 len2 cap2 z2) (sL : Sees w F (g3 pN pS pO 45 32 (fun _ => 0) (fun _ => 0) true) pL a3 len3 cap3 z3) :
    Calls Try.prog 26 #[ptr pB, ptr pd, ptr pN, ptr pS, ptr pH, ptr pF, ptr pL, ptr pO] w fun e w' => e = .returned (.tuple #[]) ∧ ∃ f s A, At w b F (g3 pN pS pO 45 32 f s true) w' A ∧ ∀ j, A.now j = A.lasts j := by
  have hG : ∀ f s x k, (g3 pN pS pO 45 32 (fun _ => 0) (fun _ => 0) true) k = none → g3 pN pS pO 45 32 f s x k = none := fun f s x k hk => by
    have := g3_dom (pN := pN) (pS := pS) (pO := pO) (t := 45) (n := 32) (f := fun _ => 0) (s := fun _ => 0) (x := true) f s x k
    rw [hk] at this
    cases hq : g3 pN pS pO 45 32 f s x k with
    | none => rfl
    | some o => rw [hq] at this; cases this
  have HG := hide hG; clear hG
  have HB := hide sB; have HHs := hide sH; have HLs := hide sL
  have hlen1 := sB.len; have hlen2 := sH.len; have hlen3 := sL.len
  unfold maxLen at hlen1 hlen2 hlen3
  have HAt := hide h
  clear sB sH sL h
  go_enter Try.func26, Try.ntmps26
  go_wp2
  go_loopw [8] (fun i wr => ∃ (q : Nat) (f : Nat → Int) (A : Ab), q ≤ 40 ∧ i = .int .i64 q ∧ At w b F (g3 pN pS pO 45 32 f (fun _ => 0) true) wr A ∧ Plain A 4 q ∧ A.now = f ∧ A.lasts = (fun _ => 0) ∧ A.way = fun _ => none) (fun i wr => 40 - (intOf i).toNat)
  case atStart => exact ⟨0, fun _ => 0, Ab.fresh 4, by omega, rfl, unhide HAt, ⟨rfl, rfl, rfl, by simp [Ab.fresh]⟩, rfl, rfl, rfl⟩
  case round =>
    obtain ⟨q, f, A, hq, rfl, ha, pl, hnow, hlasts, hway⟩ := hrel
    have cB := ((unhide HB).at ha (unhide HG _ _ _)).1
    have cd := ha.cell hd ndF (g3_other ndG.1 ndG.2.1 ndG.2.2)
    by_cases hlt : q < len1 ∧ q < 40
    · obtain ⟨hq1, hq2⟩ := hlt
      obtain ⟨xb, xo, rfl, hxw⟩ := (unhide HB).nums q hq1
      obtain ⟨hxF, hxG0⟩ := (unhide HB).aF (by omega) xb xo rfl
      have hxG : ∀ f s x, g3 pN pS pO 45 32 f s x xb = none := fun f s x => unhide HG f s x xb hxG0
      have hx := ha.cell hxw hxF (hxG _ _ _)
      have hm := mask31 (z1 q)
      have hml := msk_le (z1 q) 31
      obtain ⟨hw1, hw2⟩ := wrap_small ((q : Int) + 1) (by omega) (by omega)
      have K : Calls Try.prog 12 #[ptr b, .int .i64 (msk (z1 q) 31 : Nat), .int .u64 ((q : Int) + 1)] wr.drew fun e w' => e = .returned (.tuple #[]) ∧ At w b F (g3 pN pS pO 45 32 f (fun _ => 0) true) w' (A.tick.store (msk (z1 q) 31) ((q : Int) + 1)) :=
        at_store ha.drew (pl.live (by omega)) (msk (z1 q) 31) (by rw [pl.n]; omega) ((q : Int) + 1)
      generalize msk (z1 q) 31 = j at hm hml K
      have HP := hide (And.intro pl (And.intro hnow (And.intro hlasts hway)))
      have HK := hide K
      have HXG := hide hxG
      clear ha pl hnow hlasts hway hxG0 K hxG
      go_wp2
      go_region_held3 (fun w' => w'.cell? ⟨pd, 0, none⟩ = some (ptr b) ∧ w'.cell? ⟨pB, 0, none⟩ = some (.slice (some ⟨xb, xo, none⟩) len1 cap1) ∧ w'.cell? ⟨xb, xo + q, none⟩ = some (.int .i64 (z1 q))) (go_keep)
        (first | (go_at_call 12; refine (unhide HK).mono ?_; rintro e w2 ⟨rfl, ha2⟩; have cd2 := ha2.cell hd ndF (g3_other ndG.1 ndG.2.1 ndG.2.2); have cB2 := ((unhide HB).at ha2 (unhide HG _ _ _)).1; have hx2 := ha2.cell hxw hxF (unhide HXG _ _ _); have cN2 : w2.cell? ⟨pN, j, none⟩ = some (.int .u64 (f j)) := (ha2.gcell (g3_N d1 d2) j).trans (arr_get 32 f j (by omega)); have zN2 := ha2.gfrozen (g3_N d1 d2) j; have HA2 := hide ha2; clear ha2))
      go_wp2
      go_roundw
      case rel =>
        obtain ⟨pl, hnow, hlasts, hway⟩ := unhide HP
        exact ⟨q + 1, upd f j ((q : Int) + 1), _, by omega, by go_num, (unhide HA2).setN d1 d2 j ((q : Int) + 1), by have := pl.tick.store j ((q : Int) + 1); simpa using this, by rw [← hnow]; rfl, hlasts, hway⟩
      case measure => simp [intOf]; omega
    · by_cases hq1 : q < len1
      · have hq2 : ¬ q < 40 := by omega
        clear hlt
        have H1 := hide (And.intro ha (And.intro pl (And.intro hnow (And.intro hlasts hway))))
        clear ha pl hnow hlasts hway cd
        go_wp2
        go_loopw [9] (fun i wx => ∃ (r : Nat) (A2 : Ab), r ≤ 4 ∧ i = .int .i64 ((8 * r : Nat) : Int) ∧ At w b F (g3 pN pS pO 45 32 f (fun _ => 0) true) wx A2 ∧ Plain A2 4 (40 + r) ∧ A2.now = f ∧ A2.way = lw f r) (fun i wx => 40 - (intOf i).toNat)
        case atStart =>
          obtain ⟨ha, pl, hnow, hlasts, hway⟩ := unhide H1
          exact ⟨0, A, by omega, rfl, ha, ⟨pl.n, pl.fuse, pl.dead, by have := pl.few; omega⟩, hnow, by rw [hway]; funext a; simp [lw]⟩
        case round =>
          obtain ⟨r, A2, hr, rfl, ha2, pl2, hnow2, hway2⟩ := hrel
          have cd := ha2.cell hd ndF (g3_other ndG.1 ndG.2.1 ndG.2.2)
          by_cases hr4 : r < 4
          · have K : Calls Try.prog 13 #[ptr b, .int .i64 ((8 * r : Nat) : Int)] wr fun e w' => e = .returned (.tuple #[]) ∧ At w b F (g3 pN pS pO 45 32 f (fun _ => 0) true) w' (A2.tick.sendLine (8 * r / 8)) := at_flush ha2 (pl2.live (by omega)) (by have := pl2.few; omega) (8 * r) (by rw [pl2.n]; omega)
            have HP := hide (And.intro pl2 (And.intro hnow2 hway2))
            have HK := hide K
            clear ha2 pl2 hnow2 hway2 K H1
            generalize h8 : 8 * r = k at HK
            have H8 := hide h8
            have hk : k < 32 := by omega
            clear h8
            go_wp2_with fail
            refine (unhide HK).mono ?_
            rintro e w2 ⟨rfl, ha3⟩
            have HA3 := hide ha3
            clear ha3 HK
            go_wp2
            go_roundw
            case rel =>
              obtain ⟨pl2, hnow2, hway2⟩ := unhide HP
              have h8 := unhide H8
              refine ⟨r + 1, _, by omega, by rw [← h8]; go_num, unhide HA3, ⟨pl2.n, (pl2.tick.send _).fuse, pl2.dead, by have := (pl2.tick.send (k / 8)).few; omega⟩, hnow2, ?_⟩
              have e : k / 8 = r := by omega
              simp only [Ab.sendLine, Ab.tick, hnow2, hway2, e]
              exact lw_succ f r
            case measure => have h8 := unhide H8; simp [intOf]; omega
          · have hr5 : r = 4 := by omega
            subst hr5
            have K : Calls Try.prog 14 #[ptr b] wr fun e w' => e = .returned (.tuple #[]) ∧ At w b F (g3 pN pS pO 45 32 f (fun _ => 0) true) w' A2.tick.fenced := at_fence ha2 (pl2.live (by omega)) (by have := pl2.few; omega)
            have HP := hide (And.intro pl2 (And.intro hnow2 hway2))
            have HK := hide K
            clear ha2 pl2 hnow2 hway2 K H1
            go_wp2_with fail
            refine (unhide HK).mono ?_
            rintro e w3 ⟨rfl, ha3⟩
            obtain ⟨pl3, hnow3, hl3⟩ : Plain A2.tick.fenced 4 45 ∧ A2.tick.fenced.now = f ∧ ∀ j, j < 32 → A2.tick.fenced.lasts j = f j := by
              obtain ⟨pl2, hnow2, hway2⟩ := unhide HP
              exact ⟨⟨pl2.n, pl2.tick.fenced.fuse, pl2.dead, by have := pl2.tick.fenced.few; omega⟩, hnow2, fun j hj => lasts_lasts hway2 j hj⟩
            generalize A2.tick.fenced = A3 at ha3 pl3 hnow3 hl3
            have rN := (ha3.gs _ _ (g3_N d1 d2)).1
            have rS := (ha3.gs _ _ (g3_S d3)).1
            have haR := ha3.rowS d3 f
            have H3 := hide (And.intro haR (And.intro pl3 (And.intro hnow3 hl3)))
            clear ha3 pl3 hnow3 hl3 HK HP haR cd
            go_wp2_with (first | (refine wpList_load_row rfl 45 _ rfl pN rfl 45 (arr 32 f) (0, 0) _ rN Try.underlying45 rfl (info45 f) ?_) | (refine wpList_store_row rfl 45 _ _ rfl pS (arr 32 f) rfl rfl 45 (arr 32 fun _ => 0) rS (info45 f) (by rw [arr_size, arr_size]) (arr_one 32 f) ?_))
            generalize wSR : w3.setRow pS (arr 32 f) = wR at H3
            clear rN rS wSR
            go_loopw [10] (fun i wx => ∃ (q3 : Nat) (s : Nat → Int) (A4 : Ab), q3 ≤ 40 ∧ i = .int .i64 q3 ∧ At w b F (g3 pN pS pO 45 32 f s true) wx A4 ∧ Plain A4 4 (45 + q3) ∧ A4.now = s ∧ ∀ j, j < 32 → A4.lasts j = f j) (fun i wx => 40 - (intOf i).toNat)
            case atStart =>
              obtain ⟨hx, pl3, hnow3, hl3⟩ := unhide H3
              exact ⟨0, f, A3, by omega, rfl, hx, ⟨pl3.n, pl3.fuse, pl3.dead, by have := pl3.few; omega⟩, hnow3, hl3⟩
            case round =>
              obtain ⟨q3, s, A4, hq3, rfl, ha4, pl4, hnow4, hl4⟩ := hrel
              have cd := ha4.cell hd ndF (g3_other ndG.1 ndG.2.1 ndG.2.2)
              have cH := ((unhide HHs).at ha4 (unhide HG _ _ _)).1
              by_cases hlt3 : q3 < len2 ∧ q3 < 40
              · obtain ⟨hq1, hq2⟩ := hlt3
                obtain ⟨xb, xo, rfl, hxw⟩ := (unhide HHs).nums q3 hq1
                obtain ⟨hxF, hxG0⟩ := (unhide HHs).aF (by omega) xb xo rfl
                have hxG : ∀ f s x, g3 pN pS pO 45 32 f s x xb = none := fun f s x => unhide HG f s x xb hxG0
                have hx := ha4.cell hxw hxF (hxG _ _ _)
                have hm := mask31 (z2 q3)
                have hml := msk_le (z2 q3) 31
                obtain ⟨hw1, hw2⟩ := wrap_small (100 + (q3 : Int)) (by omega) (by omega)
                have K : Calls Try.prog 12 #[ptr b, .int .i64 (msk (z2 q3) 31 : Nat), .int .u64 (100 + (q3 : Int))] wr.drew fun e w' => e = .returned (.tuple #[]) ∧ At w b F (g3 pN pS pO 45 32 f s true) w' (A4.tick.store (msk (z2 q3) 31) (100 + (q3 : Int))) :=
                  at_store ha4.drew (pl4.live (by omega)) (msk (z2 q3) 31) (by rw [pl4.n]; omega) (100 + (q3 : Int))
                generalize msk (z2 q3) 31 = j at hm hml K
                have HP := hide (And.intro pl4 (And.intro hnow4 hl4))
                have HK := hide K
                have HXG := hide hxG
                clear ha4 pl4 hnow4 hl4 hxG0 K hxG
                go_wp2
                go_region_held3 (fun w' => w'.cell? ⟨pd, 0, none⟩ = some (ptr b) ∧ w'.cell? ⟨pH, 0, none⟩ = some (.slice (some ⟨xb, xo, none⟩) len2 cap2) ∧ w'.cell? ⟨xb, xo + q3, none⟩ = some (.int .i64 (z2 q3))) (go_keep)
                  (first | (go_at_call 12; refine (unhide HK).mono ?_; rintro e w2 ⟨rfl, ha2⟩; have cd2 := ha2.cell hd ndF (g3_other ndG.1 ndG.2.1 ndG.2.2); have cB2 := ((unhide HHs).at ha2 (unhide HG _ _ _)).1; have hx2 := ha2.cell hxw hxF (unhide HXG _ _ _); have cN2 : w2.cell? ⟨pS, j, none⟩ = some (.int .u64 (s j)) := (ha2.gcell (g3_S d3) j).trans (arr_get 32 s j (by omega)); have zN2 := ha2.gfrozen (g3_S d3) j; have HA2 := hide ha2; clear ha2))
                go_wp2
                go_roundw
                case rel =>
                  obtain ⟨pl4, hnow4, hl4⟩ := unhide HP
                  exact ⟨q3 + 1, upd s j (100 + (q3 : Int)), _, by omega, by go_num, (unhide HA2).setS d3 d2 j (100 + (q3 : Int)), ⟨pl4.n, (pl4.tick.store j (100 + (q3 : Int))).fuse, pl4.dead, by have := (pl4.tick.store j (100 + (q3 : Int))).few; omega⟩, by rw [← hnow4]; rfl, hl4⟩
                case measure => simp [intOf]; omega
              · by_cases hq1 : q3 < len2
                · have hq2 : ¬ q3 < 40 := by omega
                  have cF := ha4.cell hA naF (g3_other naG.1 naG.2.1 naG.2.2)
                  obtain ⟨cL, nL⟩ := (unhide HLs).at ha4 (unhide HG _ _ _)
                  have K : Calls Try.prog 16 #[ptr b, .bool flip, .slice a3 len3 cap3] wr fun e w' => e = .returned (.tuple #[]) ∧ At w b F (g3 pN pS pO 45 32 f s true) w' (A4.powered flip (nm z3 len3)) := at_power ha4 (by have := pl4.few; omega) flip a3 len3 cap3 z3 (unhide HLs).len nL
                  have HP := hide (And.intro pl4 (And.intro hnow4 hl4))
                  have HK := hide K
                  clear ha4 pl4 hnow4 hl4 nL K
                  go_wp2_with fail
                  refine (unhide HK).mono ?_
                  rintro e w5 ⟨rfl, ha5⟩
                  obtain ⟨pl5, hnow5, heq5⟩ : Plain (A4.powered flip (nm z3 len3)) 4 100 ∧ (∀ j, j < 32 → (A4.powered flip (nm z3 len3)).now j = if nm z3 len3 j = flip then f j else s j) ∧ ∀ j, (A4.powered flip (nm z3 len3)).now j = (A4.powered flip (nm z3 len3)).lasts j := by
                    obtain ⟨pl4, hnow4, hl4⟩ := unhide HP
                    refine ⟨⟨pl4.n, rfl, rfl, by have := (pl4.powered flip (nm z3 len3)).few; omega⟩, fun j hj => ?_, fun j => rfl⟩
                    simp only [Ab.powered, hnow4, hl4 j hj]
                  generalize A4.powered flip (nm z3 len3) = A5 at ha5 pl5 hnow5 heq5
                  have H5 := hide (And.intro ha5 (And.intro pl5 (And.intro hnow5 heq5)))
                  clear ha5 pl5 hnow5 heq5 HK HP cd cH cF cL
                  go_wp2
                  go_loopw [11] (fun i wx => ∃ r : Nat, r ≤ 32 ∧ i = .int .i64 r ∧ At w b F (g3 pN pS pO 45 32 f s true) wx A5) (fun i wx => 32 - (intOf i).toNat)
                  case atStart => exact ⟨0, by omega, rfl, (unhide H5).1⟩
                  case round =>
                    obtain ⟨r, hr, rfl, hx⟩ := hrel
                    by_cases hr32 : r < 32
                    · obtain ⟨_, pl5, hnow5, _⟩ := unhide H5
                      have x1 := hx.cell hd ndF (g3_other ndG.1 ndG.2.1 ndG.2.2)
                      have x2 : wr.cell? ⟨pO, 0, none⟩ = some (.bool true) := hx.gcell g3_O 0
                      have x3 : wr.cell? ⟨pN, r, none⟩ = some (.int .u64 (f r)) := (hx.gcell (g3_N d1 d2) r).trans (arr_get 32 f r hr32)
                      have x4 : wr.cell? ⟨pS, r, none⟩ = some (.int .u64 (s r)) := (hx.gcell (g3_S d3) r).trans (arr_get 32 s r hr32)
                      have x5 := hx.cell hA naF (g3_other naG.1 naG.2.1 naG.2.2)
                      obtain ⟨x6, nL⟩ := (unhide HLs).at hx (unhide HG _ _ _)
                      have z2 := hx.gfrozen g3_O 0
                      have K : Calls Try.prog 15 #[ptr b, .int .i64 (r : Nat)] wr fun e w' => e = .returned (.int .u64 (if nm z3 len3 r = flip then f r else s r)) ∧ w' = wr := (at_load hx pl5.dead r (by rw [pl5.n]; exact hr32)).mono (by rintro e w' ⟨rfl, rfl⟩; rw [hnow5 r hr32]; exact ⟨rfl, rfl⟩)
                      have HX := hide hx; have HK := hide K; have HNL := hide nL
                      clear hx K pl5 hnow5 nL
                      go_wp2
                      go_loop [12, 13] (fun v i => ∃ q5 : Nat, q5 ≤ len3 ∧ v = .bool (nm z3 q5 r) ∧ i = .int .i64 q5) (fun v i => len3 - (intOf i).toNat)
                      case atStart => exact ⟨0, by omega, rfl, rfl⟩
                      case round =>
                        obtain ⟨q5, hq5, rfl, rfl⟩ := hrel
                        by_cases h5 : q5 < len3
                        · obtain ⟨xb, xo, rfl, hxc⟩ := unhide HNL q5 h5
                          cases hv : nm z3 q5 r
                          · by_cases he : z3 q5 = r
                            · have hbe : (z3 q5 == (r : Int)) = true := by simp [he]
                              have HV := hide hv; have HE := hide he
                              clear hv he
                              go_wp2
                              go_round
                              case rel => exact ⟨q5 + 1, by omega, by simp only [nm, if_pos (unhide HE)], by go_num⟩
                              case measure => simp [intOf]; omega
                            · have hbe : (z3 q5 == (r : Int)) = false := by simp [he]
                              have HV := hide hv; have HE := hide he
                              clear hv he
                              go_wp2
                              go_round
                              case rel => exact ⟨q5 + 1, by omega, by simp only [nm, if_neg (unhide HE)]; rw [unhide HV], by go_num⟩
                              case measure => simp [intOf]; omega
                          · have HV := hide hv
                            clear hv
                            go_wp2
                            go_round
                            case rel => exact ⟨q5 + 1, by omega, by simp only [nm]; rw [unhide HV]; split <;> rfl, by go_num⟩
                            case measure => simp [intOf]; omega
                        · have h5e : q5 = len3 := by omega
                          subst h5e
                          by_cases hf : nm z3 q5 r = flip
                          · have HK2 : Hid (Calls Try.prog 15 #[ptr b, .int .i64 (r : Nat)] wr fun e w' => e = .returned (.int .u64 (f r)) ∧ w' = wr) := by
                              have := unhide HK; rw [if_pos hf] at this; exact this
                            have hbf : (nm z3 q5 r == flip) = true := by simp [hf]
                            clear HK hf
                            generalize nm z3 q5 r = bv at hbf
                            go_wp2_with fail
                            refine (unhide HK2).mono ?_
                            rintro e w6 ⟨rfl, rfl⟩
                            go_wp2
                            go_roundw
                            case rel => exact ⟨r + 1, by omega, by go_num, (unhide HX).setO true⟩
                            case measure => simp [intOf]; omega
                          · have HK2 : Hid (Calls Try.prog 15 #[ptr b, .int .i64 (r : Nat)] wr fun e w' => e = .returned (.int .u64 (s r)) ∧ w' = wr) := by
                              have := unhide HK; rw [if_neg hf] at this; exact this
                            have hbf : (nm z3 q5 r == flip) = false := by simp [hf]
                            clear HK hf
                            generalize nm z3 q5 r = bv at hbf
                            go_wp2_with fail
                            refine (unhide HK2).mono ?_
                            rintro e w6 ⟨rfl, rfl⟩
                            go_wp2
                            go_roundw
                            case rel => exact ⟨r + 1, by omega, by go_num, (unhide HX).setO true⟩
                            case measure => simp [intOf]; omega
                    · obtain ⟨_, pl5, hnow5, heq5⟩ := unhide H5
                      have HX := hide (And.intro hx heq5)
                      clear hx pl5 hnow5 heq5
                      go_wp2
                      go_end0
                      exact ⟨rfl, _, _, _, (unhide HX).1, (unhide HX).2⟩
                · clear hlt3
                  have cF := ha4.cell hA naF (g3_other naG.1 naG.2.1 naG.2.2)
                  obtain ⟨cL, nL⟩ := (unhide HLs).at ha4 (unhide HG _ _ _)
                  have K : Calls Try.prog 16 #[ptr b, .bool flip, .slice a3 len3 cap3] wr fun e w' => e = .returned (.tuple #[]) ∧ At w b F (g3 pN pS pO 45 32 f s true) w' (A4.powered flip (nm z3 len3)) := at_power ha4 (by have := pl4.few; omega) flip a3 len3 cap3 z3 (unhide HLs).len nL
                  have HP := hide (And.intro pl4 (And.intro hnow4 hl4))
                  have HK := hide K
                  clear ha4 pl4 hnow4 hl4 nL K
                  go_wp2_with fail
                  refine (unhide HK).mono ?_
                  rintro e w5 ⟨rfl, ha5⟩
                  obtain ⟨pl5, hnow5, heq5⟩ : Plain (A4.powered flip (nm z3 len3)) 4 100 ∧ (∀ j, j < 32 → (A4.powered flip (nm z3 len3)).now j = if nm z3 len3 j = flip then f j else s j) ∧ ∀ j, (A4.powered flip (nm z3 len3)).now j = (A4.powered flip (nm z3 len3)).lasts j := by
                    obtain ⟨pl4, hnow4, hl4⟩ := unhide HP
                    refine ⟨⟨pl4.n, rfl, rfl, by have := (pl4.powered flip (nm z3 len3)).few; omega⟩, fun j hj => ?_, fun j => rfl⟩
                    simp only [Ab.powered, hnow4, hl4 j hj]
                  generalize A4.powered flip (nm z3 len3) = A5 at ha5 pl5 hnow5 heq5
                  have H5 := hide (And.intro ha5 (And.intro pl5 (And.intro hnow5 heq5)))
                  clear ha5 pl5 hnow5 heq5 HK HP cd cH cF cL
                  go_wp2
                  go_loopw [11] (fun i wx => ∃ r : Nat, r ≤ 32 ∧ i = .int .i64 r ∧ At w b F (g3 pN pS pO 45 32 f s true) wx A5) (fun i wx => 32 - (intOf i).toNat)
                  case atStart => exact ⟨0, by omega, rfl, (unhide H5).1⟩
                  case round =>
                    obtain ⟨r, hr, rfl, hx⟩ := hrel
                    by_cases hr32 : r < 32
                    · obtain ⟨_, pl5, hnow5, _⟩ := unhide H5
                      have x1 := hx.cell hd ndF (g3_other ndG.1 ndG.2.1 ndG.2.2)
                      have x2 : wr.cell? ⟨pO, 0, none⟩ = some (.bool true) := hx.gcell g3_O 0
                      have x3 : wr.cell? ⟨pN, r, none⟩ = some (.int .u64 (f r)) := (hx.gcell (g3_N d1 d2) r).trans (arr_get 32 f r hr32)
                      have x4 : wr.cell? ⟨pS, r, none⟩ = some (.int .u64 (s r)) := (hx.gcell (g3_S d3) r).trans (arr_get 32 s r hr32)
                      have x5 := hx.cell hA naF (g3_other naG.1 naG.2.1 naG.2.2)
                      obtain ⟨x6, nL⟩ := (unhide HLs).at hx (unhide HG _ _ _)
                      have z2 := hx.gfrozen g3_O 0
                      have K : Calls Try.prog 15 #[ptr b, .int .i64 (r : Nat)] wr fun e w' => e = .returned (.int .u64 (if nm z3 len3 r = flip then f r else s r)) ∧ w' = wr := (at_load hx pl5.dead r (by rw [pl5.n]; exact hr32)).mono (by rintro e w' ⟨rfl, rfl⟩; rw [hnow5 r hr32]; exact ⟨rfl, rfl⟩)
                      have HX := hide hx; have HK := hide K; have HNL := hide nL
                      clear hx K pl5 hnow5 nL
                      go_wp2
                      go_loop [12, 13] (fun v i => ∃ q5 : Nat, q5 ≤ len3 ∧ v = .bool (nm z3 q5 r) ∧ i = .int .i64 q5) (fun v i => len3 - (intOf i).toNat)
                      case atStart => exact ⟨0, by omega, rfl, rfl⟩
                      case round =>
                        obtain ⟨q5, hq5, rfl, rfl⟩ := hrel
                        by_cases h5 : q5 < len3
                        · obtain ⟨xb, xo, rfl, hxc⟩ := unhide HNL q5 h5
                          cases hv : nm z3 q5 r
                          · by_cases he : z3 q5 = r
                            · have hbe : (z3 q5 == (r : Int)) = true := by simp [he]
                              have HV := hide hv; have HE := hide he
                              clear hv he
                              go_wp2
                              go_round
                              case rel => exact ⟨q5 + 1, by omega, by simp only [nm, if_pos (unhide HE)], by go_num⟩
                              case measure => simp [intOf]; omega
                            · have hbe : (z3 q5 == (r : Int)) = false := by simp [he]
                              have HV := hide hv; have HE := hide he
                              clear hv he
                              go_wp2
                              go_round
                              case rel => exact ⟨q5 + 1, by omega, by simp only [nm, if_neg (unhide HE)]; rw [unhide HV], by go_num⟩
                              case measure => simp [intOf]; omega
                          · have HV := hide hv
                            clear hv
                            go_wp2
                            go_round
                            case rel => exact ⟨q5 + 1, by omega, by simp only [nm]; rw [unhide HV]; split <;> rfl, by go_num⟩
                            case measure => simp [intOf]; omega
                        · have h5e : q5 = len3 := by omega
                          subst h5e
                          by_cases hf : nm z3 q5 r = flip
                          · have HK2 : Hid (Calls Try.prog 15 #[ptr b, .int .i64 (r : Nat)] wr fun e w' => e = .returned (.int .u64 (f r)) ∧ w' = wr) := by
                              have := unhide HK; rw [if_pos hf] at this; exact this
                            have hbf : (nm z3 q5 r == flip) = true := by simp [hf]
                            clear HK hf
                            generalize nm z3 q5 r = bv at hbf
                            go_wp2_with fail
                            refine (unhide HK2).mono ?_
                            rintro e w6 ⟨rfl, rfl⟩
                            go_wp2
                            go_roundw
                            case rel => exact ⟨r + 1, by omega, by go_num, (unhide HX).setO true⟩
                            case measure => simp [intOf]; omega
                          · have HK2 : Hid (Calls Try.prog 15 #[ptr b, .int .i64 (r : Nat)] wr fun e w' => e = .returned (.int .u64 (s r)) ∧ w' = wr) := by
                              have := unhide HK; rw [if_neg hf] at this; exact this
                            have hbf : (nm z3 q5 r == flip) = false := by simp [hf]
                            clear HK hf
                            generalize nm z3 q5 r = bv at hbf
                            go_wp2_with fail
                            refine (unhide HK2).mono ?_
                            rintro e w6 ⟨rfl, rfl⟩
                            go_wp2
                            go_roundw
                            case rel => exact ⟨r + 1, by omega, by go_num, (unhide HX).setO true⟩
                            case measure => simp [intOf]; omega
                    · obtain ⟨_, pl5, hnow5, heq5⟩ := unhide H5
                      have HX := hide (And.intro hx heq5)
                      clear hx pl5 hnow5 heq5
                      go_wp2
                      go_end0
                      exact ⟨rfl, _, _, _, (unhide HX).1, (unhide HX).2⟩
      · clear hlt
        have H1 := hide (And.intro ha (And.intro pl (And.intro hnow (And.intro hlasts hway))))
        clear ha pl hnow hlasts hway cd
        go_wp2
        go_loopw [9] (fun i wx => ∃ (r : Nat) (A2 : Ab), r ≤ 4 ∧ i = .int .i64 ((8 * r : Nat) : Int) ∧ At w b F (g3 pN pS pO 45 32 f (fun _ => 0) true) wx A2 ∧ Plain A2 4 (40 + r) ∧ A2.now = f ∧ A2.way = lw f r) (fun i wx => 40 - (intOf i).toNat)
        case atStart =>
          obtain ⟨ha, pl, hnow, hlasts, hway⟩ := unhide H1
          exact ⟨0, A, by omega, rfl, ha, ⟨pl.n, pl.fuse, pl.dead, by have := pl.few; omega⟩, hnow, by rw [hway]; funext a; simp [lw]⟩
        case round =>
          obtain ⟨r, A2, hr, rfl, ha2, pl2, hnow2, hway2⟩ := hrel
          have cd := ha2.cell hd ndF (g3_other ndG.1 ndG.2.1 ndG.2.2)
          by_cases hr4 : r < 4
          · have K : Calls Try.prog 13 #[ptr b, .int .i64 ((8 * r : Nat) : Int)] wr fun e w' => e = .returned (.tuple #[]) ∧ At w b F (g3 pN pS pO 45 32 f (fun _ => 0) true) w' (A2.tick.sendLine (8 * r / 8)) := at_flush ha2 (pl2.live (by omega)) (by have := pl2.few; omega) (8 * r) (by rw [pl2.n]; omega)
            have HP := hide (And.intro pl2 (And.intro hnow2 hway2))
            have HK := hide K
            clear ha2 pl2 hnow2 hway2 K H1
            generalize h8 : 8 * r = k at HK
            have H8 := hide h8
            have hk : k < 32 := by omega
            clear h8
            go_wp2_with fail
            refine (unhide HK).mono ?_
            rintro e w2 ⟨rfl, ha3⟩
            have HA3 := hide ha3
            clear ha3 HK
            go_wp2
            go_roundw
            case rel =>
              obtain ⟨pl2, hnow2, hway2⟩ := unhide HP
              have h8 := unhide H8
              refine ⟨r + 1, _, by omega, by rw [← h8]; go_num, unhide HA3, ⟨pl2.n, (pl2.tick.send _).fuse, pl2.dead, by have := (pl2.tick.send (k / 8)).few; omega⟩, hnow2, ?_⟩
              have e : k / 8 = r := by omega
              simp only [Ab.sendLine, Ab.tick, hnow2, hway2, e]
              exact lw_succ f r
            case measure => have h8 := unhide H8; simp [intOf]; omega
          · have hr5 : r = 4 := by omega
            subst hr5
            have K : Calls Try.prog 14 #[ptr b] wr fun e w' => e = .returned (.tuple #[]) ∧ At w b F (g3 pN pS pO 45 32 f (fun _ => 0) true) w' A2.tick.fenced := at_fence ha2 (pl2.live (by omega)) (by have := pl2.few; omega)
            have HP := hide (And.intro pl2 (And.intro hnow2 hway2))
            have HK := hide K
            clear ha2 pl2 hnow2 hway2 K H1
            go_wp2_with fail
            refine (unhide HK).mono ?_
            rintro e w3 ⟨rfl, ha3⟩
            obtain ⟨pl3, hnow3, hl3⟩ : Plain A2.tick.fenced 4 45 ∧ A2.tick.fenced.now = f ∧ ∀ j, j < 32 → A2.tick.fenced.lasts j = f j := by
              obtain ⟨pl2, hnow2, hway2⟩ := unhide HP
              exact ⟨⟨pl2.n, pl2.tick.fenced.fuse, pl2.dead, by have := pl2.tick.fenced.few; omega⟩, hnow2, fun j hj => lasts_lasts hway2 j hj⟩
            generalize A2.tick.fenced = A3 at ha3 pl3 hnow3 hl3
            have rN := (ha3.gs _ _ (g3_N d1 d2)).1
            have rS := (ha3.gs _ _ (g3_S d3)).1
            have haR := ha3.rowS d3 f
            have H3 := hide (And.intro haR (And.intro pl3 (And.intro hnow3 hl3)))
            clear ha3 pl3 hnow3 hl3 HK HP haR cd
            go_wp2_with (first | (refine wpList_load_row rfl 45 _ rfl pN rfl 45 (arr 32 f) (0, 0) _ rN Try.underlying45 rfl (info45 f) ?_) | (refine wpList_store_row rfl 45 _ _ rfl pS (arr 32 f) rfl rfl 45 (arr 32 fun _ => 0) rS (info45 f) (by rw [arr_size, arr_size]) (arr_one 32 f) ?_))
            generalize wSR : w3.setRow pS (arr 32 f) = wR at H3
            clear rN rS wSR
            go_loopw [10] (fun i wx => ∃ (q3 : Nat) (s : Nat → Int) (A4 : Ab), q3 ≤ 40 ∧ i = .int .i64 q3 ∧ At w b F (g3 pN pS pO 45 32 f s true) wx A4 ∧ Plain A4 4 (45 + q3) ∧ A4.now = s ∧ ∀ j, j < 32 → A4.lasts j = f j) (fun i wx => 40 - (intOf i).toNat)
            case atStart =>
              obtain ⟨hx, pl3, hnow3, hl3⟩ := unhide H3
              exact ⟨0, f, A3, by omega, rfl, hx, ⟨pl3.n, pl3.fuse, pl3.dead, by have := pl3.few; omega⟩, hnow3, hl3⟩
            case round =>
              obtain ⟨q3, s, A4, hq3, rfl, ha4, pl4, hnow4, hl4⟩ := hrel
              have cd := ha4.cell hd ndF (g3_other ndG.1 ndG.2.1 ndG.2.2)
              have cH := ((unhide HHs).at ha4 (unhide HG _ _ _)).1
              by_cases hlt3 : q3 < len2 ∧ q3 < 40
              · obtain ⟨hq1, hq2⟩ := hlt3
                obtain ⟨xb, xo, rfl, hxw⟩ := (unhide HHs).nums q3 hq1
                obtain ⟨hxF, hxG0⟩ := (unhide HHs).aF (by omega) xb xo rfl
                have hxG : ∀ f s x, g3 pN pS pO 45 32 f s x xb = none := fun f s x => unhide HG f s x xb hxG0
                have hx := ha4.cell hxw hxF (hxG _ _ _)
                have hm := mask31 (z2 q3)
                have hml := msk_le (z2 q3) 31
                obtain ⟨hw1, hw2⟩ := wrap_small (100 + (q3 : Int)) (by omega) (by omega)
                have K : Calls Try.prog 12 #[ptr b, .int .i64 (msk (z2 q3) 31 : Nat), .int .u64 (100 + (q3 : Int))] wr.drew fun e w' => e = .returned (.tuple #[]) ∧ At w b F (g3 pN pS pO 45 32 f s true) w' (A4.tick.store (msk (z2 q3) 31) (100 + (q3 : Int))) :=
                  at_store ha4.drew (pl4.live (by omega)) (msk (z2 q3) 31) (by rw [pl4.n]; omega) (100 + (q3 : Int))
                generalize msk (z2 q3) 31 = j at hm hml K
                have HP := hide (And.intro pl4 (And.intro hnow4 hl4))
                have HK := hide K
                have HXG := hide hxG
                clear ha4 pl4 hnow4 hl4 hxG0 K hxG
                go_wp2
                go_region_held3 (fun w' => w'.cell? ⟨pd, 0, none⟩ = some (ptr b) ∧ w'.cell? ⟨pH, 0, none⟩ = some (.slice (some ⟨xb, xo, none⟩) len2 cap2) ∧ w'.cell? ⟨xb, xo + q3, none⟩ = some (.int .i64 (z2 q3))) (go_keep)
                  (first | (go_at_call 12; refine (unhide HK).mono ?_; rintro e w2 ⟨rfl, ha2⟩; have cd2 := ha2.cell hd ndF (g3_other ndG.1 ndG.2.1 ndG.2.2); have cB2 := ((unhide HHs).at ha2 (unhide HG _ _ _)).1; have hx2 := ha2.cell hxw hxF (unhide HXG _ _ _); have cN2 : w2.cell? ⟨pS, j, none⟩ = some (.int .u64 (s j)) := (ha2.gcell (g3_S d3) j).trans (arr_get 32 s j (by omega)); have zN2 := ha2.gfrozen (g3_S d3) j; have HA2 := hide ha2; clear ha2))
                go_wp2
                go_roundw
                case rel =>
                  obtain ⟨pl4, hnow4, hl4⟩ := unhide HP
                  exact ⟨q3 + 1, upd s j (100 + (q3 : Int)), _, by omega, by go_num, (unhide HA2).setS d3 d2 j (100 + (q3 : Int)), ⟨pl4.n, (pl4.tick.store j (100 + (q3 : Int))).fuse, pl4.dead, by have := (pl4.tick.store j (100 + (q3 : Int))).few; omega⟩, by rw [← hnow4]; rfl, hl4⟩
                case measure => simp [intOf]; omega
              · by_cases hq1 : q3 < len2
                · have hq2 : ¬ q3 < 40 := by omega
                  have cF := ha4.cell hA naF (g3_other naG.1 naG.2.1 naG.2.2)
                  obtain ⟨cL, nL⟩ := (unhide HLs).at ha4 (unhide HG _ _ _)
                  have K : Calls Try.prog 16 #[ptr b, .bool flip, .slice a3 len3 cap3] wr fun e w' => e = .returned (.tuple #[]) ∧ At w b F (g3 pN pS pO 45 32 f s true) w' (A4.powered flip (nm z3 len3)) := at_power ha4 (by have := pl4.few; omega) flip a3 len3 cap3 z3 (unhide HLs).len nL
                  have HP := hide (And.intro pl4 (And.intro hnow4 hl4))
                  have HK := hide K
                  clear ha4 pl4 hnow4 hl4 nL K
                  go_wp2_with fail
                  refine (unhide HK).mono ?_
                  rintro e w5 ⟨rfl, ha5⟩
                  obtain ⟨pl5, hnow5, heq5⟩ : Plain (A4.powered flip (nm z3 len3)) 4 100 ∧ (∀ j, j < 32 → (A4.powered flip (nm z3 len3)).now j = if nm z3 len3 j = flip then f j else s j) ∧ ∀ j, (A4.powered flip (nm z3 len3)).now j = (A4.powered flip (nm z3 len3)).lasts j := by
                    obtain ⟨pl4, hnow4, hl4⟩ := unhide HP
                    refine ⟨⟨pl4.n, rfl, rfl, by have := (pl4.powered flip (nm z3 len3)).few; omega⟩, fun j hj => ?_, fun j => rfl⟩
                    simp only [Ab.powered, hnow4, hl4 j hj]
                  generalize A4.powered flip (nm z3 len3) = A5 at ha5 pl5 hnow5 heq5
                  have H5 := hide (And.intro ha5 (And.intro pl5 (And.intro hnow5 heq5)))
                  clear ha5 pl5 hnow5 heq5 HK HP cd cH cF cL
                  go_wp2
                  go_loopw [11] (fun i wx => ∃ r : Nat, r ≤ 32 ∧ i = .int .i64 r ∧ At w b F (g3 pN pS pO 45 32 f s true) wx A5) (fun i wx => 32 - (intOf i).toNat)
                  case atStart => exact ⟨0, by omega, rfl, (unhide H5).1⟩
                  case round =>
                    obtain ⟨r, hr, rfl, hx⟩ := hrel
                    by_cases hr32 : r < 32
                    · obtain ⟨_, pl5, hnow5, _⟩ := unhide H5
                      have x1 := hx.cell hd ndF (g3_other ndG.1 ndG.2.1 ndG.2.2)
                      have x2 : wr.cell? ⟨pO, 0, none⟩ = some (.bool true) := hx.gcell g3_O 0
                      have x3 : wr.cell? ⟨pN, r, none⟩ = some (.int .u64 (f r)) := (hx.gcell (g3_N d1 d2) r).trans (arr_get 32 f r hr32)
                      have x4 : wr.cell? ⟨pS, r, none⟩ = some (.int .u64 (s r)) := (hx.gcell (g3_S d3) r).trans (arr_get 32 s r hr32)
                      have x5 := hx.cell hA naF (g3_other naG.1 naG.2.1 naG.2.2)
                      obtain ⟨x6, nL⟩ := (unhide HLs).at hx (unhide HG _ _ _)
                      have z2 := hx.gfrozen g3_O 0
                      have K : Calls Try.prog 15 #[ptr b, .int .i64 (r : Nat)] wr fun e w' => e = .returned (.int .u64 (if nm z3 len3 r = flip then f r else s r)) ∧ w' = wr := (at_load hx pl5.dead r (by rw [pl5.n]; exact hr32)).mono (by rintro e w' ⟨rfl, rfl⟩; rw [hnow5 r hr32]; exact ⟨rfl, rfl⟩)
                      have HX := hide hx; have HK := hide K; have HNL := hide nL
                      clear hx K pl5 hnow5 nL
                      go_wp2
                      go_loop [12, 13] (fun v i => ∃ q5 : Nat, q5 ≤ len3 ∧ v = .bool (nm z3 q5 r) ∧ i = .int .i64 q5) (fun v i => len3 - (intOf i).toNat)
                      case atStart => exact ⟨0, by omega, rfl, rfl⟩
                      case round =>
                        obtain ⟨q5, hq5, rfl, rfl⟩ := hrel
                        by_cases h5 : q5 < len3
                        · obtain ⟨xb, xo, rfl, hxc⟩ := unhide HNL q5 h5
                          cases hv : nm z3 q5 r
                          · by_cases he : z3 q5 = r
                            · have hbe : (z3 q5 == (r : Int)) = true := by simp [he]
                              have HV := hide hv; have HE := hide he
                              clear hv he
                              go_wp2
                              go_round
                              case rel => exact ⟨q5 + 1, by omega, by simp only [nm, if_pos (unhide HE)], by go_num⟩
                              case measure => simp [intOf]; omega
                            · have hbe : (z3 q5 == (r : Int)) = false := by simp [he]
                              have HV := hide hv; have HE := hide he
                              clear hv he
                              go_wp2
                              go_round
                              case rel => exact ⟨q5 + 1, by omega, by simp only [nm, if_neg (unhide HE)]; rw [unhide HV], by go_num⟩
                              case measure => simp [intOf]; omega
                          · have HV := hide hv
                            clear hv
                            go_wp2
                            go_round
                            case rel => exact ⟨q5 + 1, by omega, by simp only [nm]; rw [unhide HV]; split <;> rfl, by go_num⟩
                            case measure => simp [intOf]; omega
                        · have h5e : q5 = len3 := by omega
                          subst h5e
                          by_cases hf : nm z3 q5 r = flip
                          · have HK2 : Hid (Calls Try.prog 15 #[ptr b, .int .i64 (r : Nat)] wr fun e w' => e = .returned (.int .u64 (f r)) ∧ w' = wr) := by
                              have := unhide HK; rw [if_pos hf] at this; exact this
                            have hbf : (nm z3 q5 r == flip) = true := by simp [hf]
                            clear HK hf
                            generalize nm z3 q5 r = bv at hbf
                            go_wp2_with fail
                            refine (unhide HK2).mono ?_
                            rintro e w6 ⟨rfl, rfl⟩
                            go_wp2
                            go_roundw
                            case rel => exact ⟨r + 1, by omega, by go_num, (unhide HX).setO true⟩
                            case measure => simp [intOf]; omega
                          · have HK2 : Hid (Calls Try.prog 15 #[ptr b, .int .i64 (r : Nat)] wr fun e w' => e = .returned (.int .u64 (s r)) ∧ w' = wr) := by
                              have := unhide HK; rw [if_neg hf] at this; exact this
                            have hbf : (nm z3 q5 r == flip) = false := by simp [hf]
                            clear HK hf
                            generalize nm z3 q5 r = bv at hbf
                            go_wp2_with fail
                            refine (unhide HK2).mono ?_
                            rintro e w6 ⟨rfl, rfl⟩
                            go_wp2
                            go_roundw
                            case rel => exact ⟨r + 1, by omega, by go_num, (unhide HX).setO true⟩
                            case measure => simp [intOf]; omega
                    · obtain ⟨_, pl5, hnow5, heq5⟩ := unhide H5
                      have HX := hide (And.intro hx heq5)
                      clear hx pl5 hnow5 heq5
                      go_wp2
                      go_end0
                      exact ⟨rfl, _, _, _, (unhide HX).1, (unhide HX).2⟩
                · clear hlt3
                  have cF := ha4.cell hA naF (g3_other naG.1 naG.2.1 naG.2.2)
                  obtain ⟨cL, nL⟩ := (unhide HLs).at ha4 (unhide HG _ _ _)
                  have K : Calls Try.prog 16 #[ptr b, .bool flip, .slice a3 len3 cap3] wr fun e w' => e = .returned (.tuple #[]) ∧ At w b F (g3 pN pS pO 45 32 f s true) w' (A4.powered flip (nm z3 len3)) := at_power ha4 (by have := pl4.few; omega) flip a3 len3 cap3 z3 (unhide HLs).len nL
                  have HP := hide (And.intro pl4 (And.intro hnow4 hl4))
                  have HK := hide K
                  clear ha4 pl4 hnow4 hl4 nL K
                  go_wp2_with fail
                  refine (unhide HK).mono ?_
                  rintro e w5 ⟨rfl, ha5⟩
                  obtain ⟨pl5, hnow5, heq5⟩ : Plain (A4.powered flip (nm z3 len3)) 4 100 ∧ (∀ j, j < 32 → (A4.powered flip (nm z3 len3)).now j = if nm z3 len3 j = flip then f j else s j) ∧ ∀ j, (A4.powered flip (nm z3 len3)).now j = (A4.powered flip (nm z3 len3)).lasts j := by
                    obtain ⟨pl4, hnow4, hl4⟩ := unhide HP
                    refine ⟨⟨pl4.n, rfl, rfl, by have := (pl4.powered flip (nm z3 len3)).few; omega⟩, fun j hj => ?_, fun j => rfl⟩
                    simp only [Ab.powered, hnow4, hl4 j hj]
                  generalize A4.powered flip (nm z3 len3) = A5 at ha5 pl5 hnow5 heq5
                  have H5 := hide (And.intro ha5 (And.intro pl5 (And.intro hnow5 heq5)))
                  clear ha5 pl5 hnow5 heq5 HK HP cd cH cF cL
                  go_wp2
                  go_loopw [11] (fun i wx => ∃ r : Nat, r ≤ 32 ∧ i = .int .i64 r ∧ At w b F (g3 pN pS pO 45 32 f s true) wx A5) (fun i wx => 32 - (intOf i).toNat)
                  case atStart => exact ⟨0, by omega, rfl, (unhide H5).1⟩
                  case round =>
                    obtain ⟨r, hr, rfl, hx⟩ := hrel
                    by_cases hr32 : r < 32
                    · obtain ⟨_, pl5, hnow5, _⟩ := unhide H5
                      have x1 := hx.cell hd ndF (g3_other ndG.1 ndG.2.1 ndG.2.2)
                      have x2 : wr.cell? ⟨pO, 0, none⟩ = some (.bool true) := hx.gcell g3_O 0
                      have x3 : wr.cell? ⟨pN, r, none⟩ = some (.int .u64 (f r)) := (hx.gcell (g3_N d1 d2) r).trans (arr_get 32 f r hr32)
                      have x4 : wr.cell? ⟨pS, r, none⟩ = some (.int .u64 (s r)) := (hx.gcell (g3_S d3) r).trans (arr_get 32 s r hr32)
                      have x5 := hx.cell hA naF (g3_other naG.1 naG.2.1 naG.2.2)
                      obtain ⟨x6, nL⟩ := (unhide HLs).at hx (unhide HG _ _ _)
                      have z2 := hx.gfrozen g3_O 0
                      have K : Calls Try.prog 15 #[ptr b, .int .i64 (r : Nat)] wr fun e w' => e = .returned (.int .u64 (if nm z3 len3 r = flip then f r else s r)) ∧ w' = wr := (at_load hx pl5.dead r (by rw [pl5.n]; exact hr32)).mono (by rintro e w' ⟨rfl, rfl⟩; rw [hnow5 r hr32]; exact ⟨rfl, rfl⟩)
                      have HX := hide hx; have HK := hide K; have HNL := hide nL
                      clear hx K pl5 hnow5 nL
                      go_wp2
                      go_loop [12, 13] (fun v i => ∃ q5 : Nat, q5 ≤ len3 ∧ v = .bool (nm z3 q5 r) ∧ i = .int .i64 q5) (fun v i => len3 - (intOf i).toNat)
                      case atStart => exact ⟨0, by omega, rfl, rfl⟩
                      case round =>
                        obtain ⟨q5, hq5, rfl, rfl⟩ := hrel
                        by_cases h5 : q5 < len3
                        · obtain ⟨xb, xo, rfl, hxc⟩ := unhide HNL q5 h5
                          cases hv : nm z3 q5 r
                          · by_cases he : z3 q5 = r
                            · have hbe : (z3 q5 == (r : Int)) = true := by simp [he]
                              have HV := hide hv; have HE := hide he
                              clear hv he
                              go_wp2
                              go_round
                              case rel => exact ⟨q5 + 1, by omega, by simp only [nm, if_pos (unhide HE)], by go_num⟩
                              case measure => simp [intOf]; omega
                            · have hbe : (z3 q5 == (r : Int)) = false := by simp [he]
                              have HV := hide hv; have HE := hide he
                              clear hv he
                              go_wp2
                              go_round
                              case rel => exact ⟨q5 + 1, by omega, by simp only [nm, if_neg (unhide HE)]; rw [unhide HV], by go_num⟩
                              case measure => simp [intOf]; omega
                          · have HV := hide hv
                            clear hv
                            go_wp2
                            go_round
                            case rel => exact ⟨q5 + 1, by omega, by simp only [nm]; rw [unhide HV]; split <;> rfl, by go_num⟩
                            case measure => simp [intOf]; omega
                        · have h5e : q5 = len3 := by omega
                          subst h5e
                          by_cases hf : nm z3 q5 r = flip
                          · have HK2 : Hid (Calls Try.prog 15 #[ptr b, .int .i64 (r : Nat)] wr fun e w' => e = .returned (.int .u64 (f r)) ∧ w' = wr) := by
                              have := unhide HK; rw [if_pos hf] at this; exact this
                            have hbf : (nm z3 q5 r == flip) = true := by simp [hf]
                            clear HK hf
                            generalize nm z3 q5 r = bv at hbf
                            go_wp2_with fail
                            refine (unhide HK2).mono ?_
                            rintro e w6 ⟨rfl, rfl⟩
                            go_wp2
                            go_roundw
                            case rel => exact ⟨r + 1, by omega, by go_num, (unhide HX).setO true⟩
                            case measure => simp [intOf]; omega
                          · have HK2 : Hid (Calls Try.prog 15 #[ptr b, .int .i64 (r : Nat)] wr fun e w' => e = .returned (.int .u64 (s r)) ∧ w' = wr) := by
                              have := unhide HK; rw [if_neg hf] at this; exact this
                            have hbf : (nm z3 q5 r == flip) = false := by simp [hf]
                            clear HK hf
                            generalize nm z3 q5 r = bv at hbf
                            go_wp2_with fail
                            refine (unhide HK2).mono ?_
                            rintro e w6 ⟨rfl, rfl⟩
                            go_wp2
                            go_roundw
                            case rel => exact ⟨r + 1, by omega, by go_num, (unhide HX).setO true⟩
                            case measure => simp [intOf]; omega
                    · obtain ⟨_, pl5, hnow5, heq5⟩ := unhide H5
                      have HX := hide (And.intro hx heq5)
                      clear hx pl5 hnow5 heq5
                      go_wp2
                      go_end0
                      exact ⟨rfl, _, _, _, (unhide HX).1, (unhide HX).2⟩
end Go.Proofs.Ytmhlbhbakfcdeaa
