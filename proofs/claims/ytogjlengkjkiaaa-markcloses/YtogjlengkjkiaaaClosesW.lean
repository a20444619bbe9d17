/- MarkCloses. -/
import Derived.Test.YtogjlengkjkiaaaCl
import Derived.Test.YtogjlengkjkiaaaIn
namespace Go.Proofs.Ytogjlengkjkiaaa
open Go.RowKit

/-- What the closure keeps: its bound. -/
def ClJ (bM M : Nat) (_d : List Int) (S : Nat → Prop) (W : World) : Prop := S = (fun k => k = bM) ∧ W.cell? ⟨bM, 0, none⟩ = some (iv M)
def clU : List Int := List.map (fun i : Nat => (i : Int)) (List.range 257)
theorem clU_mem (x : Int) : x ∈ clU ↔ 0 ≤ x ∧ x ≤ 256 := by
  unfold clU
  rw [List.mem_map]
  constructor
  · rintro ⟨i, hi, rfl⟩
    rw [List.mem_range] at hi
    omega
  · rintro ⟨h1, h2⟩
    exact ⟨x.toNat, by rw [List.mem_range]; omega, by omega⟩
theorem cl_hangs (bM M : Nat) (hM : M ≤ 256) : Hangs (clOf M) clU 7 #[ptr bM] (ClJ bM M) where
  enter := enters_of Try.func7 (by kernel_rfl) rfl
  lt := fun d S W h k hk => by
    obtain ⟨rfl, hc⟩ := h
    obtain rfl : k = bM := hk
    exact World.block_lt_of_cell? W _ hc
  kept := fun d S W W' F h f hF => by
    obtain ⟨rfl, hc⟩ := h
    exact ⟨rfl, f.cell' hc (hF bM rfl)⟩
  call := fun d S W x h hx _ _ => by
    obtain ⟨rfl, hc⟩ := h
    obtain ⟨h1, h2⟩ := (clU_mem x).1 hx
    obtain ⟨n, rfl⟩ : ∃ n : Nat, x = n := ⟨x.toNat, by omega⟩
    refine (clc_ok M hM n (by omega) bM W hc).mono ?_
    rintro e W' ⟨v, rfl, o, f⟩
    exact ⟨v, _, rfl, ⟨rfl, f.cell' hc (fun x => x)⟩, o, f.mono (fun _ x => x.elim), fun k hk => .inl hk⟩
  inU := fun x hx y hy => by
    have h := (clU_mem x).1 hx
    have h2 := (ofl_mem M x y).1 hy
    exact (clU_mem y).2 (by omega)
  few := by simp [clU]
  short := fun x _ => by have := ofl_len M x 2; show (ofl M x 2).length ≤ 20; omega
  wf := fun x hx => by
    have h := (clU_mem x).1 hx
    simp [Lit.wf, IntKind.min, IntKind.max, IntKind.signed, IntKind.bits]
    omega

/-- What the law asks of what is told. -/
structure Clo (r M : Nat) (F : List Int) : Prop where
  lt : F.Pairwise (· < ·)
  root : (r : Int) ∈ F
  mem : ∀ x ∈ F, ∃ n t : Nat, x = n ∧ 0 < n ∧ n ≤ 256 ∧ n / 2 ^ t = r ∧ (n ≤ M ∨ n = r)
  closed : ∀ x ∈ F, ∀ y, (y = 2 * x ∨ y = 2 * x + 1) → y ≤ M → y ∈ F
theorem cl_run (r M : Nat) (h0 : 0 < r) (hr : r ≤ 127) (hM : M ≤ 256) : ∃ F d, run (clOf M) 300 300 (rise [(r : Int)]) [] = (F, d, 0) ∧ Clo r M F := by
  have e1 : rise [(r : Int)] = [(r : Int)] := rise_eq (by simp) (fun x => by simp; omega)
  rw [e1]
  obtain ⟨F, d, h1, h2, h3, h4, _, h6⟩ := run_closed (clOf M) 300 clU (fun x => ∃ n t : Nat, x = n ∧ 0 < n ∧ n ≤ 256 ∧ n / 2 ^ t = r ∧ (n ≤ M ∨ n = r)) (fun x => rfl) (cl_hangs 0 M hM).inU (by simp [clU]) (fun x hx y hy hy0 => by
      obtain ⟨n, t, rfl, h1, h2, h3, h4⟩ := hx
      have hy' := (ofl_mem M n y).1 hy
      refine ⟨y.toNat, t + 1, by omega, by omega, by omega, ?_, .inl (by omega)⟩
      rw [Nat.pow_succ, Nat.mul_comm, ← Nat.div_div_eq_div_mul, show y.toNat / 2 = n by omega]
      exact h3) 300 [(r : Int)] [] (by simp) (fun x hx => by simp at hx; exact (clU_mem x).2 (by omega)) (fun x hx => by
      simp at hx
      exact ⟨r, 0, hx, h0, by omega, by simp, .inr rfl⟩) (by simp) (fun x hx => by simp at hx) (fun x hx => by simp at hx) (fun x hx => by simp at hx; omega) (by simp [clU])
  refine ⟨F, d, h1, h2, h3 _ (by simp), h4, fun x hx y hy hyM => ?_⟩
  obtain ⟨n, t, rfl, hn, _⟩ := h4 x hx
  exact h6 _ hx y ((ofl_mem M n y).2 ⟨hy, hyM⟩) (by omega)

set_option maxRecDepth 100000 in
set_option maxHeartbeats 4000000 in
theorem closes_ok (root most : Int) (W : World) : Calls Try.prog 3 #[.int .i64 root, .int .i64 most] W fun e w' => e = .returned (.bool true) ∧ Below W.heap.size W w' := by
  obtain ⟨r, hr0⟩ : ∃ r, msk root 127 = r := ⟨_, rfl⟩
  obtain ⟨m, hm0⟩ : ∃ m, msk most 255 = m := ⟨_, rfl⟩
  have m1 : bits .and .i64 root 127 = (r : Int) := hr0 ▸ mask_i64 root 127 (by omega)
  have m2 : bits .and .i64 most 255 = (m : Int) := hm0 ▸ mask_i64 most 255 (by omega)
  have l1 : r ≤ 127 := hr0 ▸ msk_le root 127
  have l2 : m ≤ 255 := hm0 ▸ msk_le most 255
  clear hr0 hm0
  have hw : wrap64 ((m : Int) + 1) = m + 1 := by unfold wrap64; omega
  obtain ⟨M, hM⟩ : ∃ M, m + 1 = M := ⟨_, rfl⟩
  have hM' : M ≤ 256 := by omega
  have HMI := hide (show (m : Int) + 1 = (M : Int) by omega)
  have FO := fun (W1 : World) (F d : List Int) (hF : run (clOf M) 300 300 (rise [(r : Int)]) [] = (F, d, 0)) (b : Nat) (hb : b < W1.heap.size) (hc : W1.cell? ⟨W.heap.size, 0, none⟩ = some (iv M)) (hrd : Rd W1 (some ⟨b, 0, none⟩) [(r : Int)]) =>
    from_ok (cl_hangs W.heap.size M hM') W1 (fun k => k = W.heap.size) (some ⟨b, 0, none⟩) 1 1 [(r : Int)] 300 300 (F, d, 0) hF (by simp) hrd rfl (fun x hx => by simp at hx; exact (clU_mem x).2 (by omega)) (by omega) (fun b' o e => by cases e; exact hb) ⟨rfl, hc⟩
  have HFO := @hide _ FO
  clear FO
  obtain ⟨W1, hW1⟩ : ∃ W1, ((W.alloc (.cells #[iv M] 3)).alloc (.cells #[iv r] 3)).drew = W1 := ⟨_, rfl⟩
  have f0 : Still W W1 := hW1 ▸ (((Fr.refl _ W).alloc _).alloc _).drewN 1
  have cM : W1.cell? ⟨W.heap.size, 0, none⟩ = some (iv M) := by
    have h1 : (W.alloc (.cells #[iv M] 3)).cell? ⟨W.heap.size, 0, none⟩ = some (iv M) := by simp
    have f : Still (W.alloc (.cells #[iv M] 3)) W1 := hW1 ▸ ((Fr.refl _ _).alloc _).drewN 1
    exact f.cell' h1 (fun x => x)
  have rR : Rd W1 (some ⟨W.heap.size + 1, 0, none⟩) [(r : Int)] := by
    obtain ⟨a, c, e, _, h, _⟩ := (Own.one (W.alloc (.cells #[iv M] 3)) r).rd
    cases e
    have f : Still ((W.alloc (.cells #[iv M] 3)).alloc (.cells #[iv r] 3)) W1 := hW1 ▸ (Fr.refl _ _).drewN 1
    simpa using h.still f
  have hb1 : W.heap.size + 1 < W1.heap.size := by rw [← hW1]; simp [World.drew]
  have HW1 := hide hW1; have HF0 := hide f0
  clear hW1 f0
  by_cases h0 : r = 0
  · have hF : run (clOf M) 300 300 (rise [(r : Int)]) [] = ([], [], 0) := by
      rw [h0]
      have : rise [((0 : Nat) : Int)] = [] := rise_eq (by simp) (fun x => by simp)
      rw [this]
      rfl
    have FC := unhide HFO W1 [] [] hF (W.heap.size + 1) hb1 cM rR
    have hr' : ((r : Int) == 0) = true := by simp [h0]
    clear hF cM rR hb1 HFO h0
    go_enter Try.func3, Try.ntmps3
    go_wp2_with fail
    go_region
    go_wp2_with fail
    rw [unhide HMI, unhide HW1]
    refine FC.mono ?_
    rintro e w1 ⟨v, S', rfl, o1, -, -, f1, -⟩
    have o1 := o1 trivial
    obtain ⟨va, vc, rfl⟩ := rows_form o1
    have AW := awake_ok w1
    have F1 := hide ((unhide HF0).trans' f1 (fun k hk => .inr (by rw [hk]; exact Nat.le_refl _)))
    clear FC o1 f1
    go_wp2_with fail
    refine AW.mono ?_
    rintro e w2 ⟨rfl, f2⟩
    go_wp2
    go_ret
    exact ⟨rfl, (unhide F1).trans' f2 (fun _ x => x.elim) |>.bel⟩
  · obtain ⟨F, d, hF, hC⟩ := cl_run r M (by omega) l1 hM'
    have FC := unhide HFO W1 F d hF (W.heap.size + 1) hb1 cM rR
    have hr' : ((r : Int) == 0) = false := by simp [h0]
    have HCl := hide hC; have HRP := hide (show 0 < r by omega)
    clear hF cM rR hb1 HFO h0 hC
    go_enter Try.func3, Try.ntmps3
    go_wp2_with fail
    go_region
    go_wp2_with fail
    rw [unhide HMI, unhide HW1]
    refine FC.mono ?_
    rintro e w1 ⟨v, S', rfl, o1, -, j1, f1, -⟩
    have o1 := o1 trivial
    obtain ⟨va, vc, rfl⟩ := rows_form o1
    have F1 := hide ((unhide HF0).trans' f1 (fun k hk => .inr (by rw [hk]; exact Nat.le_refl _)))
    have HR := hide (And.intro o1.rv j1.2)
    clear FC o1 f1 j1
    generalize hfn : F.length = fn at *
    have HFN := hide hfn
    clear hfn
    have hFl : F.length ≤ 1000000 := by
      have h := nodup_len F clU (lt_nodup (unhide HCl).lt) (fun x hx => by obtain ⟨n, t, rfl, h⟩ := (unhide HCl).mem x hx; exact (clU_mem _).2 (by omega))
      have h2 : clU.length = 257 := by simp [clU]
      omega
    have hfn9 : fn ≤ 1000000 := by have := unhide HFN; omega
    go_wp2_with fail
    go_loopw [8] (fun i wr => ∃ k q : Nat, i = iv k ∧ wr = w1.drewN q ∧ k ≤ fn) (fun i wr => fn - (RowKit.intOf i).toNat)
    case atStart => exact ⟨0, 0, rfl, rfl, Nat.zero_le _⟩
    case round =>
      obtain ⟨k, q, rfl, rfl, hk⟩ := hrel
      by_cases hlt : k < fn
      · have hlt' : (k : Int) < fn := by omega
        have hkF : k < F.length := by have := unhide HFN; omega
        obtain ⟨n, t, hx, hn0, hn256, hnt, hnM⟩ := (unhide HCl).mem _ (getD_mem hkF)
        obtain ⟨za, zc, ez, hzc, hzr⟩ := (unhide HR).1
        injection ez with ez1 ez2 ez3
        obtain ⟨xb, xo, ex, cx0⟩ := hzr k hkF
        rw [hx] at cx0
        have cx : ∀ q, (w1.drewN q).cell? ⟨xb, xo + k, none⟩ = some (.int .i64 (n : Int)) := fun _ => cx0
        have hprev : k = 0 ∨ ∃ j y : Nat, k = j + 1 ∧ y < n ∧ ∀ q, (w1.drewN q).cell? ⟨xb, xo + j, none⟩ = some (.int .i64 (y : Int)) := by
          rcases Nat.eq_zero_or_pos k with e | e
          · exact .inl e
          · obtain ⟨j, rfl⟩ : ∃ j, k = j + 1 := ⟨k - 1, by omega⟩
            have hjF : j < F.length := by omega
            obtain ⟨y, t', hy, _⟩ := (unhide HCl).mem _ (getD_mem hjF)
            obtain ⟨b', o', e', c'⟩ := hzr j hjF
            rw [ex] at e'
            cases e'
            rw [hy] at c'
            have hlt2 := List.pairwise_iff_getElem.1 (unhide HCl).lt j (j + 1) hjF hkF (by omega)
            have e1 : F.getD j 0 = F[j] := by simp [hjF]
            have e2 : F.getD (j + 1) 0 = F[j + 1] := by simp [hkF]
            rw [← e1, ← e2, hx, hy] at hlt2
            exact .inr ⟨j, y, rfl, by omega, fun _ => c'⟩
        have hcl1 : 2 * n ≤ M → F.contains ((2 * n : Nat) : Int) = true := fun h => by
          have := (unhide HCl).closed _ (getD_mem hkF) ((2 * n : Nat) : Int) (.inl (by rw [hx]; omega)) (by omega)
          simpa using this
        have hcl2 : 2 * n + 1 ≤ M → F.contains ((2 * n + 1 : Nat) : Int) = true := fun h => by
          have := (unhide HCl).closed _ (getD_mem hkF) ((2 * n + 1 : Nat) : Int) (.inr (by rw [hx]; omega)) (by omega)
          simpa using this
        have HC2 := hide (And.intro hcl1 hcl2)
        have ez' : va = some ⟨xb, xo, none⟩ := ez1.trans ex
        subst ez'
        have HPV := hide (And.intro hprev (And.intro hnM (And.intro hnt hn0)))
        clear hx cx0 hzr hzc ez1 ez2 ez3 ex hprev hnM hcl1 hcl2 hnt hn0 hkF
        have cq := cx q
        go_wp2_with fail
        go_loopw [9] (fun v wq => wq = w1.drewN q ∧ ∃ j t : Nat, v = iv j ∧ Hid (0 < j ∧ j ≤ 256 ∧ j / 2 ^ t = r)) (fun v wq => (RowKit.intOf v).toNat)
        case atStart => exact ⟨rfl, n, t, rfl, hide ⟨(unhide HPV).2.2.2, hn256, (unhide HPV).2.2.1⟩⟩
        case round =>
          obtain ⟨rfl, j, t, rfl, HJ⟩ := hrel
          obtain ⟨hj0, hj256, hjt⟩ := unhide HJ
          by_cases hjr : r < j
          · have hjr' : (r : Int) < j := by omega
            clear hjt
            go_wp2
            refine ⟨⟨trivial, j / 2, t - 1, by go_num, hide ⟨by have := unhide HRP; omega, by omega, ?_⟩⟩, by simp [RowKit.intOf]; omega⟩
            have hjt := (unhide HJ).2.2
            cases t with
            | zero => simp at hjt; omega
            | succ t =>
              rw [Nat.add_sub_cancel, Nat.div_div_eq_div_mul, Nat.mul_comm, ← Nat.pow_succ]
              exact hjt
          · have hjr' : ¬ (r : Int) < j := by omega
            have hjr2 : j = r := by
              have h1 : j / 2 ^ t ≤ j := Nat.div_le_self _ _
              omega
            subst hjr2
            clear hjt hj0 hj256 HJ hjr
            obtain ⟨hprev, hnM, -, hn0⟩ := unhide HPV
            clear m1 m2 hM hw o1 hjr'
            have hMx : decide ((M : Int) < n) = false ∨ (decide ((M : Int) < n) = true ∧ ((n : Int) != j) = false) := by
              rcases hnM with h | h
              · left; simp; omega
              · by_cases h2 : n ≤ M
                · left; simp; omega
                · right
                  refine ⟨by simp; omega, by rw [h]; simp⟩
            have cM : ∀ q, (w1.drewN q).cell? ⟨W.heap.size, 0, none⟩ = some (.int .i64 (M : Int)) := fun _ => (unhide HR).2
            have hjj : ((j : Int) != j) = false := by simp
            have HX := hide (And.intro (unhide HR).1 hn0)
            rcases hprev with hk0 | ⟨p, y0, hkp, hyn, cy⟩
            · have hk1 : ¬ (0 : Int) < (k : Int) := by omega
              have hk2 : decide (0 < k) = false := by simp; omega
              clear hk0
              clear hnM hn0 HPV
              have hMx' : decide (M < n) = false ∨ (decide (M < n) = true ∧ ((n : Int) != j) = false ∧ (n != j) = false) := by
                rcases hMx with h | ⟨h, h2⟩
                · left; simp at h ⊢; omega
                · right; simp at h h2 ⊢; omega
              clear hMx
              rcases hMx' with hM1 | ⟨hM1, hM2, hM3⟩
              all_goals
                go_wp2_with fail
                go_quiet (fail)
                rw [drew_add]
                clear hM1
                have w2n : wrap64 (2 * (n : Int)) = 2 * n := by unfold wrap64; omega
                have w3n : wrap64 (2 * (n : Int) + 1) = 2 * n + 1 := by unfold wrap64; omega
                have cxq := cx (q + nq)
                go_wp2_with fail
                go_loopw [10] (fun v wq => ∃ t : Nat, v = iv (2 * n + t : Nat) ∧ wq = w1.drewN (q + nq) ∧ t ≤ 2) (fun v wq => 2 * n + 2 - (RowKit.intOf v).toNat)
                case atStart => exact ⟨0, by simp, rfl, by omega⟩
                case round =>
                  obtain ⟨t, rfl, rfl, ht2⟩ := hrel
                  have rv := (unhide HX).1.still (w' := w1.drewN (q + nq)) ((Fr.refl _ w1).drewN _)
                  have cMq := cM (q + nq)
                  by_cases ht : t < 2
                  · have hyb : (2 * n + t ≤ M → F.contains ((2 * n + t : Nat) : Int) = true) := fun h => by
                      rcases (show t = 0 ∨ t = 1 by omega) with rfl | rfl
                      · exact (unhide HC2).1 h
                      · exact (unhide HC2).2 h
                    obtain ⟨y, hyy⟩ : ∃ y, 2 * n + t = y := ⟨_, rfl⟩
                    rw [hyy] at hyb ⊢
                    have hy1 : (y : Int) ≤ 2 * n + 1 := by omega
                    have HWY := hide (show wrap64 ((y : Int) + 1) = y + 1 by unfold wrap64; omega)
                    have HYY := hide hyy
                    clear hyy
                    by_cases hyM : y ≤ M
                    · have hyM' : (y : Int) ≤ M := Int.ofNat_le.2 hyM
                      have hcc := hyb hyM
                      clear hyb
                      go_upto_region 19 with fail
                      have hwy := unhide HWY
                      clear w2n w3n hy1
                      go_wp2_with (first | (go_at_call 10; refine (has_vb _ _ _ _ _ (by assumption) (by assumption) (by assumption)).mono ?_; rintro e w9 ⟨rfl, he⟩; replace he := he.symm; subst he) | fail)
                      have hyy := unhide HYY
                      clear hwy
                      exact ⟨⟨t + 1, by rw [← hyy]; go_num, trivial, by omega⟩, by simp [RowKit.intOf]; omega⟩
                    · have hyM' : ¬ (y : Int) ≤ M := fun h => hyM (Int.ofNat_le.1 h)
                      clear hyb
                      go_upto_region 19 with fail
                      have hwy := unhide HWY
                      clear w2n w3n hy1
                      go_wp2_with fail
                      have hyy := unhide HYY
                      rw [hwy]
                      clear hwy
                      exact ⟨⟨t + 1, by rw [← hyy]; go_num, trivial, by omega⟩, by simp [RowKit.intOf]; omega⟩
                  · obtain rfl : t = 2 := by omega
                    obtain ⟨y, hyy⟩ : ∃ y, 2 * n + 2 = y := ⟨_, rfl⟩
                    rw [hyy]
                    have hy1 : ¬ (y : Int) ≤ 2 * n + 1 := by omega
                    have HYY := hide hyy
                    clear hyy
                    go_wp2
                    clear w2n w3n
                    exact ⟨⟨k + 1, q + nq, by go_num, rfl, by omega⟩, by simp [RowKit.intOf]; omega⟩
            · subst hkp
              have hp0 : (0 : Int) < (p : Int) + 1 := by omega
              have hny : decide (n ≤ y0) = false := by simp; omega
              have hpf : p < fn := by omega
              have hpf' : (p : Int) < fn := by omega
              have hpf2 : (p : Int) + 1 < fn := by omega
              clear hyn
              clear hnM hn0 HPV
              have hMx' : decide (M < n) = false ∨ (decide (M < n) = true ∧ ((n : Int) != j) = false ∧ (n != j) = false) := by
                rcases hMx with h | ⟨h, h2⟩
                · left; simp at h ⊢; omega
                · right; simp at h h2 ⊢; omega
              clear hMx
              rcases hMx' with hM1 | ⟨hM1, hM2, hM3⟩
              all_goals
                go_wp2_with fail
                go_quiet (fail)
                rw [drew_add]
                clear hM1
                have w2n : wrap64 (2 * (n : Int)) = 2 * n := by unfold wrap64; omega
                have w3n : wrap64 (2 * (n : Int) + 1) = 2 * n + 1 := by unfold wrap64; omega
                obtain ⟨k, hkp⟩ : ∃ k, p + 1 = k := ⟨_, rfl⟩
                clear hpf2 hp0 hny hpf hpf' cy
                rw [hkp] at cx hlt hlt' hk ⊢
                have HKP := hide hkp
                clear hkp
                have cxq := cx (q + nq)
                go_wp2_with fail
                go_loopw [10] (fun v wq => ∃ t : Nat, v = iv (2 * n + t : Nat) ∧ wq = w1.drewN (q + nq) ∧ t ≤ 2) (fun v wq => 2 * n + 2 - (RowKit.intOf v).toNat)
                case atStart => exact ⟨0, by simp, rfl, by omega⟩
                case round =>
                  obtain ⟨t, rfl, rfl, ht2⟩ := hrel
                  have rv := (unhide HX).1.still (w' := w1.drewN (q + nq)) ((Fr.refl _ w1).drewN _)
                  have cMq := cM (q + nq)
                  by_cases ht : t < 2
                  · have hyb : (2 * n + t ≤ M → F.contains ((2 * n + t : Nat) : Int) = true) := fun h => by
                      rcases (show t = 0 ∨ t = 1 by omega) with rfl | rfl
                      · exact (unhide HC2).1 h
                      · exact (unhide HC2).2 h
                    obtain ⟨y, hyy⟩ : ∃ y, 2 * n + t = y := ⟨_, rfl⟩
                    rw [hyy] at hyb ⊢
                    have hy1 : (y : Int) ≤ 2 * n + 1 := by omega
                    have HWY := hide (show wrap64 ((y : Int) + 1) = y + 1 by unfold wrap64; omega)
                    have HYY := hide hyy
                    clear hyy
                    by_cases hyM : y ≤ M
                    · have hyM' : (y : Int) ≤ M := Int.ofNat_le.2 hyM
                      have hcc := hyb hyM
                      clear hyb
                      go_upto_region 19 with fail
                      have hwy := unhide HWY
                      clear w2n w3n hy1
                      go_wp2_with (first | (go_at_call 10; refine (has_vb _ _ _ _ _ (by assumption) (by assumption) (by assumption)).mono ?_; rintro e w9 ⟨rfl, he⟩; replace he := he.symm; subst he) | fail)
                      have hyy := unhide HYY
                      clear hwy
                      exact ⟨⟨t + 1, by rw [← hyy]; go_num, trivial, by omega⟩, by simp [RowKit.intOf]; omega⟩
                    · have hyM' : ¬ (y : Int) ≤ M := fun h => hyM (Int.ofNat_le.1 h)
                      clear hyb
                      go_upto_region 19 with fail
                      have hwy := unhide HWY
                      clear w2n w3n hy1
                      go_wp2_with fail
                      have hyy := unhide HYY
                      rw [hwy]
                      clear hwy
                      exact ⟨⟨t + 1, by rw [← hyy]; go_num, trivial, by omega⟩, by simp [RowKit.intOf]; omega⟩
                  · obtain rfl : t = 2 := by omega
                    obtain ⟨y, hyy⟩ : ∃ y, 2 * n + 2 = y := ⟨_, rfl⟩
                    rw [hyy]
                    have hy1 : ¬ (y : Int) ≤ 2 * n + 1 := by omega
                    have HYY := hide hyy
                    clear hyy
                    go_wp2
                    clear w2n w3n
                    have hkp := unhide HKP
                    exact ⟨⟨k + 1, q + nq, by go_num, rfl, by omega⟩, by simp [RowKit.intOf]; omega⟩
      · have hlt' : ¬ (k : Int) < fn := by omega
        have hroot : F.contains (r : Int) = true := by simpa using (unhide HCl).root
        have rv := (unhide HR).1.still (w' := w1.drewN q) ((Fr.refl _ w1).drewN q)
        have AW := awake_ok (w1.drewN q)
        have HAW := hide AW
        clear AW
        go_wp2_with (first | (go_at_call 10; refine (has_vb _ _ _ _ _ (by assumption) (by assumption) (by assumption)).mono ?_; rintro e w9 ⟨rfl, he⟩; replace he := he.symm; subst he) | fail)
        refine (unhide HAW).mono ?_
        rintro e w2 ⟨rfl, f2⟩
        go_wp2
        go_ret
        exact ⟨rfl, (still_tr (still_tr (unhide F1) ((Fr.refl _ w1).drewN q)) f2).bel⟩
end Go.Proofs.Ytogjlengkjkiaaa
