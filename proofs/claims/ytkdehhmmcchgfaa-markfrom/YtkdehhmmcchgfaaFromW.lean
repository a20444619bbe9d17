/- MarkFrom. -/
import Derived.Test.YtkdehhmmcchgfaaFg
import Derived.Deep.CutBlock
namespace Go.Proofs.Ytkdehhmmcchgfaa
open Go.RowKit

set_option maxRecDepth 100000 in
set_option maxHeartbeats 4000000 in
theorem from_law (a1 : Option Addr) (len1 cap1 : Nat) (a2 : Option Addr) (len2 cap2 : Nat) (bad most : Int) (A : Nat → Option Addr) (L C : Nat → Nat) (Z : Nat → List Int) (z2 : List Int) (W : World) (hR : Rows2 W a1 len1 A L C Z) (h2 : Nums W a2 len2 (fun k => z2.getD k 0)) :
    Calls Try.prog 5 #[.slice a1 len1 cap1, .slice a2 len2 cap2, .int .i64 bad, .int .i64 most] W fun e w' => e = .returned (.bool true) ∧ Below W.heap.size W w' := by
  obtain ⟨W1, hW1⟩ : ∃ X, ((W.alloc (.cells #[.slice a1 len1 cap1] 35)).alloc (.cells #[iv bad] 3)).alloc (.cells #[.func (.func 13) #[] #[]] 36) = X := ⟨_, rfl⟩
  obtain ⟨wb, hwb⟩ : ∃ b, W.heap.size = b := ⟨_, rfl⟩
  have f1 : Still W W1 := hW1 ▸ (((Fr.refl _ W).alloc _).alloc _).alloc _
  have z1 : W1.heap.size = wb + 3 := by rw [← hW1]; simp [hwb]
  have cW : W1.cell? ⟨wb, 0, none⟩ = some (.slice a1 len1 cap1) := by
    refine cell_of_obj (t := 35) (z := (0, 0)) (cs := #[.slice a1 len1 cap1]) ?_ 0
    rw [← hW1, ← hwb]
    exact (Below.heap_alloc _ _ _ (by simp; omega)).trans ((Below.heap_alloc _ _ _ (by simp)).trans (heap_alloc_new W _))
  have cB : W1.cell? ⟨wb + 1, 0, none⟩ = some (iv bad) := by
    refine cell_of_obj (t := 3) (z := (0, 0)) (cs := #[iv bad]) ?_ 0
    rw [← hW1, ← hwb]
    refine (Below.heap_alloc _ _ _ (by simp)).trans ?_
    have := heap_alloc_new (W.alloc (.cells #[.slice a1 len1 cap1] 35)) (.cells #[iv bad] 3)
    simpa using this
  have cC : W1.cell? ⟨wb + 2, 0, none⟩ = some (.func (.func 13) #[] #[]) := by
    refine cell_of_obj (t := 36) (z := (0, 0)) (cs := #[.func (.func 13) #[] #[]]) ?_ 0
    rw [← hW1, ← hwb]
    have := heap_alloc_new ((W.alloc (.cells #[.slice a1 len1 cap1] 35)).alloc (.cells #[iv bad] 3)) (.cells #[.func (.func 13) #[] #[]] 36)
    simpa using this
  have HW1 := hide hW1; have HWB := hide (show W.heap.size = wb ∧ W.heap.size + 1 = wb + 1 ∧ W.heap.size + 1 + 1 = wb + 2 by omega)
  have HE := hide (And.intro f1 (And.intro z1 (And.intro cW (And.intro cB cC))))
  have HR := hide hR; have H2 := hide h2
  clear hwb hW1 z1 f1 cW cB cC hR h2
  go_enter Try.func5, Try.ntmps5
  go_upto_region 2 with fail
  rw [unhide HW1, (unhide HWB).2.2, (unhide HWB).2.1, (unhide HWB).1]
  clear HW1
  go_upto_block 0 with fail
  go_cut [10, 11] from 21 to 39 (fun v _i wx => ∃ (sa : Option Addr) (sn sc : Nat), v = .slice sa sn sc ∧ Hid (Own wx W1.heap.size (.slice sa sn sc) (pre41 z2 (min len2 20)) ∧ sn = (pre41 z2 (min len2 20)).length ∧ Still W1 wx))
  case first =>
    go_wp2_with fail
    go_loopw [10, 11] (fun v i wr => ∃ (t : Nat) (sa : Option Addr) (sn sc : Nat), i = iv (t : Nat) ∧ v = .slice sa sn sc ∧ Hid (t ≤ min len2 20 ∧ Own wr W1.heap.size (.slice sa sn sc) (pre41 z2 t) ∧ sn = (pre41 z2 t).length ∧ Still W1 wr)) (fun v i wr => 20 - (RowKit.intOf i).toNat)
    case atStart => exact ⟨0, none, 0, 0, by simp, rfl, hide ⟨by omega, Own.nil _ _, rfl, Fr.refl _ _⟩⟩
    case round =>
      obtain ⟨t, sa, sn, sc, rfl, rfl, HI⟩ := hrel
      have ht := (unhide HI).1
      by_cases h1 : t < min len2 20
      · have h1' : (t : Int) < len2 := by omega
        have h2' : (t : Int) < 20 := by omega
        obtain ⟨yb, yo, rfl, cy0⟩ := (unhide H2) t (by omega)
        obtain ⟨z, hz⟩ : ∃ z, z2.getD t 0 = z := ⟨_, rfl⟩
        replace cy0 : W.cell? ⟨yb, yo + t, none⟩ = some (.int .i64 (z2.getD t 0)) := cy0
        rw [hz] at cy0
        have cy1 := (unhide HE).1.cell' cy0 (fun x => x)
        have hps := pre41_succ z2 t
        rw [hz] at hps
        obtain ⟨i1, i2, i3, i4⟩ := unhide HI
        have fd : Fr (fun _ => False) wr wr.drew := (Fr.refl _ wr).drewN 1
        have id := still_tr i4 fd
        obtain ⟨pa, pq, u2, hap, o2, f2, -, hnn⟩ := Own.more Try.underlying22 wr.drew W1.heap.size _ _ sn (i2.still fd fun _ _ x => x) i3 (at41 z : Nat) (by rw [i3, pre41_len]; omega) id.size
        rw [← hps] at o2 hnn
        have iu : Still W1 u2 := id.trans' f2 (fun g hg => .inr (i2.lt g hg).1)
        have ia : Still W1 (wr.alloc (.cells #[iv (at41 z : Nat)] 3)).drew := (i4.alloc _).drewN 1
        have hap' : (Builtin.append_ #[22, 22] 22 #[.slice sa sn sc, .slice (some ⟨wr.heap.size, 0, none⟩) 1 1]).run Try.prog (wr.alloc (.cells #[iv (at41 z : Nat)] 3)).drew = .ok (.slice pa (sn + 1) pq) u2 := hap
        have KS : ∀ u, Still W1 u → u.cell? ⟨wb + 2, 0, none⟩ = some (.func (.func 13) #[] #[]) ∧ u.cell? ⟨yb, yo + t, none⟩ = some (.int .i64 z) := fun u hu =>
          ⟨hu.cell' (unhide HE).2.2.2.2 (fun x => x), hu.cell' cy1 (fun x => x)⟩
        obtain ⟨d1, d2⟩ := KS _ id
        have su := KS _ iu; have sl := KS _ ia
        have HE2 := hide (And.intro o2 (And.intro hnn iu)); have HAP := hide hap'
        have hwt : wrap64 ((t : Int) + 1) = t + 1 := by unfold wrap64; omega
        have HT := hide h1
        clear i1 i2 i3 i4 fd id hap hap' o2 f2 hnn iu ia KS hz hps cy0 cy1 ht h1
        go_wp2_with fail
        go_region_held3 (fun w' => w'.cell? ⟨wb + 2, 0, none⟩ = some (.func (.func 13) #[] #[]) ∧ w'.cell? ⟨yb, yo + t, none⟩ = some (.int .i64 z)) (first | go_keep | (exact su) | (exact sl)) (first | (go_at_call 13; refine (at_ok _ _).mono ?_; rintro e w9 ⟨rfl, rfl⟩) | (refine step_append_run rfl (.tmp 31) (.tmp 38) 22 rfl _ _ rfl rfl _ u2 (unhide HAP) ?_))
        go_wp2_with fail
        obtain ⟨o2, hnn, f3⟩ := unhide HE2
        have h1 := unhide HT
        exact ⟨⟨t + 1, _, _, _, rfl, rfl, hide ⟨by omega, o2, hnn, f3⟩⟩, by simp [RowKit.intOf]; omega⟩
      · obtain ⟨i1, i2, i3, i4⟩ := unhide HI
        have ht10 : t = min len2 20 := by omega
        rw [ht10] at i2 i3
        have HO := hide (And.intro i2 (And.intro i3 i4))
        have hcase : ((t : Int) < len2 ∧ ¬ (t : Int) < 20) ∨ ¬ (t : Int) < len2 := by omega
        clear i1 i2 i3 i4 ht10 ht h1 HI
        rcases hcase with ⟨h1, h2⟩ | h1
        · go_wp2_with fail
          go_meet
          exact ⟨_, _, _, rfl, HO⟩
        · go_wp2_with fail
          go_meet
          exact ⟨_, _, _, rfl, HO⟩
  case rest =>
    obtain ⟨sa, sn, sc, rfl, HS⟩ := hcut
    go_upto_region 9 with fail
    obtain ⟨W5, hW5⟩ : ∃ X, (wc.alloc (.cells #[.func (.func 14) #[] #[ptr wb, ptr (wb + 2)]] 37)).alloc (.cells #[.slice none 0 0] 22) = X := ⟨_, rfl⟩
    rw [hW5]
    obtain ⟨bO, hbO⟩ : ∃ b, wc.heap.size = b := ⟨_, rfl⟩
    have h1O : wc.heap.size + 1 = bO + 1 := by omega
    obtain ⟨os, hns, is⟩ := unhide HS
    obtain ⟨f1, z1, cW, cB, cC⟩ := unhide HE
    have f5 : Still wc W5 := hW5 ▸ ((Fr.refl _ wc).alloc _).alloc _
    have z5 : W5.heap.size = bO + 2 := by rw [← hW5]; simp [hbO]
    have f15 := still_tr is f5
    have sz1 := is.size
    have cO : W5.cell? ⟨bO, 0, none⟩ = some (.func (.func 14) #[] #[ptr wb, ptr (wb + 2)]) := by
      refine cell_of_obj (t := 37) (z := (0, 0)) (cs := #[.func (.func 14) #[] #[ptr wb, ptr (wb + 2)]]) ?_ 0
      rw [← hW5, ← hbO]
      exact (Below.heap_alloc _ _ _ (by simp)).trans (heap_alloc_new wc _)
    have oA : W5.heap[bO + 1]? = some (.cells #[.slice none 0 0] 22 (0, 0)) := by
      rw [← hW5, ← hbO]
      have := heap_alloc_new (wc.alloc (.cells #[.func (.func 14) #[] #[ptr wb, ptr (wb + 2)]] 37)) (.cells #[.slice none 0 0] 22)
      simpa using this
    have hR := unhide HR
    have E5 : Env W5.heap.size (bO + 1) (wb + 1) bO wb (wb + 2) bad a1 len1 cap1 A L C Z W5 := by
      refine ⟨f15.cell' cB (fun x => x), cO, f15.cell' cW (fun x => x), f15.cell' cC (fun x => x), fun q hq => ?_, ⟨by omega, by omega⟩, ⟨by omega, by omega⟩, ⟨by omega, by omega⟩, ⟨by omega, by omega⟩, fun q hq xb xo e => ?_, fun q hq i hi xb xo e => ?_⟩
      · obtain ⟨⟨xb, xo, e, c⟩, hn, hm⟩ := hR q hq
        refine ⟨⟨xb, xo, e, f15.cell' (f1.cell' c (fun x => x)) (fun x => x)⟩, fun i hi => ?_, hm⟩
        obtain ⟨yb, yo, e2, c2⟩ := hn i hi
        exact ⟨yb, yo, e2, f15.cell' (f1.cell' c2 (fun x => x)) (fun x => x)⟩
      · obtain ⟨⟨yb, yo, e1, c⟩, _⟩ := hR q hq
        rw [e] at e1; cases e1
        have h : xb < W.heap.size := World.block_lt_of_cell? _ _ c
        have := f1.size
        omega
      · obtain ⟨_, hn, _⟩ := hR q hq
        obtain ⟨yb, yo, e1, c⟩ := hn i hi
        rw [e] at e1; cases e1
        have h : xb < W.heap.size := World.block_lt_of_cell? _ _ c
        have := f1.size
        omega
    obtain ⟨lr, hlr⟩ : ∃ l, pre41 z2 (min len2 20) = l := ⟨_, rfl⟩
    have hlm : ∀ x ∈ lr, x ∈ wU := fun x hx => by
      rw [← hlr] at hx
      obtain ⟨q, rfl, hq⟩ := pre41_mem _ _ _ hx
      exact (wU_mem _).2 (by omega)
    have hll : lr.length ≤ 20 := by rw [← hlr, pre41_len]; omega
    rw [hlr] at os hns
    obtain ⟨F, d, en, hrun, hen, hFl, hFU, hdF, hdn⟩ := web_run (bad := bad) (len := len1) (L := L) (Z := Z) most lr hlm
    obtain ⟨rd0, hal⟩ := os.rds
    have FO : Calls Try.prog 8 #[.slice sa sn sc, .func (.func 15) #[] #[ptr (bO + 1), ptr (wb + 1), ptr bO], .int .i64 most] W5 fun e w' => ∃ v S', e = .returned (.tuple #[v, iv en]) ∧ (en = 0 → Own w' W5.heap.size v F) ∧ (en ≠ 0 → v = .slice none 0 0) ∧ FJ W5.heap.size (bO + 1) W5 d S' w' ∧ _ ∧ _ :=
      from_ok (web_hangs E5 rfl (by omega)) W5 _ sa sn sc lr most 300 (F, d, en) hrun hen (rd0.still f5) hns hlm (by omega) (fun b o e => by have := (hal b o e).2.1; have := f5.size; omega) ⟨.slice none 0 0, oA, Own.nil _ _, rfl, Fr.refl _ _⟩
    have HFO := hide FO
    have H5 := hide (And.intro (still_tr f1 f15) (And.intro os (And.intro f5 (And.intro z5 (And.intro (show W.heap.size ≤ bO ∧ wc.heap.size = bO by have := f1.size; omega) E5)))))
    have HRun := hide (And.intro hrun (And.intro hen (And.intro hFl (And.intro hFU (And.intro hdF hdn)))))
    have HLR := hide (And.intro hlm (And.intro hll hns))
    have HBO := hide hbO
    clear hW5 os hns is f1 z1 cW cB cC f5 z5 f15 sz1 cO oA hR E5 hlr hlm hll hrun hen hFl hFU hdF hdn rd0 hal FO hbO HS HE
    go_wp2_with fail
    rw [h1O, unhide HBO]
    clear h1O HBO
    refine (unhide HFO).mono ?_
    rintro e w6 ⟨gv, S', rfl, og, on, j6, -⟩
    obtain ⟨va, hbA, oa, -, f56⟩ := j6
    obtain ⟨f05, os, f5, z5, sz1, E5⟩ := unhide H5
    have f06 : Still W w6 := f05.trans' f56 (fun q e => .inr (by have e : q = bO + 1 := e; omega))
    have hsA : ∀ q, Value.ownBlock (.slice sa sn sc) = some q → q < bO := fun q e => by
      have := (os.lt q e).2
      omega
    have os6 : Own w6 W1.heap.size (.slice sa sn sc) lr := (os.still f5 (fun _ _ x => x)).still f56 (fun q e => by
      have := hsA q e
      intro e2
      have e2 : q = bO + 1 := e2
      omega)
    have E6 := E5.on f56 (fun q _ h => h)
    have RS := rising_ok sa sn sc lr w6 os6.rds.1 (unhide HLR).2.2 (by have := (unhide HLR).2; omega)
    have HRS := hide RS
    have H6 := hide (And.intro f06 (And.intro hbA (And.intro oa (And.intro E6 (And.intro og on)))))
    clear HFO H5 f05 os f5 z5 sz1 E5 hsA os6 E6 RS og on f06 hbA oa f56
    go_wp2_with fail
    refine (unhide HRS).mono ?_
    rintro e w7 ⟨v7, rfl, o7, f67⟩
    obtain ⟨a7, c7, rfl⟩ := rows_form o7
    have H7 := hide (And.intro o7 f67)
    clear HRS o7 f67
    obtain ⟨n7, hn7⟩ : ∃ n, (rise lr).length = n := ⟨_, rfl⟩
    rw [hn7] at H7 ⊢
    have HN7 := hide hn7
    clear hn7
    go_upto_block 2 with fail
    go_cut [16, 17, 18, 19, 20] from 50 to 93 (fun v16 v17 v18 _ _ wx => v18 = iv en ∧ Hid (Still w7 wx ∧ Rv wx v17 d ∧ (en = 0 → Rv wx v16 F)))
    case first =>
      go_wp2_with fail
      go_loopw [16, 17, 18] (fun v16 v17 v18 wr => v18 = iv 0 ∧ ∃ (k : Nat) (Fk dk : List Int) (fa : Option Addr) (fn fc : Nat) (da : Option Addr) (dn dc : Nat), v16 = .slice fa fn fc ∧ v17 = .slice da dn dc ∧ Hid (run (webF bad len1 L Z) most k Fk dk = (F, d, en) ∧ Own wr w6.heap.size (.slice fa fn fc) Fk ∧ fn = Fk.length ∧ Own wr w7.heap.size (.slice da dn dc) dk ∧ dn = dk.length ∧ Still w7 wr ∧ Fk.Pairwise (· < ·) ∧ (∀ x ∈ Fk, x ∈ wU ∧ x ≠ 0) ∧ (∀ x ∈ dk, x ∈ Fk) ∧ dk.Nodup ∧ ∀ q, Value.ownBlock (.slice fa fn fc) = some q → Value.ownBlock (.slice da dn dc) ≠ some q)) (fun _ v17 _ _ => 60 - lenOf v17)
      case atStart =>
        refine ⟨rfl, 300, rise lr, [], a7, n7, c7, none, 0, 0, rfl, rfl, hide ⟨(unhide HRun).1, (unhide H7).1.from (Nat.le_refl _), (unhide HN7).symm, Own.nil _ _, rfl, Fr.refl _ _, rise_lt _, fun x hx => ?_, fun x hx => by simp at hx, by simp, fun q _ e => by simp [Value.ownBlock] at e⟩⟩
        have := (rise_mem lr x).1 hx
        exact ⟨(unhide HLR).1 x this.1, this.2⟩
      case round =>
        obtain ⟨rfl, k, Fk, dk, fa, fn, fc, da, dn, dc, rfl, rfl, HI⟩ := hrel
        have h00 : ((0 : Int) == 0) = true := rfl
        obtain ⟨i1, i2, i3, i4, i5, i6, i7, i8, i9, i10, i11⟩ := unhide HI
        have hFn : Fk.length ≤ 41 := by
          have := nodup_len Fk wU (lt_nodup i7) (fun x hx => (i8 x hx).1)
          simpa [wU] using this
        have hfn : fn ≤ 41 := by omega
        have hdn : dn ≤ fn := by
          have := nodup_len dk Fk i10 i9
          omega
        have rvd := i4.rv
        have HF := hide i2.rds.1
        have HFN := hide i3
        have HRN := hide (And.intro (run_none _ most k Fk dk (F, d, en) i1 (unhide HRun).2.1) (run_some _ most k Fk dk (F, d, en) · i1 (unhide HRun).2.1))
        have H8 := hide i8
        clear i1 i2 i3 i4 i5 i6 i7 i8 i9 i10 i11
        have hdl : dk.length ≤ 1000000 := by have := (unhide HI).2.2.2.2.1; omega
        go_upto_block 4 with fail
        go_cut [19, 20] from 52 to 72 (fun v19 _ wx => ∃ x : Int, v19 = iv x ∧ wx = wr ∧ Hid ((x = 0 ∧ nxt Fk dk = none) ∨ (x ≠ 0 ∧ nxt Fk dk = some x)))
        case first =>
          go_wp2_with fail
          go_loopw [19, 20] (fun v19 v20 wq => ∃ (x : Int) (t : Nat), v19 = iv x ∧ v20 = iv t ∧ wq = wr ∧ Hid (t ≤ fn ∧ ((x = 0 ∧ ∀ j, j < t → Fk.getD j 0 ∈ dk) ∨ (x ≠ 0 ∧ nxt Fk dk = some x)))) (fun _ v20 _ => fn - (RowKit.intOf v20).toNat)
          case atStart => exact ⟨0, 0, rfl, rfl, rfl, hide ⟨Nat.zero_le _, .inl ⟨rfl, fun j hj => by omega⟩⟩⟩
          case round =>
            obtain ⟨x, t, rfl, rfl, rfl, HJ⟩ := hrel
            have ht := (unhide HJ).1
            by_cases hx : x = 0
            · subst hx
              have hx0 : ((0 : Int) == 0) = true := rfl
              have hall : ∀ j, j < t → Fk.getD j 0 ∈ dk := by
                rcases (unhide HJ).2 with h | h
                · exact h.2
                · exact absurd rfl h.1
              by_cases hlt : t < fn
              · have hlt' : (t : Int) < fn := by omega
                have htF : t < Fk.length := by have := unhide HFN; omega
                obtain ⟨xb, xo, rfl, cx⟩ := unhide HF t htF
                have hat := nxt_at (found := Fk) (done := dk) t hall htF
                have hne := ((unhide H8) _ (getD_mem htF)).2
                obtain ⟨z, hz⟩ : ∃ z, Fk.getD t 0 = z := ⟨_, rfl⟩
                rw [hz] at cx hat hne
                have HA := hide (And.intro hall (And.intro hat (And.intro hz hne)))
                clear hall hat hz hne htF
                by_cases hin : z ∈ dk
                · have hb : dk.contains z = true := by simpa using hin
                  have HIN := hide hin
                  clear hin
                  go_wp2_with (first | (go_at_call 10; refine (has_vb _ _ _ _ _ (by assumption) (by assumption) (by assumption)).mono ?_; rintro e w9 ⟨rfl, he⟩; replace he := he.symm; subst he) | fail)
                  refine ⟨⟨0, t + 1, rfl, by go_num, trivial, hide ⟨by omega, .inl ⟨rfl, fun j hj => ?_⟩⟩⟩, by simp [RowKit.intOf]; omega⟩
                  obtain ⟨hall, _, hz, _⟩ := unhide HA
                  rcases Nat.lt_or_ge j t with h | h
                  · exact hall j h
                  · obtain rfl : j = t := by omega
                    rw [hz]; exact unhide HIN
                · have hb : dk.contains z = false := by simpa using hin
                  have HIN := hide hin
                  clear hin
                  go_wp2_with (first | (go_at_call 10; refine (has_vb _ _ _ _ _ (by assumption) (by assumption) (by assumption)).mono ?_; rintro e w9 ⟨rfl, he⟩; replace he := he.symm; subst he) | fail)
                  obtain ⟨_, hat, _, hne⟩ := unhide HA
                  exact ⟨⟨z, t + 1, rfl, by go_num, trivial, hide ⟨by omega, .inr ⟨hne, hat (unhide HIN)⟩⟩⟩, by simp [RowKit.intOf]; omega⟩
              · have hlt' : ¬ (t : Int) < fn := by omega
                have hno := nxt_no (found := Fk) (done := dk) (fun i hi => hall i (by have := unhide HFN; omega))
                have HNO := hide hno
                clear hall hno
                go_wp2_with fail
                go_meet
                exact ⟨0, rfl, rfl, hide (.inl ⟨rfl, unhide HNO⟩)⟩
            · have hx0 : (x == 0) = false := by simp [hx]
              have HX := hide (show x ≠ 0 ∧ nxt Fk dk = some x by
                rcases (unhide HJ).2 with h | h
                · exact absurd h.1 hx
                · exact h)
              clear hx
              by_cases hlt : t < fn
              · have hlt' : (t : Int) < fn := by omega
                go_wp2_with fail
                go_meet
                exact ⟨x, rfl, rfl, hide (.inr (unhide HX))⟩
              · have hlt' : ¬ (t : Int) < fn := by omega
                go_wp2_with fail
                go_meet
                exact ⟨x, rfl, rfl, hide (.inr (unhide HX))⟩
        case rest =>
          obtain ⟨x, rfl, rfl, HN⟩ := hcut
          by_cases hx : x = 0
          · subst hx
            have hx0 : ((0 : Int) == 0) = true := rfl
            have hR0 : (F, d, en) = (Fk, dk, 0) := (unhide HRN).1 (by
              rcases unhide HN with h | h
              · exact h.2
              · exact absurd rfl h.1)
            have HRR := hide hR0
            clear hR0
            go_wp2_with fail
            go_meet
            obtain ⟨_, i2, _, i4, _, i6, _⟩ := unhide HI
            have e := unhide HRR
            simp only [Prod.mk.injEq] at e
            obtain ⟨e1, e2, e3⟩ := e
            exact ⟨by rw [e3], hide ⟨i6, by rw [e2]; exact i4.rv, fun _ => by rw [e1]; exact i2.rv⟩⟩
          · have hx0 : (x == 0) = false := by simp [hx]
            have hsome : nxt Fk dk = some x := by
              rcases unhide HN with h | h
              · exact absurd h.1 hx
              · exact h.2
            obtain ⟨k', hk'⟩ := (unhide HRN).2 x hsome
            obtain ⟨i1, i2, i3, i4, i5, i6, i7, i8, i9, i10, i11⟩ := unhide HI
            have hxs := nxt_some hsome i7
            have hxU := (i8 x hxs.1).1
            obtain ⟨m, rfl⟩ : ∃ m : Nat, x = m := ⟨x.toNat, by have := (wU_mem x).1 hxU; omega⟩
            have hm41 : m < 41 := by have := (wU_mem m).1 hxU; omega
            rw [← i3] at hk'
            have HXS := hide hxs; have HK := hide hk'
            clear hx hsome hxs hxU hk' i1 i3 i7 i8 i9 i10 HN HRN
            by_cases hm : most < (fn : Int)
            · have hm' : decide (most < (fn : Int)) = true := by simp only [hm, decide_true]
              have HM := hide hm
              clear i2 i4 i5 i6 i11
              go_wp2_with fail
              go_meet
              obtain ⟨_, i2, _, i4, _, i6, _⟩ := unhide HI
              have e := unhide HK
              rw [if_pos (unhide HM)] at e
              simp only [Prod.mk.injEq] at e
              obtain ⟨e1, e2, e3⟩ := e
              exact ⟨by rw [e3], hide ⟨i6, by rw [e2]; exact i4.rv, fun _ => by rw [e1]; exact i2.rv⟩⟩
            · have hm' : decide (most < (fn : Int)) = false := by simp only [hm, decide_false]
              have HM := hide hm
              obtain ⟨pa, pq, u2, hap, o2, f2, hb2, hnn⟩ := Own.more Try.underlying22 wc w7.heap.size _ dk dn i4 i5 m (by omega) i6.size
              have i2u := i2.still f2 i11
              have f7u : Still w7 u2 := i6.trans' f2 (fun q hq => .inr (i4.lt q hq).1)
              have E7 := ((unhide H6).2.2.2.1.on (unhide H7).2 (fun _ _ _ x => x)).on f7u (fun _ _ _ x => x)
              have cB := E7.cB; have cO := E7.cO
              have hap2 : ∀ q, Value.ownBlock (.slice fa fn fc) = some q → Value.ownBlock (.slice pa (dn + 1) pq) ≠ some q := fun q hq e => by
                rcases hb2 with h | h
                · rw [h] at e; exact i11 q hq e
                · rw [h] at e; cases e
                  have := (i2.lt _ hq).2
                  omega
              have HU := hide (And.intro i2u (And.intro o2 (And.intro hnn (And.intro f7u (And.intro hap2 E7)))))
              have HAP := hide hap
              clear i2 i4 i5 i6 i11 hap o2 f2 hb2 hnn i2u f7u E7 hap2
              by_cases hbx : (m : Int) = bad
              · have hbe : ((m : Int) == bad) = true := by simp [hbx]
                have HB := hide hbx
                clear hbx cO
                go_wp2_with (first | (at_builtin; refine wpList_append_run rfl (.tmp 79) (.tmp 81) 22 rfl _ _ rfl rfl _ u2 (unhide HAP) ?_) | fail)
                go_meet
                obtain ⟨i2u, o2, hnn, f7u, _⟩ := unhide HU
                have e := unhide HK
                have hw : webF bad len1 L Z m = ([1, 2, 3], 3) := if_pos (unhide HB)
                rw [if_neg (by have := unhide HM; omega), hw, if_neg (by simp)] at e
                simp only [Prod.mk.injEq] at e
                obtain ⟨e1, e2, e3⟩ := e
                exact ⟨by rw [e3], hide ⟨f7u, by rw [e2]; have := o2.rv; exact this, fun _ => by rw [e1]; exact i2u.rv⟩⟩
              · have hbe : ((m : Int) == bad) = false := by simp [hbx]
                have HB := hide hbx
                clear hbx
                go_wp2_with (first | (at_builtin; refine wpList_append_run rfl (.tmp 79) (.tmp 81) 22 rfl _ _ rfl rfl _ u2 (unhide HAP) ?_) | fail)
                obtain ⟨WD, hWD⟩ : ∃ X, u2.drew = X := ⟨_, rfl⟩
                have fD : Still u2 WD := hWD ▸ (Fr.refl _ u2).drewN 1
                obtain ⟨WE, hWE⟩ : ∃ X, WD.alloc (.cells #[] 3) = X := ⟨_, rfl⟩
                obtain ⟨bE, hbE⟩ : ∃ b, WD.heap.size = b := ⟨_, rfl⟩
                have gE : Still WD WE := hWE ▸ (Fr.refl _ WD).alloc _
                have fE := still_tr fD gE
                have oE : Own WE bE (.slice (some ⟨bE, 0, none⟩) 0 0) [] := by
                  rw [← hWE, ← hbE]; exact Own.empty WD _ (Nat.le_refl _)
                obtain ⟨i2u, -, -, f7u, -, E7⟩ := unhide HU
                have hFle : Fk.length ≤ 41 := by omega
                obtain ⟨v8, w8, hap8, o8, f8, _⟩ := Own.cat Try.underlying22 22 WE bE _ _ _ [] Fk oE (i2u.still fE (fun _ _ x => x)) (by simp; omega) (by have := gE.size; omega)
                have g8 : Still WD w8 := gE.trans' f8 (fun q hq => .inr (by have := (oE.lt q hq).1; omega))
                have F8 := still_tr fD g8
                have E8 := E7.on F8 (fun _ _ _ x => x)
                have OF := of_ok m hm41 wb (wb + 2) w8 a1 len1 cap1 A L C Z E8.rows E8.cW E8.cC
                have hwl := webOf_len len1 L Z m
                have cD := fD.cell' cO (fun x => x)
                have c8 := F8.cell' cO (fun x => x)
                have cE := fE.cell' cO (fun x => x)
                have HOF := hide OF; have HAP8 := hide hap8; have H8W := hide (And.intro o8 (And.intro F8 (And.intro hwl (And.intro hFle (show bE ≤ w8.heap.size by have := g8.size; omega))))); have HBE := hide (And.intro hbE hWE)
                clear OF hap8 o8 f8 g8 F8 E8 oE i2u f7u E7 gE fE hFle hwl fD hWE hbE
                refine wp_region_held_drew (S := fun w' => w'.cell? ⟨bO, 0, none⟩ = some (.func (.func 14) #[] #[ptr wb, ptr (wb + 2)])) (by kernel_rfl) (hWD ▸ cD) (fun hHeld => ?_)
                rw [hWD]
                rw [hWD] at hHeld
                refine take_l 1 (v := ?_) rfl (by kernel_rfl) (by kernel_rfl) (by kernel_rfl) (fun _ _ _ h => h) (Or.inl ⟨by rfl, ?_⟩) hHeld ?_
                rotate_left
                · (intro w hSw; (try dsimp only at hSw); go_simp; (try with_reducible rfl))
                simp only [Act.put, List.setIfInBounds_toArray, List.set_cons_zero, List.set_cons_succ]
                refine take_l 3 (v := ?_) rfl (by kernel_rfl) (by kernel_rfl) (by kernel_rfl) (fun _ _ _ h => h) (Or.inl ⟨by rfl, ?_⟩) hHeld ?_
                rotate_left
                · (intro w hSw; (try dsimp only at hSw); go_simp; (try with_reducible rfl))
                simp only [Act.put, List.setIfInBounds_toArray, List.set_cons_zero, List.set_cons_succ]
                refine take_l 4 (v := ?_) rfl (by kernel_rfl) (by kernel_rfl) (by kernel_rfl) (fun _ _ _ h => h) (Or.inl ⟨by rfl, ?_⟩) hHeld ?_
                rotate_left
                · (intro w hSw; (try dsimp only at hSw); go_simp; (try with_reducible rfl))
                simp only [Act.put, List.setIfInBounds_toArray, List.set_cons_zero, List.set_cons_succ]
                refine wpAnyH_ready (rs := [0]) (by kernel_rfl) (by simp) ?_
                refine AllReadyH.cons rfl (fun K hK => ?_) AllReadyH.nil
                go_simp
                rw [(unhide HBE).1, (unhide HBE).2]
                refine hK.out _ _ cE (fun _ => ?_)
                clear hK K
                refine wpAnyH_ready (rs := [2]) (by kernel_rfl) (by simp) ?_
                refine AllReadyH.cons rfl (fun K hK => ?_) AllReadyH.nil
                refine step_append_run rfl (.tmp 86) (.tmp 87) 22 rfl _ _ rfl rfl v8 w8 (unhide HAP8) ?_
                refine hK.out _ _ c8 (fun _ => ?_)
                clear hK K
                refine wpAnyH_ready (rs := [5]) (by kernel_rfl) (by simp) ?_
                refine AllReadyH.cons rfl (fun K hK => ?_) AllReadyH.nil
                go_simp
                go_wp2_with fail
                refine (unhide HOF).mono ?_
                rintro e w9 ⟨v9, rfl, o9, f9⟩
                obtain ⟨o8, F8, hwl, hFle, hb8⟩ := unhide H8W
                have c9 := f9.cell' c8 (fun x => x)
                have hbe9 : bE ≤ w9.heap.size := by
                  have := f9.size
                  omega
                obtain ⟨v10, w10, hap10, o10, f10, -⟩ := Own.cat Try.underlying22 22 w9 bE _ _ _ ([] ++ Fk) _ (o8.still f9 (fun _ _ x => x)) o9 (by simp; omega) hbe9
                have F10 : Still u2 w10 := (still_tr F8 f9).trans' f10 (fun q hq => .inr (by
                  have := (o8.lt q hq).1; have := (unhide HBE).1
                  have : u2.heap.size ≤ WD.heap.size := by rw [← hWD]; exact Nat.le_refl _
                  omega))
                have c10 := F10.cell' cO (fun x => x)
                simp only [List.nil_append] at o10
                obtain ⟨a10, k10, rfl⟩ := rows_form o10
                have RS10 := rising_ok a10 (Fk ++ webOf len1 L Z m).length k10 (Fk ++ webOf len1 L Z m) w10 o10.rds.1 rfl (by simp; omega)
                obtain ⟨l10, hl10⟩ : ∃ l, (Fk ++ webOf len1 L Z m).length = l := ⟨_, rfl⟩
                rw [hl10] at RS10 hap10
                have HRS10 := hide RS10; have HAP10 := hide hap10; have HF10 := hide F10; have HC10 := hide c10
                rw [hl10] at o10
                clear RS10 hap10 F10 o10 f10 o9 f9 o8 F8 hwl hFle hl10 c10 hbe9 hb8
                refine hK.out _ _ c9 (fun _ => ?_)
                clear hK K
                refine wpAnyH_ready (rs := [6]) (by kernel_rfl) (by simp) ?_
                refine AllReadyH.cons rfl (fun K hK => ?_) AllReadyH.nil
                refine step_append_run rfl (.tmp 88) (.tmp 91) 22 rfl _ _ rfl rfl _ w10 (unhide HAP10) ?_
                refine hK.out _ _ (unhide HC10) (fun _ => ?_)
                clear hK K
                refine wpAnyH_ready (rs := [7]) (by kernel_rfl) (by simp) ?_
                refine AllReadyH.cons rfl (fun K hK => ?_) AllReadyH.nil
                go_simp
                go_wp2_with fail
                refine (unhide HRS10).mono ?_
                rintro e w11 ⟨v11, rfl, o11, f11⟩
                obtain ⟨a11, k11, rfl⟩ := rows_form o11
                have H11 := hide (And.intro o11 f11)
                have c11 := f11.cell' (unhide HC10) (fun x => x)
                clear o11 f11
                refine hK.out _ _ c11 (fun _ => ?_)
                clear hK K
                refine wpAnyH_ready (rs := [8]) (by kernel_rfl) (by simp) ?_
                refine AllReadyH.cons rfl (fun K hK => ?_) AllReadyH.nil
                go_simp
                refine hK.out _ _ c11 (fun _ => ?_)
                clear hK K
                refine wpAnyH_done (by kernel_rfl) ?_ _
                go_wp2_with fail
                obtain ⟨_, _, _, _, _, _, _, i8, i9, i10, _⟩ := unhide HI
                obtain ⟨_, o2, hnn, f7u, _⟩ := unhide HU
                obtain ⟨o11, f11⟩ := unhide H11
                have F11 := still_tr (unhide HF10) f11
                have hxs := unhide HXS
                have s67 := (unhide H7).2.size
                have s7u := f7u.size
                have su10 := (unhide HF10).size
                refine ⟨⟨rfl, k', rise (Fk ++ webOf len1 L Z m), dk ++ [(m : Int)], a11, _, k11, pa, dn + 1, pq, rfl, rfl, hide ⟨?_, o11.from (by omega), rfl, o2.still F11 (fun _ _ x => x), hnn, still_tr f7u F11, rise_lt _, fun x hx => ?_, fun x hx => ?_, ?_, fun q hq e => ?_⟩⟩, by simp [lenOf]; omega⟩
                · have e := unhide HK
                  have hw : webF bad len1 L Z m = (webOf len1 L Z m, 0) := by unfold webF; rw [if_neg (unhide HB)]; rfl
                  rw [if_neg (by have := unhide HM; omega), hw, if_pos rfl] at e
                  exact e.symm
                · have h := (rise_mem _ x).1 hx
                  refine ⟨?_, h.2⟩
                  rcases List.mem_append.1 h.1 with h1 | h1
                  · exact (i8 x h1).1
                  · exact webOf_mem _ _ _ _ _ h1
                · refine (rise_mem _ x).2 ?_
                  rcases List.mem_append.1 hx with h1 | h1
                  · exact ⟨List.mem_append.2 (.inl (i9 x h1)), (i8 x (i9 x h1)).2⟩
                  · rw [List.mem_singleton] at h1
                    rw [h1]
                    exact ⟨List.mem_append.2 (.inl hxs.1), (i8 _ hxs.1).2⟩
                · rw [List.nodup_append]
                  exact ⟨i10, by simp, fun y hy z hz e2 => by simp at hz; subst hz; subst e2; exact hxs.2.1 hy⟩
                · have h1 := (o11.lt q hq).1
                  have h2 := (o2.lt q e).2
                  omega
    case rest =>
      obtain ⟨rfl, HT⟩ := hcut
      obtain ⟨f7, rd17, rv16⟩ := unhide HT
      obtain ⟨f06, hbA, oa, E6, og, on⟩ := unhide H6
      have f67 := (unhide H7).2
      have f6c := still_tr f67 f7
      have cA : wc.cell? ⟨bO + 1, 0, none⟩ = some va := cell_of_obj (f6c.obj hbA (fun x => x)) 0
      have hdl : d.length ≤ 1000000 := by
        obtain ⟨_, _, hFl, hFU, hdF, hdn⟩ := unhide HRun
        have h1 := nodup_len d F hdn hdF
        have h2 := nodup_len F wU (lt_nodup hFl) hFU
        simp [wU] at h2
        omega
      have hFle : F.length ≤ 1000000 := by
        obtain ⟨_, _, hFl, hFU, _, _⟩ := unhide HRun
        have h2 := nodup_len F wU (lt_nodup hFl) hFU
        simp [wU] at h2
        omega
      have SM := same_vb va _ d d true wc (oa.still f6c (fun _ _ x => x)).rv rd17 hdl (by simp)
      have HG := hide (And.intro (fun h : en = 0 => (og h).rv.still f6c) (And.intro on (And.intro rv16 (And.intro (still_tr f06 f6c) hFle))))
      have HSM := hide SM
      clear f7 rd17 rv16 f06 hbA oa E6 og on f67 f6c hdl hFle SM HT
      have hee : (en != en) = false := by simp
      by_cases he : en = 0
      · have he' : (en != 0) = false := by simp [he]
        have HE0 := hide he
        clear he
        go_wp2_with fail
        refine (unhide HSM).mono ?_
        rintro e w8 ⟨rfl, f8⟩
        obtain ⟨og, _, rv16, f0c, hFle⟩ := unhide HG
        have S2 := same_vb gv _ F F true w8 ((og (unhide HE0)).still f8) ((rv16 (unhide HE0)).still f8) hFle (by simp)
        have HS2 := hide S2; have F8 := hide (still_tr f0c f8)
        clear og rv16 f0c hFle S2 f8 HSM HG
        go_wp2_with fail
        refine (unhide HS2).mono ?_
        rintro e w9 ⟨rfl, f9⟩
        have AW := awake_ok w9
        have F9 := hide (still_tr (unhide F8) f9)
        clear f9 F8 HS2
        go_wp2_with fail
        refine AW.mono ?_
        rintro e wz ⟨rfl, fz⟩
        have FZ := hide (still_tr (unhide F9) fz)
        clear AW fz F9
        go_wp2
        go_ret
        exact ⟨rfl, (unhide FZ).bel⟩
      · have he' : (en != 0) = true := by simp [he]
        obtain rfl := (unhide HG).2.1 he
        clear he
        go_wp2_with fail
        refine (unhide HSM).mono ?_
        rintro e w8 ⟨rfl, f8⟩
        have AW := awake_ok w8
        have F8 := hide (still_tr (unhide HG).2.2.2.1 f8)
        clear f8 HSM HG
        have h00 : ((0 : Int) == 0) = true := rfl
        go_wp2_with fail
        refine AW.mono ?_
        rintro e wz ⟨rfl, fz⟩
        have FZ := hide (still_tr (unhide F8) fz)
        clear AW fz F8
        go_wp2
        go_ret
        exact ⟨rfl, (unhide FZ).bel⟩
end Go.Proofs.Ytkdehhmmcchgfaa
