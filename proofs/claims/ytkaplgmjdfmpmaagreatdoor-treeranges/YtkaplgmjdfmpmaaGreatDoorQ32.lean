/- Joined: Kr Kj. -/
import Derived.Test.YtkaplgmjdfmpmaaGreatDoorQ30
import Derived.Test.YtkaplgmjdfmpmaaGreatDoorQ31
namespace Go.Proofs.YtkaplgmjdfmpmaaGreatDoor
open Go.RowKit

section
def wthL (l : List Pr) (k j : Nat) (x : ByteArray) (v : Nat) (gone : Bool) : List Pr := l.take k ++ ((if gone then [] else [(x, v)]) ++ l.drop j)

set_option maxRecDepth 100000 in
set_option maxHeartbeats 4000000 in
theorem l11_with (a : Option Addr) (c : Nat) (l : List Pr) (x : ByteArray) (v k j : Nat) (gone : Bool) (w : World) (h : Lf w a c l) (hl : l.length ≤ 500) (hk : k ≤ l.length) (h1 : ∀ t, t < k → ltK (l.getD t default).1 x) (h2 : k < l.length → ¬ ltK (l.getD k default).1 x)
    (hj : j = if k < l.length ∧ (l.getD k default).1 = x then k + 1 else k) :
    Calls Tryz.prog 31 #[.slice a l.length c, .agg #[.string x, .int .u64 (v : Nat)], .bool gone] w fun e w' => ∃ u, e = .returned u ∧ w'.ownsRow w.heap.size 43 2 u (wthL l k j x v gone).length (pcl (wthL l k j x v gone)) ∧ Still w w' := by
  obtain ⟨g, hg⟩ : ∃ g, w.heap.size = g := ⟨_, rfl⟩
  obtain ⟨W0, hW0⟩ : ∃ W0, w.alloc (.cells #[.string x, .int .u64 (v : Nat)] 43) = W0 := ⟨_, rfl⟩
  have f0 : Still w W0 := hW0 ▸ (Fr.refl _ w).alloc _
  have z0 : W0.heap.size = g + 1 := by rw [← hW0]; simp [hg]
  have o0 : W0.heap[g]? = some (.cells #[.string x, .int .u64 (v : Nat)] 43 (0, 0)) := by rw [← hg, ← hW0]; exact heap_alloc_new w _
  have hjn : j ≤ l.length ∧ k ≤ j := by rw [hj]; split <;> omega
  have hcap := h.cap
  have sf := fun w => slice_fromZ elt_Q (by kernel_rfl) a l.length c j w hjn.1
  have HX := hide (And.intro (h.still f0) (And.intro f0 (And.intro o0 (And.intro h1 (And.intro h2 hj))))); have HW0 := hide hW0
  clear h f0 hW0 h1 h2 hj o0
  have e1 : ∀ gone, (wthL l k j x v gone).length = (if gone then k else k + 1) + (l.length - j) := fun gone => by
    cases gone <;> simp [wthL] <;> omega
  have e2 : ∀ gone, pcl (wthL l k j x v gone) = pcl (l.take k ++ (if gone then [] else [(x, v)])) ++ pcl (l.drop j) := fun gone => by
    rw [← pcl_app]; unfold wthL; rw [List.append_assoc]
  have HE := hide (And.intro e1 e2)
  clear e1 e2
  cases gone
  · go_enter Tryz.func31, Tryz.ntmps31
    go_wp2_with fail
    rw [unhide HW0]
    go_loopw [7, 8] (fun u iv wr => ∃ r : Nat, r ≤ k ∧ iv = .int .i64 r ∧ wr.ownsRow (g + 1) 43 2 u r (pcl (l.take r)) ∧ Still W0 wr) (fun _ iv _ => l.length - (intOf iv).toNat)
    case atStart => exact ⟨0, by omega, rfl, World.ownsRow_nil _ _ _ _, Fr.refl _ _⟩
    case round =>
      obtain ⟨r, hrk, rfl, hrow, fr⟩ := hrel
      generalize wr = wq at *
      clear wr
      obtain ⟨h, f0, o0, h1, h2, hj⟩ := unhide HX
      have c0 : wq.cell? ⟨g, 0, none⟩ = some (.string x) := fr.cell' (cell_of_obj o0 0) (fun x => x)
      have c00 : wq.cell? ⟨g, 1, none⟩ = some (.int .u64 (v : Nat)) := fr.cell' (cell_of_obj o0 1) (fun x => x)
      by_cases hlt : r < k
      · skip
        obtain ⟨p, hp⟩ : ∃ p, l[r]? = some p := ⟨_, List.getElem?_eq_getElem (by omega)⟩
        obtain ⟨b, o, rfl, c1, c2⟩ := h.pair hp
        replace c1 := fr.cell' c1 (fun x => x)
        replace c2 := fr.cell' c2 (fun x => x)
        have lx : Op.bytesLess p.1.toList x.toList = true := by
          rw [less_eq]
          exact decide_eq_true (by have := h1 r hlt; simpa [List.getD, hp] using this)
        have hlt' : ((r : Int) < l.length) = True := by simp; omega
        have HF := hide (And.intro hrow (And.intro fr hp))
        clear h f0 o0 h1 h2 hj hrow fr hp
        go_wp2_with fail
        refine region_tailP 13 (by kernel_rfl) (by kernel_rfl) ?_
        simp only [List.take_succ_cons, List.take_zero, List.drop_succ_cons, List.drop_zero]
        repeat (go_big_quiet_step (fail))
        refine wpQuiet_nil ?_
        rintro _ ⟨nq, rfl⟩
        obtain ⟨hrow, fr, hp⟩ := unhide HF
        obtain ⟨Wd, hWd⟩ : ∃ Wd, wq.drewN nq = Wd := ⟨_, rfl⟩
        have fd : Still wq Wd := hWd ▸ (Fr.refl _ wq).drewN nq
        rw [hWd]
        replace c1 := fd.cell' c1 (fun x => x)
        replace c2 := fd.cell' c2 (fun x => x)
        obtain ⟨W1, hW1⟩ : ∃ W1, Wd.alloc (.cells #[.string p.1, .int .u64 (p.2 : Nat)] 43) = W1 := ⟨_, rfl⟩
        have f1 : Still Wd W1 := hW1 ▸ (Fr.refl _ Wd).alloc _
        obtain ⟨u', w2, hap, hw2, hgr, hloc⟩ := run_more elt_Q 33 (own_still (own_still hrow fd) f1) (sl_pair Wd W1 p hW1) (by omega) (by have := fr.size; have := fd.size; have := f1.size; omega)
        have ht : pcl (l.take (r + 1)) = pcl (l.take r) ++ pcl [p] := by
          rw [List.take_add_one, hp, pcl_app]; rfl
        have HZ := hide (show w2.ownsRow (g + 1) 43 2 u' (r + 1) (pcl (l.take (r + 1))) ∧ Still W0 w2 from ⟨by rw [ht]; exact hw2, ((fr.trans' fd (fun _ x => x.elim)).trans' f1 (fun _ x => x.elim)).grown hgr (fun k hk => .inr (by have := (hrow.lt k hk).1; omega))⟩)
        have HAP := hide hap; have HW1 := hide hW1
        clear hap hw2 hgr hloc ht f1 hW1 fd hWd hrow fr hp c0 c00 lx
        go_wp2_with (first | (at_builtin; rw [unhide HW1]; refine wpList_append_run rfl (.tmp 23) (.tmp 28) 33 rfl _ _ rfl rfl u' w2 (unhide HAP) ?_) | fail)
        obtain ⟨hw2, f2⟩ := unhide HZ
        exact ⟨⟨r + 1, by omega, by simp, hw2, f2⟩, by simp [intOf]; omega⟩
      · skip
        have erk : r = k := by omega
        subst erk
        by_cases hkl : r < l.length
        · obtain ⟨p, hp⟩ : ∃ p, l[r]? = some p := ⟨_, List.getElem?_eq_getElem (by omega)⟩
          have ep : l.getD r default = p := by simp [List.getD, hp]
          rw [ep] at hj
          have hnl := h2 hkl
          rw [ep] at hnl
          have lx : Op.bytesLess p.1.toList x.toList = false := by rw [less_eq]; exact decide_eq_false hnl
          have hlt' : ((r : Int) < l.length) = True := by simp; omega
          obtain ⟨b, o, rfl, k1, k2⟩ := h.pair hp
          have c1 := fr.cell' k1 (fun x => x)
          by_cases hx : p.1 = x
          · have hj' : j = r + 1 := by rw [hj, if_pos ⟨hkl, hx⟩]
            subst hj'
            have sl := fun w => (show (Instr.slice 33 (.slice (some ⟨b, o, none⟩) l.length c) (some (.int .i64 ((r : Int) + 1))) none none).run Tryz.prog w = _ from sf w)
            have hq : (p.1.toList == x.toList) = true := by rw [hx]; simp
            clear hp ep hnl hx k2 sf
            have HF := hide (And.intro hrow (And.intro fr (And.intro h o0)))
            clear h f0 o0 h1 h2 hj hrow fr
            go_wp2_with fail
            refine region_tailP 13 (by kernel_rfl) (by kernel_rfl) ?_
            simp only [List.take_succ_cons, List.take_zero, List.drop_succ_cons, List.drop_zero]
            repeat (go_big_quiet_step (fail))
            refine wpQuiet_nil ?_
            rintro _ ⟨nq, rfl⟩
            obtain ⟨hrow, fr, h, o0⟩ := unhide HF
            obtain ⟨Wd, hWd⟩ : ∃ Wd, wq.drewN nq = Wd := ⟨_, rfl⟩
            have fd : Still wq Wd := hWd ▸ (Fr.refl _ wq).drewN nq
            rw [hWd]
            have fWd : Still W0 Wd := fr.trans' fd (fun _ x => x.elim)
            replace c0 := fd.cell' c0 (fun x => x)
            replace c00 := fd.cell' c00 (fun x => x)
            obtain ⟨W1, hW1⟩ : ∃ W1, Wd.alloc (.cells #[.string x, .int .u64 (v : Nat)] 43) = W1 := ⟨_, rfl⟩
            have f1 : Still Wd W1 := hW1 ▸ (Fr.refl _ Wd).alloc _
            obtain ⟨u', w2, hap, hw2, hgr, hloc⟩ := run_more elt_Q 33 (own_still (own_still hrow fd) f1) (sl_pair Wd W1 (x, v) hW1) (by omega) (by have := fWd.size; have := f1.size; omega)
            have fw2 : Still W0 w2 := (fWd.trans' f1 (fun _ x => x.elim)).grown hgr (fun k hk => .inr (by have := (hrow.lt k hk).1; omega))
            have HM := hide (show w2.ownsRow (g + 1) 43 2 u' (r + 1) (pcl (l.take r ++ [(x, v)])) ∧ Still W0 w2 ∧ Lf W0 _ c l from ⟨by rw [pcl_app]; exact hw2, fw2, h⟩)
            have c1' := fw2.cell' k1 (fun x => x)
            have c0' := fw2.cell' (cell_of_obj o0 0) (fun x => x)
            have HAP := hide hap; have HW1 := hide hW1
            clear hap hw2 hgr hloc f1 fw2 hW1 fd fWd hWd hrow fr h o0 HF
            go_wp2_with (first | (at_builtin; rw [unhide HW1]; refine wpList_append_run rfl (.tmp 34) (.tmp 36) 33 rfl _ _ rfl rfl u' w2 (unhide HAP) ?_) | fail)
            refine region_tailP 13 (by kernel_rfl) (by kernel_rfl) ?_
            simp only [List.take_succ_cons, List.take_zero, List.drop_succ_cons, List.drop_zero]
            repeat (go_big_quiet_step (fail))
            refine wpQuiet_nil ?_
            rintro _ ⟨nq2, rfl⟩
            obtain ⟨Wx, hWx⟩ : ∃ Wx, w2.drewN nq2 = Wx := ⟨_, rfl⟩
            have fx : Still w2 Wx := hWx ▸ (Fr.refl _ w2).drewN nq2
            rw [hWx]
            obtain ⟨hrm0, fm0, S⟩ := unhide HM
            have hrm := own_still hrm0 fx
            have fm := fm0.trans' fx (fun _ x => x.elim)
            have Sd := (S.still fm).drop _ hjn.1
            rw [pcl_drop] at Sd
            obtain ⟨u3, w3, hap3, hw3, hgr3, hloc3⟩ := run_more elt_Q 33 hrm Sd (by omega) (by have := fm.size; omega)
            have HAP3 := hide hap3
            have HZ := hide (show w3.ownsRow g 43 2 u3 _ _ ∧ Still W0 w3 from ⟨own_lo hw3 (by omega), fm.grown hgr3 (fun k hk => .inr (by have := (hrm.lt k hk).1; omega))⟩)
            clear hrm hrm0 fm fm0 S Sd hap3 hw3 hgr3 hloc3 HM fx hWx
            go_wp2_with (first | (at_builtin; refine wpList_append_run rfl (.tmp 54) (.tmp 57) 33 rfl _ _ rfl rfl u3 w3 (unhide HAP3) ?_) | fail)
            go_ret
            obtain ⟨hw3, f3⟩ := unhide HZ
            obtain ⟨e1, e2⟩ := unhide HE
            refine ⟨_, rfl, ?_, (unhide HX).2.1.trans' f3 (fun _ x => x.elim)⟩
            rw [e1, e2, hg]
            exact hw3
          · have hj' : r = j := by rw [hj, if_neg (fun e => hx e.2)]
            subst hj'
            have hq : (p.1.toList == x.toList) = false := by
              simp only [beq_eq_false_iff_ne, ne_eq, Lib.toList_data]
              exact fun e => hx (bytes_ext e)
            clear hp ep hnl hx k2
            have HF := hide (And.intro hrow (And.intro fr (And.intro h o0)))
            clear h f0 o0 h1 h2 hj hrow fr
            go_wp2_with fail
            refine region_tailP 13 (by kernel_rfl) (by kernel_rfl) ?_
            simp only [List.take_succ_cons, List.take_zero, List.drop_succ_cons, List.drop_zero]
            repeat (go_big_quiet_step (fail))
            refine wpQuiet_nil ?_
            rintro _ ⟨nq, rfl⟩
            obtain ⟨hrow, fr, h, o0⟩ := unhide HF
            obtain ⟨Wd, hWd⟩ : ∃ Wd, wq.drewN nq = Wd := ⟨_, rfl⟩
            have fd : Still wq Wd := hWd ▸ (Fr.refl _ wq).drewN nq
            rw [hWd]
            have fWd : Still W0 Wd := fr.trans' fd (fun _ x => x.elim)
            replace c0 := fd.cell' c0 (fun x => x)
            replace c00 := fd.cell' c00 (fun x => x)
            obtain ⟨W1, hW1⟩ : ∃ W1, Wd.alloc (.cells #[.string x, .int .u64 (v : Nat)] 43) = W1 := ⟨_, rfl⟩
            have f1 : Still Wd W1 := hW1 ▸ (Fr.refl _ Wd).alloc _
            obtain ⟨u', w2, hap, hw2, hgr, hloc⟩ := run_more elt_Q 33 (own_still (own_still hrow fd) f1) (sl_pair Wd W1 (x, v) hW1) (by omega) (by have := fWd.size; have := f1.size; omega)
            have fw2 : Still W0 w2 := (fWd.trans' f1 (fun _ x => x.elim)).grown hgr (fun k hk => .inr (by have := (hrow.lt k hk).1; omega))
            have HM := hide (show w2.ownsRow (g + 1) 43 2 u' (r + 1) (pcl (l.take r ++ [(x, v)])) ∧ Still W0 w2 ∧ Lf W0 _ c l from ⟨by rw [pcl_app]; exact hw2, fw2, h⟩)
            have c1' := fw2.cell' k1 (fun x => x)
            have c0' := fw2.cell' (cell_of_obj o0 0) (fun x => x)
            have HAP := hide hap; have HW1 := hide hW1
            clear hap hw2 hgr hloc f1 fw2 hW1 fd fWd hWd hrow fr h o0 HF
            go_wp2_with (first | (at_builtin; rw [unhide HW1]; refine wpList_append_run rfl (.tmp 34) (.tmp 36) 33 rfl _ _ rfl rfl u' w2 (unhide HAP) ?_) | fail)
            refine region_tailP 13 (by kernel_rfl) (by kernel_rfl) ?_
            simp only [List.take_succ_cons, List.take_zero, List.drop_succ_cons, List.drop_zero]
            repeat (go_big_quiet_step (fail))
            refine wpQuiet_nil ?_
            rintro _ ⟨nq2, rfl⟩
            obtain ⟨Wx, hWx⟩ : ∃ Wx, w2.drewN nq2 = Wx := ⟨_, rfl⟩
            have fx : Still w2 Wx := hWx ▸ (Fr.refl _ w2).drewN nq2
            rw [hWx]
            obtain ⟨hrm0, fm0, S⟩ := unhide HM
            have hrm := own_still hrm0 fx
            have fm := fm0.trans' fx (fun _ x => x.elim)
            have Sd := (S.still fm).drop _ hjn.1
            rw [pcl_drop] at Sd
            obtain ⟨u3, w3, hap3, hw3, hgr3, hloc3⟩ := run_more elt_Q 33 hrm Sd (by omega) (by have := fm.size; omega)
            have HAP3 := hide hap3
            have HZ := hide (show w3.ownsRow g 43 2 u3 _ _ ∧ Still W0 w3 from ⟨own_lo hw3 (by omega), fm.grown hgr3 (fun k hk => .inr (by have := (hrm.lt k hk).1; omega))⟩)
            clear hrm hrm0 fm fm0 S Sd hap3 hw3 hgr3 hloc3 HM fx hWx
            go_wp2_with (first | (at_builtin; refine wpList_append_run rfl (.tmp 54) (.tmp 57) 33 rfl _ _ rfl rfl u3 w3 (unhide HAP3) ?_) | fail)
            go_ret
            obtain ⟨hw3, f3⟩ := unhide HZ
            obtain ⟨e1, e2⟩ := unhide HE
            refine ⟨_, rfl, ?_, (unhide HX).2.1.trans' f3 (fun _ x => x.elim)⟩
            rw [e1, e2, hg]
            exact hw3
        · have hj' : r = j := by rw [hj, if_neg (fun e => hkl e.1)]
          subst hj'
          have hlt' : ((r : Int) < l.length) = False := by simp; omega
          have HF := hide (And.intro hrow (And.intro fr (And.intro h o0)))
          clear h f0 o0 h1 h2 hj hrow fr
          go_wp2_with fail
          refine region_tailP 13 (by kernel_rfl) (by kernel_rfl) ?_
          simp only [List.take_succ_cons, List.take_zero, List.drop_succ_cons, List.drop_zero]
          repeat (go_big_quiet_step (fail))
          refine wpQuiet_nil ?_
          rintro _ ⟨nq, rfl⟩
          obtain ⟨hrow, fr, h, o0⟩ := unhide HF
          obtain ⟨Wd, hWd⟩ : ∃ Wd, wq.drewN nq = Wd := ⟨_, rfl⟩
          have fd : Still wq Wd := hWd ▸ (Fr.refl _ wq).drewN nq
          rw [hWd]
          have fWd : Still W0 Wd := fr.trans' fd (fun _ x => x.elim)
          replace c0 := fd.cell' c0 (fun x => x)
          replace c00 := fd.cell' c00 (fun x => x)
          obtain ⟨W1, hW1⟩ : ∃ W1, Wd.alloc (.cells #[.string x, .int .u64 (v : Nat)] 43) = W1 := ⟨_, rfl⟩
          have f1 : Still Wd W1 := hW1 ▸ (Fr.refl _ Wd).alloc _
          obtain ⟨u', w2, hap, hw2, hgr, hloc⟩ := run_more elt_Q 33 (own_still (own_still hrow fd) f1) (sl_pair Wd W1 (x, v) hW1) (by omega) (by have := fWd.size; have := f1.size; omega)
          have fw2 : Still W0 w2 := (fWd.trans' f1 (fun _ x => x.elim)).grown hgr (fun k hk => .inr (by have := (hrow.lt k hk).1; omega))
          have HM := hide (show w2.ownsRow (g + 1) 43 2 u' (r + 1) (pcl (l.take r ++ [(x, v)])) ∧ Still W0 w2 ∧ Lf W0 _ c l from ⟨by rw [pcl_app]; exact hw2, fw2, h⟩)
          skip
          have c0' := fw2.cell' (cell_of_obj o0 0) (fun x => x)
          have HAP := hide hap; have HW1 := hide hW1
          clear hap hw2 hgr hloc f1 fw2 hW1 fd fWd hWd hrow fr h o0 HF
          go_wp2_with (first | (at_builtin; rw [unhide HW1]; refine wpList_append_run rfl (.tmp 34) (.tmp 36) 33 rfl _ _ rfl rfl u' w2 (unhide HAP) ?_) | fail)
          refine region_tailP 13 (by kernel_rfl) (by kernel_rfl) ?_
          simp only [List.take_succ_cons, List.take_zero, List.drop_succ_cons, List.drop_zero]
          repeat (go_big_quiet_step (fail))
          refine wpQuiet_nil ?_
          rintro _ ⟨nq2, rfl⟩
          obtain ⟨Wx, hWx⟩ : ∃ Wx, w2.drewN nq2 = Wx := ⟨_, rfl⟩
          have fx : Still w2 Wx := hWx ▸ (Fr.refl _ w2).drewN nq2
          rw [hWx]
          obtain ⟨hrm0, fm0, S⟩ := unhide HM
          have hrm := own_still hrm0 fx
          have fm := fm0.trans' fx (fun _ x => x.elim)
          have Sd := (S.still fm).drop _ hjn.1
          rw [pcl_drop] at Sd
          obtain ⟨u3, w3, hap3, hw3, hgr3, hloc3⟩ := run_more elt_Q 33 hrm Sd (by omega) (by have := fm.size; omega)
          have HAP3 := hide hap3
          have HZ := hide (show w3.ownsRow g 43 2 u3 _ _ ∧ Still W0 w3 from ⟨own_lo hw3 (by omega), fm.grown hgr3 (fun k hk => .inr (by have := (hrm.lt k hk).1; omega))⟩)
          clear hrm hrm0 fm fm0 S Sd hap3 hw3 hgr3 hloc3 HM fx hWx
          go_wp2_with (first | (at_builtin; refine wpList_append_run rfl (.tmp 54) (.tmp 57) 33 rfl _ _ rfl rfl u3 w3 (unhide HAP3) ?_) | fail)
          go_ret
          obtain ⟨hw3, f3⟩ := unhide HZ
          obtain ⟨e1, e2⟩ := unhide HE
          refine ⟨_, rfl, ?_, (unhide HX).2.1.trans' f3 (fun _ x => x.elim)⟩
          rw [e1, e2, hg]
          exact hw3
  · go_enter Tryz.func31, Tryz.ntmps31
    go_wp2_with fail
    rw [unhide HW0]
    go_loopw [7, 8] (fun u iv wr => ∃ r : Nat, r ≤ k ∧ iv = .int .i64 r ∧ wr.ownsRow (g + 1) 43 2 u r (pcl (l.take r)) ∧ Still W0 wr) (fun _ iv _ => l.length - (intOf iv).toNat)
    case atStart => exact ⟨0, by omega, rfl, World.ownsRow_nil _ _ _ _, Fr.refl _ _⟩
    case round =>
      obtain ⟨r, hrk, rfl, hrow, fr⟩ := hrel
      generalize wr = wq at *
      clear wr
      obtain ⟨h, f0, o0, h1, h2, hj⟩ := unhide HX
      have c0 : wq.cell? ⟨g, 0, none⟩ = some (.string x) := fr.cell' (cell_of_obj o0 0) (fun x => x)
      have c00 : wq.cell? ⟨g, 1, none⟩ = some (.int .u64 (v : Nat)) := fr.cell' (cell_of_obj o0 1) (fun x => x)
      by_cases hlt : r < k
      · skip
        obtain ⟨p, hp⟩ : ∃ p, l[r]? = some p := ⟨_, List.getElem?_eq_getElem (by omega)⟩
        obtain ⟨b, o, rfl, c1, c2⟩ := h.pair hp
        replace c1 := fr.cell' c1 (fun x => x)
        replace c2 := fr.cell' c2 (fun x => x)
        have lx : Op.bytesLess p.1.toList x.toList = true := by
          rw [less_eq]
          exact decide_eq_true (by have := h1 r hlt; simpa [List.getD, hp] using this)
        have hlt' : ((r : Int) < l.length) = True := by simp; omega
        have HF := hide (And.intro hrow (And.intro fr hp))
        clear h f0 o0 h1 h2 hj hrow fr hp
        go_wp2_with fail
        refine region_tailP 13 (by kernel_rfl) (by kernel_rfl) ?_
        simp only [List.take_succ_cons, List.take_zero, List.drop_succ_cons, List.drop_zero]
        repeat (go_big_quiet_step (fail))
        refine wpQuiet_nil ?_
        rintro _ ⟨nq, rfl⟩
        obtain ⟨hrow, fr, hp⟩ := unhide HF
        obtain ⟨Wd, hWd⟩ : ∃ Wd, wq.drewN nq = Wd := ⟨_, rfl⟩
        have fd : Still wq Wd := hWd ▸ (Fr.refl _ wq).drewN nq
        rw [hWd]
        replace c1 := fd.cell' c1 (fun x => x)
        replace c2 := fd.cell' c2 (fun x => x)
        obtain ⟨W1, hW1⟩ : ∃ W1, Wd.alloc (.cells #[.string p.1, .int .u64 (p.2 : Nat)] 43) = W1 := ⟨_, rfl⟩
        have f1 : Still Wd W1 := hW1 ▸ (Fr.refl _ Wd).alloc _
        obtain ⟨u', w2, hap, hw2, hgr, hloc⟩ := run_more elt_Q 33 (own_still (own_still hrow fd) f1) (sl_pair Wd W1 p hW1) (by omega) (by have := fr.size; have := fd.size; have := f1.size; omega)
        have ht : pcl (l.take (r + 1)) = pcl (l.take r) ++ pcl [p] := by
          rw [List.take_add_one, hp, pcl_app]; rfl
        have HZ := hide (show w2.ownsRow (g + 1) 43 2 u' (r + 1) (pcl (l.take (r + 1))) ∧ Still W0 w2 from ⟨by rw [ht]; exact hw2, ((fr.trans' fd (fun _ x => x.elim)).trans' f1 (fun _ x => x.elim)).grown hgr (fun k hk => .inr (by have := (hrow.lt k hk).1; omega))⟩)
        have HAP := hide hap; have HW1 := hide hW1
        clear hap hw2 hgr hloc ht f1 hW1 fd hWd hrow fr hp c0 c00 lx
        go_wp2_with (first | (at_builtin; rw [unhide HW1]; refine wpList_append_run rfl (.tmp 23) (.tmp 28) 33 rfl _ _ rfl rfl u' w2 (unhide HAP) ?_) | fail)
        obtain ⟨hw2, f2⟩ := unhide HZ
        exact ⟨⟨r + 1, by omega, by simp, hw2, f2⟩, by simp [intOf]; omega⟩
      · skip
        have erk : r = k := by omega
        subst erk
        by_cases hkl : r < l.length
        · obtain ⟨p, hp⟩ : ∃ p, l[r]? = some p := ⟨_, List.getElem?_eq_getElem (by omega)⟩
          have ep : l.getD r default = p := by simp [List.getD, hp]
          rw [ep] at hj
          have hnl := h2 hkl
          rw [ep] at hnl
          have lx : Op.bytesLess p.1.toList x.toList = false := by rw [less_eq]; exact decide_eq_false hnl
          have hlt' : ((r : Int) < l.length) = True := by simp; omega
          obtain ⟨b, o, rfl, k1, k2⟩ := h.pair hp
          have c1 := fr.cell' k1 (fun x => x)
          by_cases hx : p.1 = x
          · have hj' : j = r + 1 := by rw [hj, if_pos ⟨hkl, hx⟩]
            subst hj'
            have sl := fun w => (show (Instr.slice 33 (.slice (some ⟨b, o, none⟩) l.length c) (some (.int .i64 ((r : Int) + 1))) none none).run Tryz.prog w = _ from sf w)
            have hq : (p.1.toList == x.toList) = true := by rw [hx]; simp
            clear hp ep hnl hx k2 sf
            have HF := hide (And.intro hrow (And.intro fr (And.intro h o0)))
            clear h f0 o0 h1 h2 hj hrow fr
            go_wp2_with fail
            refine region_tailP 13 (by kernel_rfl) (by kernel_rfl) ?_
            simp only [List.take_succ_cons, List.take_zero, List.drop_succ_cons, List.drop_zero]
            repeat (go_big_quiet_step (fail))
            refine wpQuiet_nil ?_
            rintro _ ⟨nq, rfl⟩
            obtain ⟨hrow, fr, h, o0⟩ := unhide HF
            obtain ⟨Wd, hWd⟩ : ∃ Wd, wq.drewN nq = Wd := ⟨_, rfl⟩
            have fd : Still wq Wd := hWd ▸ (Fr.refl _ wq).drewN nq
            rw [hWd]
            have fWd : Still W0 Wd := fr.trans' fd (fun _ x => x.elim)
            have HM := hide (show Wd.ownsRow (g + 1) 43 2 _ r (pcl (l.take r ++ [])) ∧ Still W0 Wd ∧ Lf W0 _ c l from ⟨by rw [List.append_nil]; exact own_still hrow fd, fWd, h⟩)
            have c1' := fWd.cell' k1 (fun x => x)
            have c0' := fWd.cell' (cell_of_obj o0 0) (fun x => x)
            clear fd fWd hWd hrow fr h o0 HF c00
            go_wp2_with fail
            refine region_tailP 13 (by kernel_rfl) (by kernel_rfl) ?_
            simp only [List.take_succ_cons, List.take_zero, List.drop_succ_cons, List.drop_zero]
            repeat (go_big_quiet_step (fail))
            refine wpQuiet_nil ?_
            rintro _ ⟨nq2, rfl⟩
            obtain ⟨Wx, hWx⟩ : ∃ Wx, Wd.drewN nq2 = Wx := ⟨_, rfl⟩
            have fx : Still Wd Wx := hWx ▸ (Fr.refl _ Wd).drewN nq2
            rw [hWx]
            obtain ⟨hrm0, fm0, S⟩ := unhide HM
            have hrm := own_still hrm0 fx
            have fm := fm0.trans' fx (fun _ x => x.elim)
            have Sd := (S.still fm).drop _ hjn.1
            rw [pcl_drop] at Sd
            obtain ⟨u3, w3, hap3, hw3, hgr3, hloc3⟩ := run_more elt_Q 33 hrm Sd (by omega) (by have := fm.size; omega)
            have HAP3 := hide hap3
            have HZ := hide (show w3.ownsRow g 43 2 u3 _ _ ∧ Still W0 w3 from ⟨own_lo hw3 (by omega), fm.grown hgr3 (fun k hk => .inr (by have := (hrm.lt k hk).1; omega))⟩)
            clear hrm hrm0 fm fm0 S Sd hap3 hw3 hgr3 hloc3 HM fx hWx
            go_wp2_with (first | (at_builtin; refine wpList_append_run rfl (.tmp 54) (.tmp 57) 33 rfl _ _ rfl rfl u3 w3 (unhide HAP3) ?_) | fail)
            go_ret
            obtain ⟨hw3, f3⟩ := unhide HZ
            obtain ⟨e1, e2⟩ := unhide HE
            refine ⟨_, rfl, ?_, (unhide HX).2.1.trans' f3 (fun _ x => x.elim)⟩
            rw [e1, e2, hg]
            exact hw3
          · have hj' : r = j := by rw [hj, if_neg (fun e => hx e.2)]
            subst hj'
            have hq : (p.1.toList == x.toList) = false := by
              simp only [beq_eq_false_iff_ne, ne_eq, Lib.toList_data]
              exact fun e => hx (bytes_ext e)
            clear hp ep hnl hx k2
            have HF := hide (And.intro hrow (And.intro fr (And.intro h o0)))
            clear h f0 o0 h1 h2 hj hrow fr
            go_wp2_with fail
            refine region_tailP 13 (by kernel_rfl) (by kernel_rfl) ?_
            simp only [List.take_succ_cons, List.take_zero, List.drop_succ_cons, List.drop_zero]
            repeat (go_big_quiet_step (fail))
            refine wpQuiet_nil ?_
            rintro _ ⟨nq, rfl⟩
            obtain ⟨hrow, fr, h, o0⟩ := unhide HF
            obtain ⟨Wd, hWd⟩ : ∃ Wd, wq.drewN nq = Wd := ⟨_, rfl⟩
            have fd : Still wq Wd := hWd ▸ (Fr.refl _ wq).drewN nq
            rw [hWd]
            have fWd : Still W0 Wd := fr.trans' fd (fun _ x => x.elim)
            have HM := hide (show Wd.ownsRow (g + 1) 43 2 _ r (pcl (l.take r ++ [])) ∧ Still W0 Wd ∧ Lf W0 _ c l from ⟨by rw [List.append_nil]; exact own_still hrow fd, fWd, h⟩)
            have c1' := fWd.cell' k1 (fun x => x)
            have c0' := fWd.cell' (cell_of_obj o0 0) (fun x => x)
            clear fd fWd hWd hrow fr h o0 HF c00
            go_wp2_with fail
            refine region_tailP 13 (by kernel_rfl) (by kernel_rfl) ?_
            simp only [List.take_succ_cons, List.take_zero, List.drop_succ_cons, List.drop_zero]
            repeat (go_big_quiet_step (fail))
            refine wpQuiet_nil ?_
            rintro _ ⟨nq2, rfl⟩
            obtain ⟨Wx, hWx⟩ : ∃ Wx, Wd.drewN nq2 = Wx := ⟨_, rfl⟩
            have fx : Still Wd Wx := hWx ▸ (Fr.refl _ Wd).drewN nq2
            rw [hWx]
            obtain ⟨hrm0, fm0, S⟩ := unhide HM
            have hrm := own_still hrm0 fx
            have fm := fm0.trans' fx (fun _ x => x.elim)
            have Sd := (S.still fm).drop _ hjn.1
            rw [pcl_drop] at Sd
            obtain ⟨u3, w3, hap3, hw3, hgr3, hloc3⟩ := run_more elt_Q 33 hrm Sd (by omega) (by have := fm.size; omega)
            have HAP3 := hide hap3
            have HZ := hide (show w3.ownsRow g 43 2 u3 _ _ ∧ Still W0 w3 from ⟨own_lo hw3 (by omega), fm.grown hgr3 (fun k hk => .inr (by have := (hrm.lt k hk).1; omega))⟩)
            clear hrm hrm0 fm fm0 S Sd hap3 hw3 hgr3 hloc3 HM fx hWx
            go_wp2_with (first | (at_builtin; refine wpList_append_run rfl (.tmp 54) (.tmp 57) 33 rfl _ _ rfl rfl u3 w3 (unhide HAP3) ?_) | fail)
            go_ret
            obtain ⟨hw3, f3⟩ := unhide HZ
            obtain ⟨e1, e2⟩ := unhide HE
            refine ⟨_, rfl, ?_, (unhide HX).2.1.trans' f3 (fun _ x => x.elim)⟩
            rw [e1, e2, hg]
            exact hw3
        · have hj' : r = j := by rw [hj, if_neg (fun e => hkl e.1)]
          subst hj'
          have hlt' : ((r : Int) < l.length) = False := by simp; omega
          have HF := hide (And.intro hrow (And.intro fr (And.intro h o0)))
          clear h f0 o0 h1 h2 hj hrow fr
          go_wp2_with fail
          refine region_tailP 13 (by kernel_rfl) (by kernel_rfl) ?_
          simp only [List.take_succ_cons, List.take_zero, List.drop_succ_cons, List.drop_zero]
          repeat (go_big_quiet_step (fail))
          refine wpQuiet_nil ?_
          rintro _ ⟨nq, rfl⟩
          obtain ⟨hrow, fr, h, o0⟩ := unhide HF
          obtain ⟨Wd, hWd⟩ : ∃ Wd, wq.drewN nq = Wd := ⟨_, rfl⟩
          have fd : Still wq Wd := hWd ▸ (Fr.refl _ wq).drewN nq
          rw [hWd]
          have fWd : Still W0 Wd := fr.trans' fd (fun _ x => x.elim)
          have HM := hide (show Wd.ownsRow (g + 1) 43 2 _ r (pcl (l.take r ++ [])) ∧ Still W0 Wd ∧ Lf W0 _ c l from ⟨by rw [List.append_nil]; exact own_still hrow fd, fWd, h⟩)
          skip
          have c0' := fWd.cell' (cell_of_obj o0 0) (fun x => x)
          clear fd fWd hWd hrow fr h o0 HF c00
          go_wp2_with fail
          refine region_tailP 13 (by kernel_rfl) (by kernel_rfl) ?_
          simp only [List.take_succ_cons, List.take_zero, List.drop_succ_cons, List.drop_zero]
          repeat (go_big_quiet_step (fail))
          refine wpQuiet_nil ?_
          rintro _ ⟨nq2, rfl⟩
          obtain ⟨Wx, hWx⟩ : ∃ Wx, Wd.drewN nq2 = Wx := ⟨_, rfl⟩
          have fx : Still Wd Wx := hWx ▸ (Fr.refl _ Wd).drewN nq2
          rw [hWx]
          obtain ⟨hrm0, fm0, S⟩ := unhide HM
          have hrm := own_still hrm0 fx
          have fm := fm0.trans' fx (fun _ x => x.elim)
          have Sd := (S.still fm).drop _ hjn.1
          rw [pcl_drop] at Sd
          obtain ⟨u3, w3, hap3, hw3, hgr3, hloc3⟩ := run_more elt_Q 33 hrm Sd (by omega) (by have := fm.size; omega)
          have HAP3 := hide hap3
          have HZ := hide (show w3.ownsRow g 43 2 u3 _ _ ∧ Still W0 w3 from ⟨own_lo hw3 (by omega), fm.grown hgr3 (fun k hk => .inr (by have := (hrm.lt k hk).1; omega))⟩)
          clear hrm hrm0 fm fm0 S Sd hap3 hw3 hgr3 hloc3 HM fx hWx
          go_wp2_with (first | (at_builtin; refine wpList_append_run rfl (.tmp 54) (.tmp 57) 33 rfl _ _ rfl rfl u3 w3 (unhide HAP3) ?_) | fail)
          go_ret
          obtain ⟨hw3, f3⟩ := unhide HZ
          obtain ⟨e1, e2⟩ := unhide HE
          refine ⟨_, rfl, ?_, (unhide HX).2.1.trans' f3 (fun _ x => x.elim)⟩
          rw [e1, e2, hg]
          exact hw3

set_option maxRecDepth 100000 in
set_option maxHeartbeats 2000000 in
theorem l11_same (a b : Option Addr) (c d : Nat) (l : List Pr) (w : World) (h : Lf w a c l) (h' : Lf w b d l) (hl : l.length ≤ 100000) :
    Calls Tryz.prog 32 #[.slice a l.length c, .slice b l.length d] w fun e w' => e = .returned (.bool true) ∧ Still w w' := by
  have e2 := ne_self
  have HX := hide (And.intro h h')
  clear h h'
  go_enter Tryz.func32, Tryz.ntmps32
  go_wp2_with fail
  go_loopw [5] (fun iv wr => ∃ r : Nat, r ≤ l.length ∧ iv = .int .i64 r ∧ Still w wr) (fun iv _ => l.length - (intOf iv).toNat)
  case atStart => exact ⟨0, by omega, rfl, Fr.refl _ _⟩
  case round =>
    obtain ⟨r, hrk, rfl, fr⟩ := hrel
    generalize wr = wq at *
    clear wr
    obtain ⟨h, h'⟩ := unhide HX
    by_cases hlt : r < l.length
    · obtain ⟨p, hp⟩ : ∃ p, l[r]? = some p := ⟨_, List.getElem?_eq_getElem (by omega)⟩
      obtain ⟨b1, o1, rfl, c1, c2⟩ := h.pair hp
      obtain ⟨b2, o2, rfl, d1, d2⟩ := h'.pair hp
      replace c1 := fr.cell' c1 (fun x => x)
      replace c2 := fr.cell' c2 (fun x => x)
      replace d1 := fr.cell' d1 (fun x => x)
      replace d2 := fr.cell' d2 (fun x => x)
      have hlt' : ((r : Int) < l.length) = True := by simp; omega
      have HF := hide fr
      clear h h' fr hp
      go_wp2_with fail
      go_quiet (fail)
      go_wp2_with fail
      exact ⟨⟨r + 1, by omega, by simp, (unhide HF).drewN _⟩, by simp [intOf]; omega⟩
    · have e : r = l.length := by omega
      subst e
      have hlt' : ((l.length : Int) < l.length) = False := by simp
      clear h h'
      go_wp2_with fail
      go_ret
      exact ⟨rfl, fr⟩
end

section
set_option maxRecDepth 100000 in
set_option maxHeartbeats 2000000 in
theorem ins_nil (w : World) : Calls Tryz.prog 154 #[.slice none 0 0, .int .i64 0, .int .i64 0] w fun e w' => e = .returned (.tuple #[]) ∧ w' = w := by
  go_enter Tryz.func154, Tryz.ntmps154
  go_wp2_with fail
  go_loopw [6] (fun c wr => c = .int .i64 1 ∧ wr = w) (fun c wr => 0)
  case atStart => exact ⟨rfl, rfl⟩
  case round =>
    obtain ⟨rfl, rfl⟩ := hrel
    go_wp2
    go_end0
    exact ⟨rfl, rfl⟩
set_option maxRecDepth 100000 in
set_option maxHeartbeats 2000000 in
theorem pdq_nil (x : Int) (w : World) : Calls Tryz.prog 115 #[.slice none 0 0, .int .i64 0, .int .i64 0, .int .i64 x] w fun e w' => e = .returned (.tuple #[]) ∧ w' = w := by
  have K := ins_nil w
  go_enter Tryz.func115, Tryz.ntmps115
  go_wp2_with fail
  go_loopw [1, 2] (fun b c wr => b = .int .i64 0 ∧ c = .int .i64 0 ∧ wr = w) (fun b c wr => 0)
  case atStart => exact ⟨rfl, rfl, rfl⟩
  case round =>
    obtain ⟨rfl, rfl, rfl⟩ := hrel
    go_wp2_with fail
    refine K.mono ?_
    rintro e w' ⟨rfl, rfl⟩
    go_wp2
    refine bodyPost_ret (results_none rfl _ _ _) rfl ?_
    exact ⟨rfl, rfl⟩
set_option maxHeartbeats 2000000 in
theorem sort_nil (w : World) : Calls Tryz.prog 73 #[.slice none 0 0] w fun e w' => e = .returned (.tuple #[]) ∧ w' = w := by
  have K1 := Tryz.bits_Len 0 w (by omega) (by omega)
  have K2 := fun x => pdq_nil x w
  go_enter Tryz.func73, Tryz.ntmps73
  go_wp2_with fail
  refine K1.mono ?_
  rintro e w' ⟨rfl, rfl⟩
  go_wp2_with fail
  refine (K2 _).mono ?_
  rintro e w' ⟨rfl, rfl⟩
  go_wp2
  go_end0
  exact ⟨rfl, rfl⟩
set_option maxRecDepth 100000 in
set_option maxHeartbeats 2000000 in
theorem y_Pieces0 (sb hb : Nat) (w : World) : Calls Tryz.prog 37 #[ptr sb, ptr hb, .int .u64 0] w fun e w' => e = .returned (.slice none 0 0) ∧ Still w w' := by
  obtain ⟨g, hg⟩ : ∃ g, w.heap.size = g := ⟨_, rfl⟩
  obtain ⟨W1, hW1⟩ : ∃ W, w.alloc (.cells #[ptr sb] 23) = W := ⟨_, rfl⟩
  obtain ⟨W2, hW2⟩ : ∃ W, W1.alloc (.cells #[ptr hb] 24) = W := ⟨_, rfl⟩
  obtain ⟨W3, hW3⟩ : ∃ W, W2.alloc (.map #[] 0) = W := ⟨_, rfl⟩
  obtain ⟨W4, hW4⟩ : ∃ W, W3.alloc (.cells #[.map (some (g + 2))] 116) = W := ⟨_, rfl⟩
  obtain ⟨W5, hW5⟩ : ∃ W, W4.alloc (.cells #[.slice none 0 0] 45) = W := ⟨_, rfl⟩
  obtain ⟨W6, hW6⟩ : ∃ W, W5.alloc (.cells #[.func (.func 68) #[] #[ptr g, ptr (g + 3), ptr (g + 1), ptr (g + 4), ptr (g + 5)]] 117) = W := ⟨_, rfl⟩
  have z1 : W1.heap.size = g + 1 := by rw [← hW1]; simp [hg]
  have z2 : W2.heap.size = g + 2 := by rw [← hW2]; simp; omega
  have z3 : W3.heap.size = g + 3 := by rw [← hW3]; simp; omega
  have z4 : W4.heap.size = g + 4 := by rw [← hW4]; simp; omega
  have f4 : Still w W4 := hW4 ▸ hW3 ▸ hW2 ▸ hW1 ▸ ((((Fr.refl _ w).alloc _).alloc _).alloc _).alloc _
  have f5 : Still W4 W5 := hW5 ▸ (Fr.refl _ _).alloc _
  have f6 : Still W5 W6 := hW6 ▸ (Fr.refl _ _).alloc _
  have oL : W6.heap[g + 4]? = some (.cells #[.slice none 0 0] 45 (0, 0)) := by
    have := heap_alloc_new W4 (.cells #[.slice none 0 0] 45)
    rw [hW5, z4] at this; exact f6.obj this (fun x => x)
  have c6 : W6.cell? ⟨g + 4, 0, none⟩ = some (.slice none 0 0) := cell_of_obj oL 0
  have K := sort_nil W6
  have hmm := make_setU
  have HW := hide (And.intro hW1 (And.intro hW2 (And.intro hW3 (And.intro hW4 (And.intro hW5 hW6)))))
  have HF := hide ((f4.trans' f5 (fun _ x => x.elim)).trans' f6 (fun _ x => x.elim))
  have c6' := c6
  rw [← hW6, ← hW5, ← hW4, ← hW3, ← hW2, ← hW1] at c6'
  clear hW1 hW2 hW3 hW4 hW5 hW6 z1 z2 z3 z4 f4 f5 f6 oL
  go_enter Tryz.func37, Tryz.ntmps37
  go_wp2_with fail
  simp only [show g + 1 + 1 = g + 2 from rfl, show g + 2 + 1 = g + 3 from rfl, show g + 3 + 1 = g + 4 from rfl, show g + 4 + 1 = g + 5 from rfl]
  obtain ⟨hW1, hW2, hW3, hW4, hW5, hW6⟩ := unhide HW
  rw [hW1, hW2, hW3, hW4, hW5, hW6]
  clear hW1 hW2 hW3 hW4 hW5 hW6 HW hmm
  refine K.mono ?_
  rintro e w' ⟨rfl, hh⟩
  replace hh := hh.symm
  subst hh
  clear K c6'
  go_wp2
  go_ret
  exact ⟨rfl, unhide HF⟩
end
end Go.Proofs.YtkaplgmjdfmpmaaGreatDoor
