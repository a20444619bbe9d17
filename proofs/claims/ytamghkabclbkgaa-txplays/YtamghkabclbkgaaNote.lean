/- note: the writes laid down in the log, ahead of the mark. -/
import Derived.Test.YtamghkabclbkgaaMark
import Derived.Test.YtamghkabclbkgaaArr
namespace Go.Proofs.Ytamghkabclbkgaa
open Go.RowKit

/-- Writes in memory. -/
def WrAt (w : World) (xb xo : Nat) (xs : List (Int × Int)) : Prop :=
  ∀ k x, xs[k]? = some x → w.cell? ⟨xb, xo + k * 2, none⟩ = some (.int .i64 x.1) ∧ w.cell? ⟨xb, xo + k * 2 + 1, none⟩ = some (u64 x.2)
theorem WrAt.kept {w w' : World} {xb xo : Nat} {xs : List (Int × Int)} (h : WrAt w xb xo xs) {F : Nat → Prop} (hf : Fr F w w') (hF : ¬ F xb) : WrAt w' xb xo xs :=
  fun k x hx => ⟨hf.cell' (h k x hx).1 hF, hf.cell' (h k x hx).2 hF⟩

/-- The words that a list of writes takes, one behind the other. -/
def ent (xs : List (Int × Int)) (i : Nat) : Int := if i % 2 = 0 then (xs.getD (i / 2) (0, 0)).1 else (xs.getD (i / 2) (0, 0)).2
/-- The first m of them stand from at_ + 8 on. -/
def noted (at_ : Nat) (xs : List (Int × Int)) (f : Nat → Int) (m j : Nat) : Int := if at_ + 8 ≤ j ∧ j < at_ + 8 + m then ent xs (j - (at_ + 8)) else f j
theorem noted_zero (at_ : Nat) (xs : List (Int × Int)) (f : Nat → Int) : noted at_ xs f 0 = f := by
  funext j; unfold noted; rw [if_neg (by omega)]
theorem noted_step (at_ : Nat) (xs : List (Int × Int)) (f : Nat → Int) (m : Nat) : upd (noted at_ xs f m) (at_ + 8 + m) (ent xs m) = noted at_ xs f (m + 1) := by
  funext j
  by_cases e : j = at_ + 8 + m
  · subst e
    rw [upd_same]; unfold noted; rw [if_pos (by omega), show at_ + 8 + m - (at_ + 8) = m by omega]
  · rw [upd_other _ _ e]; unfold noted
    by_cases h : at_ + 8 ≤ j ∧ j < at_ + 8 + m
    · rw [if_pos h, if_pos (by omega)]
    · rw [if_neg h, if_neg (by omega)]
theorem ent_word {xs : List (Int × Int)} {k : Nat} {x : Int × Int} (h : xs[k]? = some x) : ent xs (2 * k) = x.1 := by
  unfold ent; rw [if_pos (by omega), show 2 * k / 2 = k by omega, List.getD_eq_getElem?_getD, h]; rfl
theorem ent_val {xs : List (Int × Int)} {k : Nat} {x : Int × Int} (h : xs[k]? = some x) : ent xs (2 * k + 1) = x.2 := by
  unfold ent; rw [if_neg (by omega), show (2 * k + 1) / 2 = k by omega, List.getD_eq_getElem?_getD, h]; rfl

/-- q lines from a0 on, the last first. -/
def lns (a0 : Nat) : Nat → List Nat
  | 0 => []
  | q + 1 => (a0 + q) :: lns a0 q
theorem mem_lns (a0 a : Nat) : ∀ q, a ∈ lns a0 q ↔ a0 ≤ a ∧ a < a0 + q
  | 0 => by simp [lns]
  | q + 1 => by simp only [lns, List.mem_cons, mem_lns a0 a q]; omega

section
variable {w0 w : World} {b : Nat} {L0 L : Lay} {N : Nat} {free : Prop} {A : Ab} {s : Int} {f : Nat → Int} {lg at_ ws : Nat}

set_option maxHeartbeats 2000000 in
theorem note_ok (o : On w0 b L0 w L A) (hl : LogAt w0 lg b at_ ws) (hlg : ¬ foot b L0 lg) (h : Calm N free A s f) (xb xo cap : Nat) (xs : List (Int × Int)) (hx : WrAt w0 xb xo xs) (hxb : ¬ foot b L0 xb)
    (hxs : ∀ x ∈ xs, 0 ≤ x.1 ∧ x.1 < N * 8) (h8 : at_ % 8 = 0) (hws : at_ + 16 + 2 * xs.length ≤ N * 8) (hN : N ≤ 8192) (hs : s + 3 * xs.length + 2 < 4294967296) :
    Calls Try.prog 62 #[ptr lg, .slice (some ⟨xb, xo, none⟩) xs.length cap] w (Ends w0 b L0 (fun A' => Calm N free A' (s + 3 * xs.length + 2) (noted at_ xs f (2 * xs.length)))
      (fun A' => ¬ free ∧ ∃ g, (∀ j, (j < at_ + 8 ∨ at_ + 8 + 2 * xs.length ≤ j) → g j = f j) ∧ Torn N A' (s + 3 * xs.length + 2) f g)) := by
  have HO := hide o; have HL := hide hl; have HG := hide hlg; have HC := hide h; have HX := hide hx; have HXB := hide hxb; have HXS := hide hxs
  clear o hl hlg h hx hxb hxs
  generalize hlen : xs.length = len at *
  have HLEN := hide hlen
  clear hlen
  go_enter Try.func62, Try.ntmps62
  go_wp2
  go_loopw [9] (fun i wr => ∃ k : Nat, k ≤ len ∧ i = .int .i64 k ∧ ∃ L1 A1, On w0 b L0 wr L1 A1 ∧ Mid N free A1 (s + 2 * k) f (noted at_ xs f (2 * k)) []) (fun i wr => len - (intOf i).toNat)
  case atStart => exact ⟨0, Nat.zero_le _, rfl, L, A, unhide HO, by rw [Nat.mul_zero, noted_zero]; simpa using unhide HC⟩
  case round =>
    obtain ⟨k, hk, rfl, L1, A1, o1, m1⟩ := hrel
    by_cases hlt : k < len
    · obtain ⟨x, hxk⟩ : ∃ x, xs[k]? = some x := ⟨_, List.getElem?_eq_getElem (by rw [unhide HLEN]; exact hlt)⟩
      have hxb := (unhide HXS) x (List.mem_of_getElem? hxk)
      obtain ⟨cw, cv⟩ := (unhide HX).kept o1.fr (unhide HXB) k x hxk
      have wr1 := (wrap_small x.1 hxb.1 (by omega)).2
      have lr := o1.log (unhide HL) (unhide HG)
      have HO1 := hide o1; have HM1 := hide m1; have HLR := hide lr; have HXK := hide hxk
      clear o1 m1 lr hxk
      go_wp2
      obtain ⟨W1, hW1⟩ : ∃ W1, wr.alloc (.cells #[.int .i64 x.1, .int .u64 x.2] 67) = W1 := ⟨_, rfl⟩
      have o2 : On w0 b L0 W1 L1 A1 := hW1 ▸ (unhide HO1).alloc _
      have x0 : W1.cell? ⟨wr.heap.size, 0, none⟩ = some (.int .i64 x.1) := by rw [← hW1]; exact cell_of_row _ _ _ _ _ _ (heap_alloc_new wr _)
      have x1 : W1.cell? ⟨wr.heap.size, 1, none⟩ = some (.int .u64 x.2) := by rw [← hW1]; exact cell_of_row _ _ _ _ _ _ (heap_alloc_new wr _)
      have nf : ¬ foot b L1 wr.heap.size := (unhide HO1).new (Nat.le_refl _)
      rw [hW1]
      generalize wr.heap.size = bx at *
      have l2 := o2.log (unhide HL) (unhide HG)
      have c0 := l2.c0
      have HO2 := hide o2; have HL2 := hide l2; have HNF := hide nf; have HX0 := hide x0; have HX1 := hide x1
      clear hW1 o2 l2 nf cw cv HO1 HLR x1
      refine region_tailP 10 (by kernel_rfl) (by kernel_rfl) ?_
      simp only [List.take_succ_cons, List.take_zero, List.drop_succ_cons, List.drop_zero]
      repeat (go_big_quiet_step (first | (go_at_call 71; exact Calls.quiet_of_same (place_ok ((unhide HL2).drewN _) (by omega) k (by omega)))))
      refine wpQuiet_nil ?_
      rintro _ ⟨nq, rfl⟩
      clear c0 x0
      go_wp2_with fail
      refine (o_store (On.start ((unhide HO2).drewN nq).d) (unhide HM1) (by omega) _ (at_ + 8 + 2 * k) (by omega) (by omega) x.1).mono ?_
      rintro e w1 (⟨rfl, D⟩ | ⟨rfl, D⟩)
      rotate_left
      · exact ⟨rfl, .inr ⟨rfl, (((unhide HO2).drewN nq).dmd D).mono fun A' t => ⟨t.1, _, fun j hj => by unfold noted; rw [if_neg (by omega)], t.2.more (by omega)⟩⟩⟩
      obtain ⟨L3, A3, o3, m3⟩ := D.on
      rw [← ent_word (unhide HXK), noted_step] at m3
      have x1 : w1.cell? ⟨bx, 1, none⟩ = some (.int .u64 x.2) := o3.fr.cell' (unhide HX1) (unhide HNF)
      have o4 := ((unhide HO2).drewN nq).trans o3
      have l4 := o4.log (unhide HL) (unhide HG)
      have c0 := l4.c0
      have HO4 := hide o4; have HL4 := hide l4; have HM3 := hide m3
      clear D o3 m3 o4 l4 HO2 HL2 HM1
      go_wp2_with fail
      refine region_tailP 10 (by kernel_rfl) (by kernel_rfl) ?_
      simp only [List.take_succ_cons, List.take_zero, List.drop_succ_cons, List.drop_zero]
      repeat (go_big_quiet_step (first | (go_at_call 71; exact Calls.quiet_of_same (place_ok ((unhide HL4).drewN _) (by omega) k (by omega)))))
      refine wpQuiet_nil ?_
      rintro _ ⟨nq2, rfl⟩
      clear c0 x1
      go_wp2_with fail
      refine (o_store ((unhide HO4).drewN nq2) (unhide HM3) (by omega) _ (at_ + 8 + (2 * k + 1)) (by omega) (by omega) x.2).mono ?_
      rintro e w1 (⟨rfl, D⟩ | ⟨rfl, D⟩)
      rotate_left
      · exact ⟨rfl, .inr ⟨rfl, D.mono fun A' t => ⟨t.1, _, fun j hj => by unfold noted; rw [if_neg (by omega)], t.2.more (by omega)⟩⟩⟩
      obtain ⟨L5, A5, o5, m5⟩ := D.on
      rw [← ent_val (unhide HXK), noted_step] at m5
      have HO5 := hide o5; have HM5 := hide m5
      clear D o5 m5 HO4 HL4 HM3
      go_wp2
      exact ⟨⟨k + 1, by omega, by go_num, L5, A5, unhide HO5, by rw [show 2 * (k + 1) = 2 * k + 1 + 1 by omega]; exact (unhide HM5).more (by omega)⟩, by simp [intOf]; omega⟩
    · obtain rfl : k = len := by omega
      have l1 := o1.log (unhide HL) (unhide HG)
      have HO1 := hide o1; have HM1 := hide m1; have HL1 := hide l1
      clear o1 m1 l1 HO HC HX HXB HXS
      have p0 := hide (place_ok (unhide HL1) (by omega) 0 (by omega))
      go_wp2_with (first | (go_at_call 71; refine (unhide p0).mono ?_; rintro e w' ⟨rfl, rfl⟩))
      clear p0
      go_loopw [6] (fun i wx => ∃ q : Nat, 8 * q ≤ 2 * k + 7 ∧ i = .int .i64 ((at_ : Int) + 8 + 8 * q) ∧ ∃ L1 A1, On w0 b L0 wx L1 A1 ∧ Mid N free A1 (s + 2 * k + q) f (noted at_ xs f (2 * k)) (lns (at_ / 8 + 1) q)) (fun i wx => at_ + 8 + 2 * k - (intOf i).toNat)
      case atStart => exact ⟨0, by omega, by simp, L1, A1, unhide HO1, by simpa [lns] using unhide HM1⟩
      case round =>
        obtain ⟨q, hq, rfl, L2, A2, o2, m2⟩ := hrel
        have l2 := o2.log (unhide HL) (unhide HG)
        have c0 := l2.c0
        have HO2 := hide o2; have HM2 := hide m2
        have p1 := hide (place_ok l2 (by omega) k (by omega))
        clear o2 m2 l2 HO1 HM1 HL1
        by_cases hlt : 8 * q < 2 * k
        · go_wp2_with (first | (go_at_call 71; refine (unhide p1).mono ?_; rintro e w' ⟨rfl, rfl⟩))
          refine (o_flush (unhide HO2) (unhide HM2) (by omega) _ (at_ + 8 + 8 * q) (by omega) (by omega)).mono ?_
          rintro e w3 (⟨rfl, D⟩ | ⟨rfl, D⟩)
          rotate_left
          · exact ⟨rfl, .inr ⟨rfl, D.mono fun A' t => ⟨t.1, _, fun j hj => by unfold noted; rw [if_neg (by omega)], t.2.more (by omega)⟩⟩⟩
          obtain ⟨L3, A3, o3, m3⟩ := D.on
          rw [show (at_ + 8 + 8 * q) / 8 = at_ / 8 + 1 + q by omega] at m3
          have HO3 := hide o3; have HM3 := hide m3
          clear D o3 m3 p1 HO2 HM2 c0
          go_wp2
          exact ⟨⟨q + 1, by omega, by go_num, L3, A3, unhide HO3, (unhide HM3).more (by omega)⟩, by simp [intOf]; omega⟩
        · go_wp2_with (first | (go_at_call 71; refine (unhide p1).mono ?_; rintro e w' ⟨rfl, rfl⟩))
          refine (o_fence (unhide HO2) (unhide HM2) (by omega) ?_).mono ?_
          · intro j hj
            have : at_ + 8 ≤ j ∧ j < at_ + 8 + 2 * k := Classical.byContradiction fun hn => hj (by unfold noted; rw [if_neg hn])
            rw [mem_lns]; omega
          rintro e w3 (⟨rfl, D⟩ | ⟨rfl, D⟩)
          rotate_left
          · exact ⟨rfl, .inr ⟨rfl, D.mono fun A' t => ⟨t.1, _, fun j hj => by unfold noted; rw [if_neg (by omega)], t.2.more (by omega)⟩⟩⟩
          have DD := hide D
          clear D HO2 HM2 p1 c0
          go_wp2
          go_end0
          exact .inl ⟨rfl, (unhide DD).mono fun A' t => t.more (by omega)⟩
end
end Go.Proofs.Ytamghkabclbkgaa
