/- Commit. -/
import Derived.Test.YtamghkabclbkgaaCrash
namespace Go.Proofs.Ytamghkabclbkgaa
open Go.RowKit

/-- What a loss of power within a Commit of xs, or an Open behind it, may leave. -/
def LogTorn (N at_ ws : Nat) (base : Nat → Int) (xs : List (Int × Int)) (st : Int) (A : Ab) : Prop :=
  A.n = N ∧ A.steps ≤ st ∧ ∀ h, Poss A h → Clean at_ ws base h ∨ Half N at_ ws base xs h ∨ Clean at_ ws (homed xs.reverse base) h

section
variable {w : World} {b : Nat} {L : Lay} {N : Nat} {free : Prop} {A : Ab} {s : Int} {f base : Nat → Int} {lg at_ ws : Nat}

set_option maxHeartbeats 1000000 in
theorem commit_ok (d : DevL w b L A) (hl : LogAt w lg b at_ ws) (hlg : ¬ foot b L lg) (h : Calm N free A s f) (hc : Clean at_ ws base f) (xb xo cap : Nat) (xs : List (Int × Int)) (hx : WrAt w xb xo xs) (hxb : ¬ foot b L xb)
    (ht : Takes N at_ ws xs) (h8 : at_ % 8 = 0) (hN : N ≤ 8192) (hs : s + 5 * xs.length + 9 < 4294967296) :
    Calls Try.prog 43 #[ptr lg, .slice (some ⟨xb, xo, none⟩) xs.length cap] w fun e w' =>
      (e = .returned (.int .i64 0) ∧ DM w b L w' fun A' => ∃ f', Calm N free A' (s + 5 * xs.length + 9) f' ∧ Clean at_ ws (homed xs.reverse base) f') ∨
      (e = .panicked lost ∧ DM w b L w' fun A' => ¬ free ∧ LogTorn N at_ ws base xs (s + 5 * xs.length + 9) A') := by
  have hfit := ht.fit
  have hdev := ht.dev
  have hpos : 0 < xs.length := List.length_pos_iff.2 ht.ne
  have MO : ∀ w2, Fr (fun _ => False) w w2 → Calls Try.prog 61 #[ptr lg] w2 fun e w' => e = .returned (.int .i64 (((ws - 16) / 2 : Nat) : Int)) ∧ w' = w2 := fun w2 f2 => most_ok (hl.kept f2 (fun h => h)) (by omega) (by omega)
  have NO : ∀ w2, Fr (fun _ => False) w w2 → Calls Try.prog 62 #[ptr lg, .slice (some ⟨xb, xo, none⟩) xs.length cap] w2 (Ends w2 b L _ _) := fun w2 f2 =>
    note_ok (On.start (d.keptF f2)) (hl.kept f2 (fun h => h)) hlg h xb xo cap xs (hx.kept f2 (fun h => h)) hxb (fun x hx => ⟨(ht.out x hx).1, (ht.out x hx).2.1⟩) h8 (by omega) hN (by omega)
  have HD := hide d; have HL := hide hl; have HG := hide hlg; have HC := hide h; have HCL := hide hc; have HX := hide hx; have HXB := hide hxb; have HT := hide ht; have HMO := hide MO; have HNO := hide NO
  have bo := b_or xs.length (by omega)
  have wn : IntKind.u64.wrap (xs.length : Int) = xs.length := (wrap_small _ (by omega) (by omega)).2
  generalize hmk : marked xs.length = mk at *
  have HMK := hide hmk
  clear d hl hlg h hc hx hxb ht MO NO hmk
  generalize hlen : xs.length = len at *
  have HLEN := hide hlen
  clear hlen
  go_enter Try.func43, Try.ntmps43
  go_wp2
  go_loopw [9] (fun i wr => ∃ k : Nat, k ≤ len ∧ i = .int .i64 k ∧ Fr (fun _ => False) w wr) (fun i wr => len - (intOf i).toNat)
  case atStart => exact ⟨0, Nat.zero_le _, rfl, Fr.refl _ _⟩
  case round =>
    obtain ⟨k, hk, rfl, fk⟩ := hrel
    by_cases hlt : k < len
    · obtain ⟨x, hxk⟩ : ∃ x, xs[k]? = some x := ⟨_, List.getElem?_eq_getElem (by rw [unhide HLEN]; exact hlt)⟩
      have ho := (unhide HT).out x (List.mem_of_getElem? hxk)
      obtain ⟨cw, cv⟩ := (unhide HX).kept fk (fun h => h) k x hxk
      have HFK := hide fk; have HOU := hide ho
      clear fk hxk ho
      go_wp2
      obtain ⟨W1, hW1⟩ : ∃ W1, wr.alloc (.cells #[.int .i64 x.1, .int .u64 x.2] 67) = W1 := ⟨_, rfl⟩
      have f1 : Fr (fun _ => False) w W1 := hW1 ▸ (unhide HFK).alloc _
      have x0 : W1.cell? ⟨wr.heap.size, 0, none⟩ = some (.int .i64 x.1) := by rw [← hW1]; exact cell_of_row _ _ _ _ _ _ (heap_alloc_new wr _)
      rw [hW1]
      generalize wr.heap.size = bx at *
      have l1 := (unhide HL).kept f1 (fun h => h)
      have d1 := (unhide HD).keptF f1
      have c1 := l1.c1
      have c2 := l1.c2
      have hn := (unhide HC).n
      have d0 := d1.c0
      rw [hn] at d0
      have HF1 := hide f1; have HL1 := hide l1; have HD0 := hide d0
      clear hW1 f1 l1 d1 cw cv HFK hn d0
      refine region_tailP 13 (by kernel_rfl) (by kernel_rfl) ?_
      simp only [List.take_succ_cons, List.take_zero, List.drop_succ_cons, List.drop_zero]
      repeat (go_big_quiet_step (first | (go_at_call 60; exact Calls.quiet_of_same (outside_yes ((unhide HL1).drewN _) hN (unhide HD0) _ _ (unhide HOU)))))
      refine wpQuiet_nil ?_
      rintro _ ⟨nq, rfl⟩
      clear c1 c2 x0
      go_wp2
      exact ⟨⟨k + 1, by omega, by go_num, (unhide HF1).drewN _⟩, by simp [intOf]; omega⟩
    · obtain rfl : k = len := by omega
      have M1 := unhide HMO wr fk
      have N1 := unhide HNO wr fk
      have HM1 := hide M1; have HN1 := hide N1; have HFK := hide fk
      have hm : k ≤ (ws - 16) / 2 := by omega
      have hk0 : ((k : Int) == 0) = false := by simp; omega
      clear fk M1 N1 HMO HNO HX HXB
      go_wp2_with (go_at_call 61; refine (unhide HM1).mono ?_; rintro e w' ⟨rfl, hh⟩; replace hh := hh.symm; subst hh)
      refine (unhide HN1).mono ?_
      clear HN1 HM1
      rintro e w1 (⟨rfl, D⟩ | ⟨rfl, D⟩)
      rotate_left
      · refine ⟨rfl, .inr ⟨rfl, (D.after (unhide HFK)).mono fun A' t => ?_⟩⟩
        obtain ⟨t1, g, t2, t3⟩ := t
        have hl := unhide HLEN
        exact ⟨t1, t3.n, Int.le_trans t3.st (by omega), fun h hp => .inl ((unhide HCL).noteTorn (xs := xs) (by omega) (by rw [hl]; exact t2) t3 h hp)⟩
      obtain ⟨L1, A1, o1, c1⟩ := D.on
      have lr := (unhide HL).kept (unhide HFK) (fun h => h)
      have M2 := mark_ok o1 lr (unhide HG) c1 (by omega) (by omega) mk
      have HM2 := hide M2; have HLR := hide lr
      clear D o1 c1 M2 lr
      go_wp2_with fail
      refine (unhide HM2).mono ?_
      clear HM2
      rintro e w2 (⟨rfl, D⟩ | ⟨rfl, D⟩)
      rotate_left
      · refine ⟨rfl, .inr ⟨rfl, (D.after (unhide HFK)).mono fun A' t => ?_⟩⟩
        obtain ⟨t1, g, t2, t3⟩ := t
        have hl := unhide HLEN
        have hm := unhide HMK
        rw [← hm, ← hl] at t2
        rw [← hl] at t3
        refine ⟨t1, t3.n, Int.le_trans t3.st (by omega), fun h hp => ?_⟩
        rcases (unhide HCL).markTorn (unhide HT) t2 t3 h hp with e | e
        · exact .inl e
        · exact .inr (.inl e)
      obtain ⟨L2, A2, o2, c2⟩ := D.on
      have hl := unhide HLEN
      have hm := unhide HMK
      have hf := (unhide HCL).half (unhide HT)
      rw [← hm, ← hl] at c2
      have lgw : lg < wr.heap.size := World.block_lt_of_cell? _ _ (unhide HLR).c0
      have B2 := bring_dev o2.d (o2.log (unhide HLR) (unhide HG)) (o2.other lgw (unhide HG)) c2 xs (unhide HT).ne hf.whole.ent hf.whole.out hf.whole.fit hN (by omega)
      rw [hl] at B2
      have HB2 := hide B2; have HO2 := hide o2; have HHF := hide hf
      clear B2 o2 c2 D hf hl hm lgw
      go_wp2_with fail
      refine (unhide HB2).mono ?_
      clear HB2
      rintro e w3 (⟨rfl, D⟩ | ⟨rfl, D⟩)
      rotate_left
      · refine ⟨rfl, .inr ⟨rfl, (((unhide HO2).dmd D).after (unhide HFK)).mono fun A' t => ?_⟩⟩
        have hl := unhide HLEN
        obtain ⟨t1, f', g, t2, t3⟩ := t
        refine ⟨t1, t3.n, Int.le_trans t3.st (by omega), fun h hp => ?_⟩
        have hf := unhide HHF
        rcases hf.torn (by omega) ⟨f', g, by rw [← hl] at t2; exact t2, t3⟩ h hp with e | e
        · exact .inr (.inl e)
        · exact .inr (.inr e)
      have DD := hide D
      clear D
      go_wp2
      go_ret
      refine .inl ⟨rfl, (((unhide HO2).dmd (unhide DD)).after (unhide HFK)).mono fun A' t => ⟨_, t.more (by omega), ?_⟩⟩
      have hf := (unhide HHF).done (by omega)
      rw [unhide HLEN] at hf
      exact hf
end
end Go.Proofs.Ytamghkabclbkgaa
