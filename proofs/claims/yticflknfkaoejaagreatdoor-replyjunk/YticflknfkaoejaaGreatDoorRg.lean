/- Reply: numbers on a line, an error's word. -/
import Derived.Test.YticflknfkaoejaaGreatDoorRf
namespace Go.Proofs.YticflknfkaoejaaGreatDoor
open Go.RowKit

set_option maxRecDepth 100000 in
set_option maxHeartbeats 2000000 in
theorem numbers_ok {W w : World} {r q : Nat} {s : RS} {t : WS} (h : At W w r s q t) : Calls Tryz.prog 48 #[ptr r, ptr q] w fun e w' => e = .returned (.tuple #[]) ∧ (∃ t', At W w' r (s.numbers t) q t') ∧ Fr (rq r q) w w' := by
  unfold RS.numbers
  have HN := hide (at_number h)
  have hnb : t.num ≤ 999999999 := by
    unfold WS.num numO
    split
    · split
      · simp; omega
      · simp
    · simp
  obtain ⟨n, hn⟩ : ∃ n, t.num = n := ⟨_, rfl⟩
  obtain ⟨u, hu⟩ : ∃ u, t.number = u := ⟨_, rfl⟩
  rw [hn] at HN hnb ⊢
  rw [hu] at HN ⊢
  clear h hn hu
  go_enter Tryz.func48, Tryz.ntmps48
  go_wp2_with fail
  refine (unhide HN).mono ?_
  rintro e w1 ⟨rfl, k1, f1⟩
  have H1 := hide (show ∃ v, At W w1 r s q v ∧ numbersW n v = numbersW n u from ⟨u, k1, rfl⟩)
  have F1 := hide (fq (r := r) f1)
  have HNB := hide hnb
  clear k1 f1 HN hnb
  go_wp2_with fail
  go_loopw [4] (fun i wr => ∃ k : Nat, i = iv k ∧ Hid (k ≤ n ∧ (∃ v, At W wr r s q v ∧ numbersW k v = numbersW n u) ∧ Fr (rq r q) w wr)) (fun i _ => (RowKit.intOf i).toNat)
  case atStart => exact ⟨n, rfl, hide ⟨Nat.le_refl _, unhide H1, unhide F1⟩⟩
  case round =>
    obtain ⟨k, rfl, HK⟩ := hrel
    obtain ⟨hk0, ⟨v, kv, ev⟩, fv⟩ := unhide HK
    have hkb : k ≤ 999999999 := by have := unhide HNB; omega
    have HR := hide (wright_ok kv.wd)
    have HD := hide (done_ok kv)
    have HM := hide (at_number kv)
    have HF := hide (And.intro hk0 (And.intro fv ev))
    clear HK kv ev fv hk0
    rcases k with _ | k
    · have h0 : ((0 : Int) < ((0 : Nat) : Int)) = False := by simp
      go_wp2_with fail
      refine (unhide HD).mono ?_
      rintro e w2 ⟨rfl, k2, f2⟩
      have K2 := hide (And.intro k2 ((unhide HF).2.1.trans (fr (q := q) f2)))
      clear k2 f2
      go_wp2
      go_end0
      exact ⟨rfl, ⟨v, by rw [← (unhide HF).2.2]; exact (unhide K2).1⟩, (unhide K2).2⟩
    · have h0 : ((0 : Int) < ((k + 1 : Nat) : Int)) = True := by simp only [eq_iff_iff, iff_true]; omega
      have h1 : ((0 : Int) < (k : Int) + 1) = True := by simp only [eq_iff_iff, iff_true]; omega
      obtain ⟨b, hb⟩ : ∃ b, v.b = b := ⟨_, rfl⟩
      rw [hb] at HR
      have HB := hide hb
      clear hb
      go_wp2_with fail
      refine (unhide HR).mono ?_
      rintro e w9 ⟨rfl, he⟩
      replace he := he.symm
      subst he
      cases b
      · go_wp2_with fail
        refine (unhide HM).mono ?_
        rintro e w2 ⟨rfl, k2, f2⟩
        have e2 : numbersW k v.number = numbersW n u := by
          rw [← (unhide HF).2.2]; show _ = if v.b = true then v else numbersW k v.number
          rw [unhide HB]; rfl
        have K2 := hide (And.intro k2 (And.intro e2 ((unhide HF).2.1.trans (fq (r := r) f2))))
        clear k2 f2 e2
        go_wp2
        exact ⟨⟨k, by go_num, hide ⟨by have := (unhide HF).1; omega, ⟨_, (unhide K2).1, (unhide K2).2.1⟩, (unhide K2).2.2⟩⟩, by simp [RowKit.intOf]⟩
      · go_wp2_with fail
        refine (unhide HD).mono ?_
        rintro e w2 ⟨rfl, k2, f2⟩
        have e2 : v = numbersW n u := by
          rw [← (unhide HF).2.2]; show _ = if v.b = true then v else numbersW k v.number
          rw [unhide HB]; rfl
        have K2 := hide (And.intro k2 (And.intro e2 ((unhide HF).2.1.trans (fr (q := q) f2))))
        clear k2 f2 e2
        go_wp2
        go_end0
        exact ⟨rfl, ⟨v, by rw [← (unhide K2).2.1]; exact (unhide K2).1⟩, (unhide K2).2.2⟩

/-- Where a word is held against the words of errors. -/
theorem isE_not {l : List UInt8} (h0 : l ≠ [83,89,78,84,65,88]) (h1 : l ≠ [84,79,79,66,73,71]) (h2 : l ≠ [78,79,83,78,65,80]) (h3 : l ≠ [70,85,76,76]) (h4 : l ≠ [78,65,78]) (h5 : l ≠ [77,65,78,89]) (h6 : l ≠ [68,69,65,68]) (h7 : l ≠ [65,82,71]) : isE l = false := by
  simp [isE, h0, h1, h2, h3, h4, h5, h6, h7]
theorem eqf {a b : List UInt8} (h : a ≠ b) : (a == b) = false := beq_eq_false_iff_ne.2 h

set_option maxRecDepth 100000 in
set_option maxHeartbeats 4000000 in
theorem reason_ok {W w : World} {r q : Nat} {s : RS} {t : WS} (h : At W w r s q t) : Calls Tryz.prog 41 #[ptr r, ptr q] w fun e w' => e = .returned (.tuple #[]) ∧ (∃ t', At W w' r (s.reason t) q t') ∧ Fr (rq r q) w w' := by
  unfold RS.reason
  have HN := hide (at_next h)
  obtain ⟨l, hl⟩ : ∃ l, t.word = l := ⟨_, rfl⟩
  rw [hl] at HN ⊢
  clear h hl
  obtain ⟨x, hx⟩ : ∃ x, isE l = x := ⟨_, rfl⟩
  rw [hx]
  have good : ∀ w1, At W w1 r s q t.next → x = true → Calls Tryz.prog 40 #[ptr r, ptr q] w1 fun e w' => e = .returned (.tuple #[]) ∧ At W w' r ((s.ask x).done t.next) q t.next ∧ Fr (fun k => k = r) w1 w' := fun w1 k e => by
    have := done_ok k
    rw [show s.ask x = s by rw [e]; unfold RS.ask; simp]
    exact this
  have bad : ∀ w1, At W w1 r s q t.next → x = false → Calls Tryz.prog 40 #[ptr r, ptr q] (w1.setCell ⟨r, 1, none⟩ (.bool true)) fun e w' => e = .returned (.tuple #[]) ∧ At W w' r ((s.ask x).done t.next) q t.next ∧ Fr (fun k => k = r) w1 w' := fun w1 k e => by
    have e1 : s.ask x = ⟨s.r, true⟩ := by rw [e]; unfold RS.ask; simp
    have k2 : At W (w1.setCell ⟨r, 1, none⟩ (.bool true)) r (s.ask x) q t.next := by
      rw [e1]; exact k.reader (obj_set k.rd 1 _) (fr_set (Fr.refl (fun k => k = r) w1) _ _) k.sr
    exact (done_ok k2).mono fun e w' h => ⟨h.1, h.2.1, (fr_set (Fr.refl (fun k => k = r) w1) _ _).trans h.2.2⟩
  have HG := hide good
  have HB := hide bad
  have hsz : (bs l).toList = l := bs_list l
  clear good bad
  go_enter Tryz.func41, Tryz.ntmps41
  go_wp2_with fail
  refine (unhide HN).mono ?_
  rintro e w1 ⟨rfl, k1, f1⟩
  have F1 := hide (fq (r := r) f1)
  have K1 := hide k1
  have z1 := frozen_of_obj k1.rd 1
  have c1 : w1.cell? ⟨r, 1, none⟩ = some (.bool s.b) := cell_of_obj k1.rd 1
  have HX := hide hx
  clear k1 f1 HN hx
  by_cases g : isE l = true
  · have hG := hide (unhide HG w1 (unhide K1) ((unhide HX).symm.trans g))
    simp only [isE, List.mem_cons, List.not_mem_nil, or_false, decide_eq_true_eq] at g
    clear HG HB HX
    rcases g with g | g | g | g | g | g | g | g
    · have y0 : ((bs l).toList == [83,89,78,84,65,88]) = true := by rw [hsz, g]; rfl
      clear g hsz
      go_wp2_with fail
      refine (unhide hG).mono ?_
      rintro e w4 ⟨rfl, k4, f4⟩
      have K4 := hide (And.intro k4 ((unhide F1).trans (fr (q := q) f4)))
      clear k4 f4
      go_wp2
      go_end0
      exact ⟨rfl, ⟨_, (unhide K4).1⟩, (unhide K4).2⟩
    · have y0 : ((bs l).toList == [83,89,78,84,65,88]) = false := by rw [hsz, g]; rfl
      have y1 : ((bs l).toList == [84,79,79,66,73,71]) = true := by rw [hsz, g]; rfl
      clear g hsz
      go_wp2_with fail
      refine (unhide hG).mono ?_
      rintro e w4 ⟨rfl, k4, f4⟩
      have K4 := hide (And.intro k4 ((unhide F1).trans (fr (q := q) f4)))
      clear k4 f4
      go_wp2
      go_end0
      exact ⟨rfl, ⟨_, (unhide K4).1⟩, (unhide K4).2⟩
    · have y0 : ((bs l).toList == [83,89,78,84,65,88]) = false := by rw [hsz, g]; rfl
      have y1 : ((bs l).toList == [84,79,79,66,73,71]) = false := by rw [hsz, g]; rfl
      have y2 : ((bs l).toList == [78,79,83,78,65,80]) = true := by rw [hsz, g]; rfl
      clear g hsz
      go_wp2_with fail
      refine (unhide hG).mono ?_
      rintro e w4 ⟨rfl, k4, f4⟩
      have K4 := hide (And.intro k4 ((unhide F1).trans (fr (q := q) f4)))
      clear k4 f4
      go_wp2
      go_end0
      exact ⟨rfl, ⟨_, (unhide K4).1⟩, (unhide K4).2⟩
    · have y0 : ((bs l).toList == [83,89,78,84,65,88]) = false := by rw [hsz, g]; rfl
      have y1 : ((bs l).toList == [84,79,79,66,73,71]) = false := by rw [hsz, g]; rfl
      have y2 : ((bs l).toList == [78,79,83,78,65,80]) = false := by rw [hsz, g]; rfl
      have y3 : ((bs l).toList == [70,85,76,76]) = true := by rw [hsz, g]; rfl
      clear g hsz
      go_wp2_with fail
      refine (unhide hG).mono ?_
      rintro e w4 ⟨rfl, k4, f4⟩
      have K4 := hide (And.intro k4 ((unhide F1).trans (fr (q := q) f4)))
      clear k4 f4
      go_wp2
      go_end0
      exact ⟨rfl, ⟨_, (unhide K4).1⟩, (unhide K4).2⟩
    · have y0 : ((bs l).toList == [83,89,78,84,65,88]) = false := by rw [hsz, g]; rfl
      have y1 : ((bs l).toList == [84,79,79,66,73,71]) = false := by rw [hsz, g]; rfl
      have y2 : ((bs l).toList == [78,79,83,78,65,80]) = false := by rw [hsz, g]; rfl
      have y3 : ((bs l).toList == [70,85,76,76]) = false := by rw [hsz, g]; rfl
      have y4 : ((bs l).toList == [78,65,78]) = true := by rw [hsz, g]; rfl
      clear g hsz
      go_wp2_with fail
      refine (unhide hG).mono ?_
      rintro e w4 ⟨rfl, k4, f4⟩
      have K4 := hide (And.intro k4 ((unhide F1).trans (fr (q := q) f4)))
      clear k4 f4
      go_wp2
      go_end0
      exact ⟨rfl, ⟨_, (unhide K4).1⟩, (unhide K4).2⟩
    · have y0 : ((bs l).toList == [83,89,78,84,65,88]) = false := by rw [hsz, g]; rfl
      have y1 : ((bs l).toList == [84,79,79,66,73,71]) = false := by rw [hsz, g]; rfl
      have y2 : ((bs l).toList == [78,79,83,78,65,80]) = false := by rw [hsz, g]; rfl
      have y3 : ((bs l).toList == [70,85,76,76]) = false := by rw [hsz, g]; rfl
      have y4 : ((bs l).toList == [78,65,78]) = false := by rw [hsz, g]; rfl
      have y5 : ((bs l).toList == [77,65,78,89]) = true := by rw [hsz, g]; rfl
      clear g hsz
      go_wp2_with fail
      refine (unhide hG).mono ?_
      rintro e w4 ⟨rfl, k4, f4⟩
      have K4 := hide (And.intro k4 ((unhide F1).trans (fr (q := q) f4)))
      clear k4 f4
      go_wp2
      go_end0
      exact ⟨rfl, ⟨_, (unhide K4).1⟩, (unhide K4).2⟩
    · have y0 : ((bs l).toList == [83,89,78,84,65,88]) = false := by rw [hsz, g]; rfl
      have y1 : ((bs l).toList == [84,79,79,66,73,71]) = false := by rw [hsz, g]; rfl
      have y2 : ((bs l).toList == [78,79,83,78,65,80]) = false := by rw [hsz, g]; rfl
      have y3 : ((bs l).toList == [70,85,76,76]) = false := by rw [hsz, g]; rfl
      have y4 : ((bs l).toList == [78,65,78]) = false := by rw [hsz, g]; rfl
      have y5 : ((bs l).toList == [77,65,78,89]) = false := by rw [hsz, g]; rfl
      have y6 : ((bs l).toList == [68,69,65,68]) = true := by rw [hsz, g]; rfl
      clear g hsz
      go_wp2_with fail
      refine (unhide hG).mono ?_
      rintro e w4 ⟨rfl, k4, f4⟩
      have K4 := hide (And.intro k4 ((unhide F1).trans (fr (q := q) f4)))
      clear k4 f4
      go_wp2
      go_end0
      exact ⟨rfl, ⟨_, (unhide K4).1⟩, (unhide K4).2⟩
    · have y0 : ((bs l).toList == [83,89,78,84,65,88]) = false := by rw [hsz, g]; rfl
      have y1 : ((bs l).toList == [84,79,79,66,73,71]) = false := by rw [hsz, g]; rfl
      have y2 : ((bs l).toList == [78,79,83,78,65,80]) = false := by rw [hsz, g]; rfl
      have y3 : ((bs l).toList == [70,85,76,76]) = false := by rw [hsz, g]; rfl
      have y4 : ((bs l).toList == [78,65,78]) = false := by rw [hsz, g]; rfl
      have y5 : ((bs l).toList == [77,65,78,89]) = false := by rw [hsz, g]; rfl
      have y6 : ((bs l).toList == [68,69,65,68]) = false := by rw [hsz, g]; rfl
      have y7 : ((bs l).toList == [65,82,71]) = true := by rw [hsz, g]; rfl
      clear g hsz
      go_wp2_with fail
      refine (unhide hG).mono ?_
      rintro e w4 ⟨rfl, k4, f4⟩
      have K4 := hide (And.intro k4 ((unhide F1).trans (fr (q := q) f4)))
      clear k4 f4
      go_wp2
      go_end0
      exact ⟨rfl, ⟨_, (unhide K4).1⟩, (unhide K4).2⟩
  · have hB := hide (unhide HB w1 (unhide K1) ((unhide HX).symm.trans (by simpa using g)))
    simp only [isE, List.mem_cons, List.not_mem_nil, or_false, decide_eq_true_eq, not_or] at g
    obtain ⟨g0, g1, g2, g3, g4, g5, g6, g7⟩ := g
    have y0 : ((bs l).toList == [83,89,78,84,65,88]) = false := by rw [hsz]; exact eqf g0
    have y1 : ((bs l).toList == [84,79,79,66,73,71]) = false := by rw [hsz]; exact eqf g1
    have y2 : ((bs l).toList == [78,79,83,78,65,80]) = false := by rw [hsz]; exact eqf g2
    have y3 : ((bs l).toList == [70,85,76,76]) = false := by rw [hsz]; exact eqf g3
    have y4 : ((bs l).toList == [78,65,78]) = false := by rw [hsz]; exact eqf g4
    have y5 : ((bs l).toList == [77,65,78,89]) = false := by rw [hsz]; exact eqf g5
    have y6 : ((bs l).toList == [68,69,65,68]) = false := by rw [hsz]; exact eqf g6
    have y7 : ((bs l).toList == [65,82,71]) = false := by rw [hsz]; exact eqf g7
    clear HG HB HX hsz g0 g1 g2 g3 g4 g5 g6 g7
    go_wp2_with fail
    refine (unhide hB).mono ?_
    rintro e w4 ⟨rfl, k4, f4⟩
    have K4 := hide (And.intro k4 ((unhide F1).trans (fr (q := q) f4)))
    clear k4 f4
    go_wp2
    go_end0
    exact ⟨rfl, ⟨_, (unhide K4).1⟩, (unhide K4).2⟩
end Go.Proofs.YticflknfkaoejaaGreatDoor
