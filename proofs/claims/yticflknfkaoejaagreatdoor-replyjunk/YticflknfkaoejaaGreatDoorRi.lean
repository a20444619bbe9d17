/- Reply: an answer. -/
import Derived.Test.YticflknfkaoejaaGreatDoorRh
namespace Go.Proofs.YticflknfkaoejaaGreatDoor
open Go.RowKit

set_option maxRecDepth 100000 in
set_option maxHeartbeats 8000000 in
theorem answer_ok {sc : List UInt8 → Bool} (hs : Scs sc) {W w : World} {r : Nat} {s : RS} (h : Rk W w r s) : Calls Tryz.prog 23 #[ptr r] w fun e w' => e = .returned (.tuple #[]) ∧ Rk W w' r (s.answer sc) ∧ Fr (fun k => k = r) w w' := by
  have HL := hide (line_ok h)
  unfold RS.answer
  clear h
  obtain ⟨u, hu⟩ : ∃ u, s.line = u := ⟨_, rfl⟩
  obtain ⟨t, ht⟩ : ∃ t, s.words = t := ⟨_, rfl⟩
  rw [hu, ht] at HL ⊢
  obtain ⟨l, hl⟩ : ∃ l, t.word = l := ⟨_, rfl⟩
  rw [hl]
  have HW := hide hl
  clear hu ht hl
  go_enter Tryz.func23, Tryz.ntmps23
  go_wp2_with fail
  refine (unhide HL).mono ?_
  rintro e w1 ⟨q, rfl, hq, k1, f1⟩
  have H1 := hide (And.intro hq f1)
  have HN := hide (at_next k1)
  rw [unhide HW] at HN
  clear hq k1 f1 HL
  go_wp2_with fail
  refine (unhide HN).mono ?_
  rintro e w2 ⟨rfl, k2, f2⟩
  have K2 := hide k2
  have F2 := hide f2
  have hsz : (bs l).toList = l := bs_list l
  clear k2 f2 HN
  by_cases g0 : l = [79,75]
  · have y : ∀ m, ((bs l).toList == m) = (([79,75] : List UInt8) == m) := fun m => by rw [hsz, g0]
    have y0 : ((bs l).toList == [79,75]) = true := (y _).trans rfl
    have G := hide g0
    clear y hsz g0
    have e0 : u.kind sc l t.next = u.done t.next := by rw [unhide G]; rfl
    have E0 := hide e0
    clear e0
    have HX := hide (done_ok (unhide K2))
    go_wp2_with fail
    refine (unhide HX).mono ?_
    rintro e w4 ⟨rfl, k4, f4⟩
    have K4 := hide (And.intro k4.rk (fr_new (unhide H1).2 ((fq (r := r) (unhide F2)).trans (fr (q := q) f4)) (unhide H1).1))
    clear k4 f4
    go_wp2
    go_end0
    exact ⟨rfl, by rw [unhide E0]; exact (unhide K4).1, (unhide K4).2⟩
  by_cases g1 : l = [78,79,78,69]
  · have y : ∀ m, ((bs l).toList == m) = (([78,79,78,69] : List UInt8) == m) := fun m => by rw [hsz, g1]
    have y0 : ((bs l).toList == [79,75]) = false := (y _).trans rfl
    have y1 : ((bs l).toList == [78,79,78,69]) = true := (y _).trans rfl
    have G := hide g1
    clear y hsz g0 g1
    have e0 : u.kind sc l t.next = u.done t.next := by rw [unhide G]; rfl
    have E0 := hide e0
    clear e0
    have HX := hide (done_ok (unhide K2))
    go_wp2_with fail
    refine (unhide HX).mono ?_
    rintro e w4 ⟨rfl, k4, f4⟩
    have K4 := hide (And.intro k4.rk (fr_new (unhide H1).2 ((fq (r := r) (unhide F2)).trans (fr (q := q) f4)) (unhide H1).1))
    clear k4 f4
    go_wp2
    go_end0
    exact ⟨rfl, by rw [unhide E0]; exact (unhide K4).1, (unhide K4).2⟩
  by_cases g2 : l = [89,69,83]
  · have y : ∀ m, ((bs l).toList == m) = (([89,69,83] : List UInt8) == m) := fun m => by rw [hsz, g2]
    have y0 : ((bs l).toList == [79,75]) = false := (y _).trans rfl
    have y1 : ((bs l).toList == [78,79,78,69]) = false := (y _).trans rfl
    have y2 : ((bs l).toList == [89,69,83]) = true := (y _).trans rfl
    have G := hide g2
    clear y hsz g0 g1 g2
    have e0 : u.kind sc l t.next = u.done t.next := by rw [unhide G]; rfl
    have E0 := hide e0
    clear e0
    have HX := hide (done_ok (unhide K2))
    go_wp2_with fail
    refine (unhide HX).mono ?_
    rintro e w4 ⟨rfl, k4, f4⟩
    have K4 := hide (And.intro k4.rk (fr_new (unhide H1).2 ((fq (r := r) (unhide F2)).trans (fr (q := q) f4)) (unhide H1).1))
    clear k4 f4
    go_wp2
    go_end0
    exact ⟨rfl, by rw [unhide E0]; exact (unhide K4).1, (unhide K4).2⟩
  by_cases g3 : l = [78,79]
  · have y : ∀ m, ((bs l).toList == m) = (([78,79] : List UInt8) == m) := fun m => by rw [hsz, g3]
    have y0 : ((bs l).toList == [79,75]) = false := (y _).trans rfl
    have y1 : ((bs l).toList == [78,79,78,69]) = false := (y _).trans rfl
    have y2 : ((bs l).toList == [89,69,83]) = false := (y _).trans rfl
    have y3 : ((bs l).toList == [78,79]) = true := (y _).trans rfl
    have G := hide g3
    clear y hsz g0 g1 g2 g3
    have e0 : u.kind sc l t.next = u.done t.next := by rw [unhide G]; rfl
    have E0 := hide e0
    clear e0
    have HX := hide (done_ok (unhide K2))
    go_wp2_with fail
    refine (unhide HX).mono ?_
    rintro e w4 ⟨rfl, k4, f4⟩
    have K4 := hide (And.intro k4.rk (fr_new (unhide H1).2 ((fq (r := r) (unhide F2)).trans (fr (q := q) f4)) (unhide H1).1))
    clear k4 f4
    go_wp2
    go_end0
    exact ⟨rfl, by rw [unhide E0]; exact (unhide K4).1, (unhide K4).2⟩
  by_cases g4 : l = [69,82,82]
  · have y : ∀ m, ((bs l).toList == m) = (([69,82,82] : List UInt8) == m) := fun m => by rw [hsz, g4]
    have y0 : ((bs l).toList == [79,75]) = false := (y _).trans rfl
    have y1 : ((bs l).toList == [78,79,78,69]) = false := (y _).trans rfl
    have y2 : ((bs l).toList == [89,69,83]) = false := (y _).trans rfl
    have y3 : ((bs l).toList == [78,79]) = false := (y _).trans rfl
    have y4 : ((bs l).toList == [69,82,82]) = true := (y _).trans rfl
    have G := hide g4
    clear y hsz g0 g1 g2 g3 g4
    have e0 : u.kind sc l t.next = u.reason t.next := by rw [unhide G]; rfl
    have E0 := hide e0
    clear e0
    have HX := hide (reason_ok (unhide K2))
    go_wp2_with fail
    refine (unhide HX).mono ?_
    rintro e w4 ⟨rfl, ⟨t4, k4⟩, f4⟩
    have K4 := hide (And.intro k4.rk (fr_new (unhide H1).2 ((fq (r := r) (unhide F2)).trans f4) (unhide H1).1))
    clear k4 f4
    go_wp2
    go_end0
    exact ⟨rfl, by rw [unhide E0]; exact (unhide K4).1, (unhide K4).2⟩
  by_cases g5 : l = [86,65,76,85,69]
  · have y : ∀ m, ((bs l).toList == m) = (([86,65,76,85,69] : List UInt8) == m) := fun m => by rw [hsz, g5]
    have y0 : ((bs l).toList == [79,75]) = false := (y _).trans rfl
    have y1 : ((bs l).toList == [78,79,78,69]) = false := (y _).trans rfl
    have y2 : ((bs l).toList == [89,69,83]) = false := (y _).trans rfl
    have y3 : ((bs l).toList == [78,79]) = false := (y _).trans rfl
    have y4 : ((bs l).toList == [69,82,82]) = false := (y _).trans rfl
    have y5 : ((bs l).toList == [86,65,76,85,69]) = true := (y _).trans rfl
    have G := hide g5
    clear y hsz g0 g1 g2 g3 g4 g5
    have e0 : u.kind sc l t.next = u.value t.next := by rw [unhide G]; rfl
    have E0 := hide e0
    clear e0
    have HX := hide (value_ok (unhide K2))
    go_wp2_with fail
    refine (unhide HX).mono ?_
    rintro e w4 ⟨rfl, ⟨t4, k4⟩, f4⟩
    have K4 := hide (And.intro k4.rk (fr_new (unhide H1).2 ((fq (r := r) (unhide F2)).trans f4) (unhide H1).1))
    clear k4 f4
    go_wp2
    go_end0
    exact ⟨rfl, by rw [unhide E0]; exact (unhide K4).1, (unhide K4).2⟩
  by_cases g6 : l = [80,65,73,82,83]
  · have y : ∀ m, ((bs l).toList == m) = (([80,65,73,82,83] : List UInt8) == m) := fun m => by rw [hsz, g6]
    have y0 : ((bs l).toList == [79,75]) = false := (y _).trans rfl
    have y1 : ((bs l).toList == [78,79,78,69]) = false := (y _).trans rfl
    have y2 : ((bs l).toList == [89,69,83]) = false := (y _).trans rfl
    have y3 : ((bs l).toList == [78,79]) = false := (y _).trans rfl
    have y4 : ((bs l).toList == [69,82,82]) = false := (y _).trans rfl
    have y5 : ((bs l).toList == [86,65,76,85,69]) = false := (y _).trans rfl
    have y6 : ((bs l).toList == [80,65,73,82,83]) = true := (y _).trans rfl
    have G := hide g6
    clear y hsz g0 g1 g2 g3 g4 g5 g6
    have e0 : u.kind sc l t.next = u.each RS.pair t.next := by rw [unhide G]; rfl
    have E0 := hide e0
    clear e0
    have HX := hide (each_ok (unhide K2) 44 RS.pair (enters_of Tryz.func44 (by kernel_rfl) rfl) (fun w s h => pair_ok h))
    go_wp2_with fail
    refine (unhide HX).mono ?_
    rintro e w4 ⟨rfl, k4, f4⟩
    have K4 := hide (And.intro k4 (fr_new (unhide H1).2 ((fq (r := r) (unhide F2)).trans f4) (unhide H1).1))
    clear k4 f4
    go_wp2
    go_end0
    exact ⟨rfl, by rw [unhide E0]; exact (unhide K4).1, (unhide K4).2⟩
  by_cases g7 : l = [83,67,79,82,69,68]
  · have y : ∀ m, ((bs l).toList == m) = (([83,67,79,82,69,68] : List UInt8) == m) := fun m => by rw [hsz, g7]
    have y0 : ((bs l).toList == [79,75]) = false := (y _).trans rfl
    have y1 : ((bs l).toList == [78,79,78,69]) = false := (y _).trans rfl
    have y2 : ((bs l).toList == [89,69,83]) = false := (y _).trans rfl
    have y3 : ((bs l).toList == [78,79]) = false := (y _).trans rfl
    have y4 : ((bs l).toList == [69,82,82]) = false := (y _).trans rfl
    have y5 : ((bs l).toList == [86,65,76,85,69]) = false := (y _).trans rfl
    have y6 : ((bs l).toList == [80,65,73,82,83]) = false := (y _).trans rfl
    have y7 : ((bs l).toList == [83,67,79,82,69,68]) = true := (y _).trans rfl
    have G := hide g7
    clear y hsz g0 g1 g2 g3 g4 g5 g6 g7
    have e0 : u.kind sc l t.next = u.each (RS.member sc) t.next := by rw [unhide G]; rfl
    have E0 := hide e0
    clear e0
    have HX := hide (each_ok (unhide K2) 45 (RS.member sc) (enters_of Tryz.func45 (by kernel_rfl) rfl) (fun w s h => member_ok hs h))
    go_wp2_with fail
    refine (unhide HX).mono ?_
    rintro e w4 ⟨rfl, k4, f4⟩
    have K4 := hide (And.intro k4 (fr_new (unhide H1).2 ((fq (r := r) (unhide F2)).trans f4) (unhide H1).1))
    clear k4 f4
    go_wp2
    go_end0
    exact ⟨rfl, by rw [unhide E0]; exact (unhide K4).1, (unhide K4).2⟩
  by_cases g8 : l = [83,67,79,82,69]
  · have y : ∀ m, ((bs l).toList == m) = (([83,67,79,82,69] : List UInt8) == m) := fun m => by rw [hsz, g8]
    have y0 : ((bs l).toList == [79,75]) = false := (y _).trans rfl
    have y1 : ((bs l).toList == [78,79,78,69]) = false := (y _).trans rfl
    have y2 : ((bs l).toList == [89,69,83]) = false := (y _).trans rfl
    have y3 : ((bs l).toList == [78,79]) = false := (y _).trans rfl
    have y4 : ((bs l).toList == [69,82,82]) = false := (y _).trans rfl
    have y5 : ((bs l).toList == [86,65,76,85,69]) = false := (y _).trans rfl
    have y6 : ((bs l).toList == [80,65,73,82,83]) = false := (y _).trans rfl
    have y7 : ((bs l).toList == [83,67,79,82,69,68]) = false := (y _).trans rfl
    have y8 : ((bs l).toList == [83,67,79,82,69]) = true := (y _).trans rfl
    have G := hide g8
    clear y hsz g0 g1 g2 g3 g4 g5 g6 g7 g8
    have e0 : u.kind sc l t.next = u.scores sc 1 t.next := by rw [unhide G]; rfl
    have E0 := hide e0
    clear e0
    have HX := hide (scores_ok hs 1 (by decide) (unhide K2))
    go_wp2_with fail
    refine (unhide HX).mono ?_
    rintro e w4 ⟨rfl, ⟨t4, k4⟩, f4⟩
    have K4 := hide (And.intro k4.rk (fr_new (unhide H1).2 ((fq (r := r) (unhide F2)).trans f4) (unhide H1).1))
    clear k4 f4
    go_wp2
    go_end0
    exact ⟨rfl, by rw [unhide E0]; exact (unhide K4).1, (unhide K4).2⟩
  by_cases g9 : l = [78,85,77,66,69,82]
  · have y : ∀ m, ((bs l).toList == m) = (([78,85,77,66,69,82] : List UInt8) == m) := fun m => by rw [hsz, g9]
    have y0 : ((bs l).toList == [79,75]) = false := (y _).trans rfl
    have y1 : ((bs l).toList == [78,79,78,69]) = false := (y _).trans rfl
    have y2 : ((bs l).toList == [89,69,83]) = false := (y _).trans rfl
    have y3 : ((bs l).toList == [78,79]) = false := (y _).trans rfl
    have y4 : ((bs l).toList == [69,82,82]) = false := (y _).trans rfl
    have y5 : ((bs l).toList == [86,65,76,85,69]) = false := (y _).trans rfl
    have y6 : ((bs l).toList == [80,65,73,82,83]) = false := (y _).trans rfl
    have y7 : ((bs l).toList == [83,67,79,82,69,68]) = false := (y _).trans rfl
    have y8 : ((bs l).toList == [83,67,79,82,69]) = false := (y _).trans rfl
    have y9 : ((bs l).toList == [78,85,77,66,69,82]) = true := (y _).trans rfl
    have G := hide g9
    clear y hsz g0 g1 g2 g3 g4 g5 g6 g7 g8 g9
    have e0 : u.kind sc l t.next = u.number t.next := by rw [unhide G]; rfl
    have E0 := hide e0
    clear e0
    have HX := hide (rnumber_ok (unhide K2))
    go_wp2_with fail
    refine (unhide HX).mono ?_
    rintro e w4 ⟨rfl, ⟨t4, k4⟩, f4⟩
    have K4 := hide (And.intro k4.rk (fr_new (unhide H1).2 ((fq (r := r) (unhide F2)).trans f4) (unhide H1).1))
    clear k4 f4
    go_wp2
    go_end0
    exact ⟨rfl, by rw [unhide E0]; exact (unhide K4).1, (unhide K4).2⟩
  by_cases g10 : l = [78,85,77,66,69,82,83]
  · have y : ∀ m, ((bs l).toList == m) = (([78,85,77,66,69,82,83] : List UInt8) == m) := fun m => by rw [hsz, g10]
    have y0 : ((bs l).toList == [79,75]) = false := (y _).trans rfl
    have y1 : ((bs l).toList == [78,79,78,69]) = false := (y _).trans rfl
    have y2 : ((bs l).toList == [89,69,83]) = false := (y _).trans rfl
    have y3 : ((bs l).toList == [78,79]) = false := (y _).trans rfl
    have y4 : ((bs l).toList == [69,82,82]) = false := (y _).trans rfl
    have y5 : ((bs l).toList == [86,65,76,85,69]) = false := (y _).trans rfl
    have y6 : ((bs l).toList == [80,65,73,82,83]) = false := (y _).trans rfl
    have y7 : ((bs l).toList == [83,67,79,82,69,68]) = false := (y _).trans rfl
    have y8 : ((bs l).toList == [83,67,79,82,69]) = false := (y _).trans rfl
    have y9 : ((bs l).toList == [78,85,77,66,69,82]) = false := (y _).trans rfl
    have y10 : ((bs l).toList == [78,85,77,66,69,82,83]) = true := (y _).trans rfl
    have G := hide g10
    clear y hsz g0 g1 g2 g3 g4 g5 g6 g7 g8 g9 g10
    have e0 : u.kind sc l t.next = u.numbers t.next := by rw [unhide G]; rfl
    have E0 := hide e0
    clear e0
    have HX := hide (numbers_ok (unhide K2))
    go_wp2_with fail
    refine (unhide HX).mono ?_
    rintro e w4 ⟨rfl, ⟨t4, k4⟩, f4⟩
    have K4 := hide (And.intro k4.rk (fr_new (unhide H1).2 ((fq (r := r) (unhide F2)).trans f4) (unhide H1).1))
    clear k4 f4
    go_wp2
    go_end0
    exact ⟨rfl, by rw [unhide E0]; exact (unhide K4).1, (unhide K4).2⟩
  by_cases g11 : l = [83,80,82,69,65,68]
  · have y : ∀ m, ((bs l).toList == m) = (([83,80,82,69,65,68] : List UInt8) == m) := fun m => by rw [hsz, g11]
    have y0 : ((bs l).toList == [79,75]) = false := (y _).trans rfl
    have y1 : ((bs l).toList == [78,79,78,69]) = false := (y _).trans rfl
    have y2 : ((bs l).toList == [89,69,83]) = false := (y _).trans rfl
    have y3 : ((bs l).toList == [78,79]) = false := (y _).trans rfl
    have y4 : ((bs l).toList == [69,82,82]) = false := (y _).trans rfl
    have y5 : ((bs l).toList == [86,65,76,85,69]) = false := (y _).trans rfl
    have y6 : ((bs l).toList == [80,65,73,82,83]) = false := (y _).trans rfl
    have y7 : ((bs l).toList == [83,67,79,82,69,68]) = false := (y _).trans rfl
    have y8 : ((bs l).toList == [83,67,79,82,69]) = false := (y _).trans rfl
    have y9 : ((bs l).toList == [78,85,77,66,69,82]) = false := (y _).trans rfl
    have y10 : ((bs l).toList == [78,85,77,66,69,82,83]) = false := (y _).trans rfl
    have y11 : ((bs l).toList == [83,80,82,69,65,68]) = true := (y _).trans rfl
    have G := hide g11
    clear y hsz g0 g1 g2 g3 g4 g5 g6 g7 g8 g9 g10 g11
    have e0 : u.kind sc l t.next = u.scores sc 4 t.next.number := by rw [unhide G]; rfl
    have E0 := hide e0
    clear e0
    have HY := hide (at_number (unhide K2))
    go_wp2_with fail
    refine (unhide HY).mono ?_
    rintro e w3 ⟨rfl, k3, f3⟩
    have F3 := hide ((fq (r := r) (unhide F2)).trans (fq (r := r) f3))
    have HX := hide (scores_ok hs 4 (by decide) k3)
    clear k3 f3
    go_wp2_with fail
    refine (unhide HX).mono ?_
    rintro e w4 ⟨rfl, ⟨t4, k4⟩, f4⟩
    have K4 := hide (And.intro k4.rk (fr_new (unhide H1).2 ((unhide F3).trans f4) (unhide H1).1))
    clear k4 f4
    go_wp2
    go_end0
    exact ⟨rfl, by rw [unhide E0]; exact (unhide K4).1, (unhide K4).2⟩
  have y0 : ((bs l).toList == [79,75]) = false := by rw [hsz]; exact eqf g0
  have y1 : ((bs l).toList == [78,79,78,69]) = false := by rw [hsz]; exact eqf g1
  have y2 : ((bs l).toList == [89,69,83]) = false := by rw [hsz]; exact eqf g2
  have y3 : ((bs l).toList == [78,79]) = false := by rw [hsz]; exact eqf g3
  have y4 : ((bs l).toList == [69,82,82]) = false := by rw [hsz]; exact eqf g4
  have y5 : ((bs l).toList == [86,65,76,85,69]) = false := by rw [hsz]; exact eqf g5
  have y6 : ((bs l).toList == [80,65,73,82,83]) = false := by rw [hsz]; exact eqf g6
  have y7 : ((bs l).toList == [83,67,79,82,69,68]) = false := by rw [hsz]; exact eqf g7
  have y8 : ((bs l).toList == [83,67,79,82,69]) = false := by rw [hsz]; exact eqf g8
  have y9 : ((bs l).toList == [78,85,77,66,69,82]) = false := by rw [hsz]; exact eqf g9
  have y10 : ((bs l).toList == [78,85,77,66,69,82,83]) = false := by rw [hsz]; exact eqf g10
  have y11 : ((bs l).toList == [83,80,82,69,65,68]) = false := by rw [hsz]; exact eqf g11
  have E0 := hide (show u.kind sc l t.next = ⟨u.r, true⟩ by unfold RS.kind; simp only [g0, g1, g2, g3, g4, g5, g6, g7, g8, g9, g10, g11, or_self, if_false])
  clear hsz g0 g1 g2 g3 g4 g5 g6 g7 g8 g9 g10 g11
  have z1 := frozen_of_obj (unhide K2).rd 1
  have c1 : w2.cell? ⟨r, 1, none⟩ = some (.bool u.b) := cell_of_obj (unhide K2).rd 1
  go_wp2
  go_end0
  refine ⟨rfl, ?_, (fr_new (unhide H1).2 (fq (r := r) (unhide F2)) (unhide H1).1).setCell (.inl rfl) _⟩
  rw [unhide E0]
  exact (unhide K2).rk.reader (obj_set (unhide K2).rd 1 _) (fr_set (Fr.refl (fun k => k = r) w2) _ _) (unhide K2).sr
end Go.Proofs.YticflknfkaoejaaGreatDoor
