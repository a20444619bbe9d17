/- ReplyErrors: each error has its word, all others one. -/
import Derived.Test.YticflknfkaoejaaGreatDoorJunkW
namespace Go.Proofs.YticflknfkaoejaaGreatDoor
open Go.RowKit

/-- The law's own classes of errors. -/
def cls (e : Int) : Int := if e = 5 then 2 else if e = 2 ∨ e = 3 ∨ e = 6 ∨ e = 50 ∨ e = 60 ∨ e = 61 ∨ e = 65 then e else 1
set_option maxRecDepth 100000 in
set_option maxHeartbeats 1000000 in
theorem cls_ok (z : Int) (w : World) : Calls Tryz.prog 7 #[iv z] w fun e w' => e = .returned (iv (cls z)) ∧ w' = w := by
  by_cases g0 : z = 5
  · subst g0
    go_enter Tryz.func7, Tryz.ntmps7
    go_wp2
    go_ret
    exact ⟨rfl, rfl⟩
  by_cases g1 : z = 2 ∨ z = 3 ∨ z = 6 ∨ z = 50 ∨ z = 60 ∨ z = 61 ∨ z = 65
  · clear g0
    rcases g1 with rfl | rfl | rfl | rfl | rfl | rfl | rfl
    all_goals
      go_enter Tryz.func7, Tryz.ntmps7
      go_wp2
      go_ret
      exact ⟨rfl, rfl⟩
  · have y0 : (z == 5) = false := by simpa using g0
    have HE := hide (show cls z = 1 by unfold cls; rw [if_neg g0, if_neg g1])
    simp only [not_or] at g1
    obtain ⟨g1, g2, g3, g4, g5, g6, g7⟩ := g1
    have y1 : (z == 2) = false := by simpa using g1
    have y2 : (z == 3) = false := by simpa using g2
    have y3 : (z == 6) = false := by simpa using g3
    have y4 : (z == 50) = false := by simpa using g4
    have y5 : (z == 60) = false := by simpa using g5
    have y6 : (z == 61) = false := by simpa using g6
    have y7 : (z == 65) = false := by simpa using g7
    clear g0 g1 g2 g3 g4 g5 g6 g7
    go_enter Tryz.func7, Tryz.ntmps7
    go_wp2
    go_ret
    exact ⟨by rw [unhide HE]; rfl, rfl⟩
/-- The words of the classes. -/
def wrdC (k : Int) : List UInt8 := if k = 3 then [83,89,78,84,65,88] else if k = 2 then [84,79,79,66,73,71] else if k = 61 then [78,79,83,78,65,80] else if k = 60 then [70,85,76,76] else if k = 6 then [78,65,78] else if k = 65 then [77,65,78,89] else if k = 50 then [68,69,65,68] else [65,82,71]
theorem errW_cls (e : Int) : errW e = wrdC (cls e) ∧ cls e ∈ ([3, 2, 61, 60, 6, 65, 50, 1] : List Int) := by
  by_cases g0 : e = 5
  · subst g0; decide
  by_cases g1 : e = 2 ∨ e = 3 ∨ e = 6 ∨ e = 50 ∨ e = 60 ∨ e = 61 ∨ e = 65
  · rcases g1 with rfl | rfl | rfl | rfl | rfl | rfl | rfl <;> decide
  · have h : cls e = 1 := by unfold cls; rw [if_neg g0, if_neg g1]
    simp only [not_or] at g1
    obtain ⟨g1, g2, g3, g4, g5, g6, g7⟩ := g1
    rw [h]
    refine ⟨?_, by decide⟩
    unfold errW
    simp only [g0, g1, g2, g3, g4, g5, g6, g7, if_false]
    decide
theorem wrdC_inj : ∀ a ∈ ([3, 2, 61, 60, 6, 65, 50, 1] : List Int), ∀ b ∈ ([3, 2, 61, 60, 6, 65, 50, 1] : List Int), wrdC a = wrdC b → a = b := by decide
theorem errL_eq (a b : Int) : ((errL a) == (errL b)) = decide (cls a = cls b) := by
  obtain ⟨h1, h2⟩ := errW_cls a
  obtain ⟨h3, h4⟩ := errW_cls b
  by_cases h : cls a = cls b
  · rw [decide_eq_true h]
    unfold errL
    rw [h1, h3, h]
    simp
  · rw [decide_eq_false h]
    apply beq_eq_false_iff_ne.2
    intro e
    unfold errL at e
    have e2 := (List.append_cancel_left e)
    injection e2 with _ e3
    have e4 := List.append_cancel_right e3
    rw [h1, h3] at e4
    exact h (wrdC_inj _ h2 _ h4 e4)
theorem errW_no (e : Int) : (10 : UInt8) ∉ errW e ∧ (32 : UInt8) ∉ errW e ∧ isE (errW e) = true := by
  obtain ⟨h1, h2⟩ := errW_cls e
  rw [h1]
  have key : ∀ a ∈ ([3, 2, 61, 60, 6, 65, 50, 1] : List Int), (10 : UInt8) ∉ wrdC a ∧ (32 : UInt8) ∉ wrdC a ∧ isE (wrdC a) = true := by decide
  exact key _ h2
/-- A line of answers. -/
theorem line_at (sc : List UInt8 → Bool) (ln t : List UInt8) (h : (10 : UInt8) ∉ ln) : RS.answer sc ⟨ln ++ 10 :: t, false⟩ = RS.kind sc ⟨t, false⟩ (WS.word ⟨ln, true, false⟩) (WS.next ⟨ln, true, false⟩) := by
  unfold RS.answer RS.line RS.words
  rw [cut_some h]
  rfl
theorem word_at (k d : List UInt8) (h : (32 : UInt8) ∉ k) (m b : Bool) : WS.word ⟨k ++ 32 :: d, m, b⟩ = k ∧ WS.next ⟨k ++ 32 :: d, m, b⟩ = ⟨d, true, b⟩ := by
  unfold WS.word WS.next
  rw [cut_some h]
  exact ⟨rfl, rfl⟩
theorem word_last (k : List UInt8) (h : (32 : UInt8) ∉ k) (m b : Bool) : WS.word ⟨k, m, b⟩ = k ∧ WS.next ⟨k, m, b⟩ = ⟨[], false, b⟩ := by
  unfold WS.word WS.next
  rw [cut_none h]
  exact ⟨rfl, rfl⟩
theorem ans_err (sc : List UInt8 → Bool) (e : Int) : IsAns sc (errL e) := by
  obtain ⟨h1, h2, h3⟩ := errW_no e
  refine ⟨by simp [errL], fun t => ?_⟩
  have hn : (10 : UInt8) ∉ ([69,82,82] ++ 32 :: errW e : List UInt8) := by simp [h1]
  have e1 : errL e ++ t = ([69,82,82] ++ 32 :: errW e) ++ 10 :: t := by simp [errL]
  rw [e1, line_at sc _ t hn, (word_at _ _ (by decide) _ _).1, (word_at _ _ (by decide) _ _).2]
  have e2 : RS.kind sc ⟨t, false⟩ [69,82,82] ⟨errW e, true, false⟩ = RS.reason ⟨t, false⟩ ⟨errW e, true, false⟩ := rfl
  rw [e2]
  unfold RS.reason
  rw [(word_last _ h2 _ _).1, (word_last _ h2 _ _).2, h3]
  rfl
theorem ans_ok (sc : List UInt8 → Bool) : IsAns sc [79,75,10] := by
  refine ⟨by simp, fun t => ?_⟩
  have e1 : [79,75,10] ++ t = [79,75] ++ 10 :: t := rfl
  rw [e1, line_at sc _ t (by decide), (word_last _ (by decide) _ _).1, (word_last _ (by decide) _ _).2]
  rfl
theorem ans_none (sc : List UInt8 → Bool) : IsAns sc [78,79,78,69,10] := by
  refine ⟨by simp, fun t => ?_⟩
  have e1 : [78,79,78,69,10] ++ t = [78,79,78,69] ++ 10 :: t := rfl
  rw [e1, line_at sc _ t (by decide), (word_last _ (by decide) _ _).1, (word_last _ (by decide) _ _).2]
  rfl

set_option maxRecDepth 100000 in
set_option maxHeartbeats 4000000 in
theorem errors_ok (a b : Int) {W : World} (hK : Kn W W) : Calls Tryz.prog 3 #[iv a, iv b] W fun e w' => e = .returned (.bool true) ∧ Below W.heap.size W w' := by
  obtain ⟨sc, hsc⟩ := scs
  have HK := hide hK
  have hen : ∀ args w, (callFunc 7 args).run Tryz.prog w = .ok (.enter 7 args) w := enters_of Tryz.func7 (by kernel_rfl) rfl
  have HE := hide (fun z w => rerr_ok z w)
  have HO := hide rok_ok
  have HN := hide rnone_ok
  have hln : ∀ z, (errL z).length ≤ 11 := fun z => by unfold errL; have := errW_len z; simp; omega
  have h5 : ∀ z, 5 < (errL z).length := fun z => by
    obtain ⟨h1, h2⟩ := errW_cls z
    unfold errL
    rw [h1]
    have key : ∀ a ∈ ([3, 2, 61, 60, 6, 65, 50, 1] : List Int), 3 ≤ (wrdC a).length := by decide
    have := key _ h2
    simp; omega
  have hp : ansL sc (errL a ++ errL b ++ [79,75,10]) = some [errL a, errL b, [79,75,10]] := by
    have := parts_flat (sc := sc) [errL a, errL b, [79,75,10]] (by
      intro p hp
      simp only [List.mem_cons, List.not_mem_nil, or_false] at hp
      rcases hp with rfl | rfl | rfl
      · exact ans_err sc a
      · exact ans_err sc b
      · exact ans_ok sc)
    simpa [List.flatten] using this
  have hx := errL_eq a b
  have ho : (errL a == [79,75,10]) = false := by apply beq_eq_false_iff_ne.2; intro e; have := h5 a; rw [e] at this; simp at this
  have hno : (errL a == [78,79,78,69,10]) = false := by apply beq_eq_false_iff_ne.2; intro e; have := h5 a; rw [e] at this; simp at this
  have hf : (errL a).take 4 = [69,82,82,32] := rfl
  have ha1 := hln a
  have hb1 := hln b
  have hw := h5 a
  obtain ⟨x, hxa⟩ : ∃ x, errL a = x := ⟨_, rfl⟩
  obtain ⟨y, hyb⟩ : ∃ y, errL b = y := ⟨_, rfl⟩
  have hEa := fun w => rerr_ok a w
  have hEb := fun w => rerr_ok b w
  rw [hxa] at hp hx ho hno hf ha1 hw hEa
  rw [hyb] at hp hx hb1 hEb
  obtain ⟨c1, hc1⟩ : ∃ c, cls a = c := ⟨_, rfl⟩
  obtain ⟨c2, hc2⟩ : ∃ c, cls b = c := ⟨_, rfl⟩
  have hCa := fun w => cls_ok a w
  have hCb := fun w => cls_ok b w
  rw [hc1] at hx hCa
  rw [hc2] at hx hCb
  have hP := fun (w : World) (k : Kn W w) => parse_ok hsc (x ++ y ++ [79,75,10]) (by simp; omega) k
  rw [hp] at hP
  have d1 := fun w => bs_add x y (by omega) w
  have d2 := fun w => bs_add (x ++ y) [79,75,10] (by simp; omega) w
  obtain ⟨xy, hxy⟩ : ∃ xy, x ++ y = xy := ⟨_, rfl⟩
  obtain ⟨xyz, hxyz⟩ : ∃ xyz, xy ++ [79,75,10] = xyz := ⟨_, rfl⟩
  rw [hxy] at hP d1 d2
  rw [hxyz] at hP d2
  have HP := hide hP
  have HEa := hide hEa
  have HEb := hide hEb
  have HCa := hide hCa
  have HCb := hide hCb
  have q1 : ((bs x).toList == (bs y).toList) = decide (c1 = c2) := by rw [bs_list, bs_list]; exact hx
  have q2 : ((c1 : Int) == c2) = decide (c1 = c2) := rfl
  have q3 : ((bs x).toList == (bs [79,75,10]).toList) = false := by rw [bs_list, bs_list]; exact ho
  have q4 : ((bs x).toList == (bs [78,79,78,69,10]).toList) = false := by rw [bs_list, bs_list]; exact hno
  have hs4 : ∀ w, (Instr.slice 9 (.string (bs x)) none (some (.int .i64 4)) none).run Tryz.prog w = .ok (.string (bs [69,82,82,32])) w := fun w => by
    rw [← hf]; exact bs_to x 4 .i64 (by omega) w
  have hszx := bs_size x
  have H5 := hide hw
  have hw' : ((5 : Int) < (x.length : Int)) = True := by simp; omega
  have q5 : ((bs [69,82,82,32]).toList == [69,82,82,32]) = true := by rw [bs_list]; rfl
  have q6 : ((bs x).toList == (bs x).toList) = true := by simp
  have q7 : ((bs y).toList == (bs y).toList) = true := by simp
  obtain ⟨cc, hcc⟩ : ∃ cc, decide (c1 = c2) = cc := ⟨_, rfl⟩
  rw [hcc] at q1 q2
  clear hK hln h5 hp hx ho hno hf ha1 hb1 hw hxa hyb hEa hEb hc1 hc2 hCa hCb hP hcc HE hxy hxyz
  go_enter Tryz.func3, Tryz.ntmps3
  go_wp2_with fail
  refine (unhide HEa _).mono ?_
  rintro e w1 ⟨rfl, s1⟩
  have S1 := hide s1
  clear s1 HEa
  go_wp2_with fail
  refine (unhide HEb _).mono ?_
  rintro e w2 ⟨rfl, s2⟩
  have S2 := hide ((unhide S1).trans s2)
  clear s2 HEb
  have HA := hide (fun w2 (f : Still W w2) => awake_ok ((unhide HK).still f))
  cases cc
  all_goals
    go_wp2_with fail
    refine (unhide HCa _).mono ?_
    rintro e w9 ⟨rfl, he⟩
    replace he := he.symm
    subst he
    go_wp2_with fail
    refine (unhide HCb _).mono ?_
    rintro e w9 ⟨rfl, he⟩
    replace he := he.symm
    subst he
    go_wp2_with fail
    refine (unhide HO _).mono ?_
    rintro e w3 ⟨rfl, s3⟩
    have S3 := hide ((unhide S2).trans s3)
    clear s3
    go_wp2_with fail
    refine (unhide HN _).mono ?_
    rintro e w4 ⟨rfl, s4⟩
    have S4 := hide ((unhide S3).trans s4)
    clear s4
    go_wp2_with fail
    refine (unhide HO _).mono ?_
    rintro e w5 ⟨rfl, s5⟩
    have S5 := hide ((unhide S4).trans s5)
    clear s5
    go_wp2_with fail
    refine (unhide HP _ ((unhide HK).still (unhide S5))).mono ?_
    rintro e w6 ⟨⟨v, rfl, t6⟩, s6⟩
    have S6 := hide ((unhide S5).trans s6)
    obtain ⟨p, c, rfl, hc⟩ := t6.rd
    obtain ⟨g, rfl, y0⟩ := hc 0 x rfl
    obtain ⟨g', hg', y1⟩ := hc 1 y rfl
    cases hg'
    have HA2 := hide (unhide HA _ (unhide S6))
    rw [show ([x, y, [79, 75, 10]] : List (List UInt8)).length = 3 from rfl]
    clear s6 t6 hc HA HP HO HN HCa HCb d1 d2
    go_wp2_with fail
    refine (unhide HA2).mono ?_
    rintro e w7 ⟨rfl, s7⟩
    have S7 := hide ((unhide S6).trans s7)
    clear s7
    go_wp2
    go_ret
    exact ⟨rfl, (unhide S7).below (Nat.le_refl _) fun _ x => x.elim⟩
end Go.Proofs.YticflknfkaoejaaGreatDoor
