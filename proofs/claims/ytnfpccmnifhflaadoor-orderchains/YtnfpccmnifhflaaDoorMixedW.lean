/- OrderMixed walked. -/
import Derived.Test.YtnfpccmnifhflaaDoorKeysW
namespace Go.Proofs.YtnfpccmnifhflaaDoor
open Go.RowKit

theorem bs_leq (a b : List UInt8) (h : ¬ b < a) : (Op.bytesLess (bs a).toList (bs b).toList || (bs a).toList == (bs b).toList) = true := by
  rw [bs_less, bs_beq]
  by_cases e : a = b
  · simp [e]
  · have : a < b := by
      rcases Classical.em (a < b) with k | k
      · exact k
      · exact absurd (List.le_antisymm (List.not_lt.1 h) (List.not_lt.1 k)) e
    simp [this]
theorem be_top : be 8 18446744073709551615 = [255, 255, 255, 255, 255, 255, 255, 255] := by decide
theorem nxt_be (C : Nat) (hC : C < 18446744073709551616) : nxt (be 8 C) = none ↔ C = 18446744073709551615 := by
  constructor
  · intro h
    have h2 := (nxt_all _).1 h
    refine be_inj 8 C 18446744073709551615 (by simpa using hC) (by decide) ?_
    rw [be_top]
    have hl := be_len 8 C
    rw [List.eq_replicate_iff.2 ⟨hl, h2⟩]
    rfl
  · rintro rfl
    rw [be_top]
    exact (nxt_all _).2 (by decide)
theorem code_nan (x : Nat) (hx : x < 18446744073709551616) : codeN x = 18446744073709551615 ↔ nanB x = true := by
  unfold codeN
  by_cases h : nanB x = true
  · rw [if_pos h]; exact iff_of_true rfl h
  · rw [if_neg h]
    refine iff_of_false (fun e => ?_) h
    have hn : ¬ (9218868437227405312 < x % 9223372036854775808) := by unfold nanB at h; simpa using h
    split at e <;> omega
/-- What lies between the keys of two scores. -/
theorem mix (C D : Nat) (hC : C < 18446744073709551616) (hD : D < 18446744073709551616) (h : C < D) (m n : List UInt8) : ∃ nx, nxt (be 8 C) = some nx ∧ be 8 C ++ m < nx ∧ ¬ be 8 D ++ n < nx ∧ be 8 C ++ m < be 8 D ++ n := by
  have hC' : C < 256 ^ 8 := by simpa using hC
  have hD' : D < 256 ^ 8 := by simpa using hD
  cases hx : nxt (be 8 C) with
  | none => exact absurd ((nxt_be C hC).1 hx) (by omega)
  | some nx =>
    refine ⟨nx, rfl, ((nxt_pre _ nx _ hx).2 (List.prefix_append _ _)).2, fun hl => ?_, (be_lt 8 C D m n hC' hD').2 (.inl h)⟩
    have h1 : be 8 C < be 8 D ++ n := by
      have := (be_lt 8 C D [] n hC' hD').2 (.inl h)
      rwa [List.append_nil] at this
    have h2 : ¬ be 8 D ++ n < be 8 C := fun k => List.lt_irrefl _ (List.lt_trans h1 k)
    have h3 := (nxt_pre _ nx _ hx).1 ⟨h2, hl⟩
    have h4 : be 8 C = be 8 D := by
      have h5 := List.prefix_iff_eq_take.1 h3
      rw [be_len, List.take_append_of_le_length (by rw [be_len]; exact Nat.le_refl _), List.take_of_length_le (by rw [be_len]; exact Nat.le_refl _)] at h5
      exact h5
    exact absurd (be_inj 8 C D hC' hD' h4) (by omega)

/-- A score's own edge. -/
theorem mix_one (C : Nat) (hC : C < 18446744073709551616) (h : C ≠ 18446744073709551615) (m : List UInt8) : ∃ nx, nxt (be 8 C) = some nx ∧ be 8 C ++ m < nx := by
  cases hx : nxt (be 8 C) with
  | none => exact absurd ((nxt_be C hC).1 hx) h
  | some nx => exact ⟨nx, rfl, ((nxt_pre _ nx _ hx).2 (List.prefix_append _ _)).2⟩

set_option maxRecDepth 100000 in
set_option maxHeartbeats 8000000 in
theorem mixed_ok (a : Nat) (m : List UInt8) (b : Nat) (n : List UInt8) (ha : a < 18446744073709551616) (hm : m.length ≤ 140737488355328) (hb : b < 18446744073709551616) (hn : n.length ≤ 140737488355328) (w : World) : Calls Tryd.prog 4 #[.int .u64 a, .string (bs m), .int .u64 b, .string (bs n)] w fun e w' => e = .returned (.bool true) ∧ Below w.heap.size w w' := by
  have hf := from_run
  have ho := ord_self a ha
  have Ka := key_ok a ha m (by omega)
  have Kb := key_ok b hb n (by omega)
  have Sa := score_ok a ha
  have Sb := score_ok b hb
  have Na := fun w => next_ok (be 8 (codeN a)) w (by rw [be_len]; omega)
  have Nb := fun w => next_ok (be 8 (codeN b)) w (by rw [be_len]; omega)
  have Sm := same_ok a b ha hb
  have Cm := cmp_ok a b ha hb
  by_cases hbr : m = [] ∨ n = [] ∨ codeN a = codeN b
  · have hbr2 : (bs m).toList.isEmpty = true ∨ ((bs m).toList.isEmpty = false ∧ (bs n).toList.isEmpty = true) ∨ ((bs m).toList.isEmpty = false ∧ (bs n).toList.isEmpty = false ∧ (cmp3 (codeN a) (codeN b) == 0) = true) := by
      by_cases h1 : m = []
      · exact .inl (by rw [h1]; exact bs_is)
      · by_cases h2 : n = []
        · exact .inr (.inl ⟨bs_ne m h1, by rw [h2]; exact bs_is⟩)
        · have h3 := (hbr.resolve_left h1).resolve_left h2
          exact .inr (.inr ⟨bs_ne m h1, bs_ne n h2, by rw [h3]; unfold cmp3; rw [if_neg (by omega), if_neg (by omega)]; rfl⟩)
    clear hbr
    generalize cmp3 (codeN a) (codeN b) = cc at *
    by_cases hna : nanB a = true
    · have hN := (nxt_be _ (codeN_lt a ha)).2 ((code_nan a ha).2 hna)
      rw [hN] at Na
      rw [hna] at ho
      have Na' : ∀ w, Calls Tryd.prog 14 #[.string (bs (be 8 (codeN a)))] w fun e w' => e = .returned (.tuple #[.string (bs []), .bool false]) ∧ Below w.heap.size w w' := Na
      clear Na hN hna Nb Sb Kb Ka Cm
      generalize be 8 (codeN a) = p at *
      rcases hbr2 with h1 | ⟨h1, h2⟩ | ⟨h1, h2, h3⟩
      · go_enter Tryd.func4, Tryd.ntmps4
        go_wp2_with fail
        refine (Sa _).mono ?_
        rintro e w1 ⟨rfl, b1⟩
        go_wp2_with fail
        refine (Na' _).mono ?_
        rintro e w2 ⟨rfl, b2⟩
        go_wp2_with fail
        refine (awake_ok _).mono ?_
        rintro e w3 ⟨rfl, b3⟩
        go_wp2
        go_ret
        exact ⟨rfl, thenB b1 (thenB b2 b3)⟩
      · go_enter Tryd.func4, Tryd.ntmps4
        go_wp2_with fail
        refine (Sa _).mono ?_
        rintro e w1 ⟨rfl, b1⟩
        go_wp2_with fail
        refine (Na' _).mono ?_
        rintro e w2 ⟨rfl, b2⟩
        go_wp2_with fail
        refine (awake_ok _).mono ?_
        rintro e w3 ⟨rfl, b3⟩
        go_wp2
        go_ret
        exact ⟨rfl, thenB b1 (thenB b2 b3)⟩
      · go_enter Tryd.func4, Tryd.ntmps4
        go_wp2_with fail
        refine (Sm _).mono ?_
        rintro e w9 ⟨rfl, he⟩
        replace he := he.symm
        subst he
        go_wp2_with fail
        refine (Sa _).mono ?_
        rintro e w1 ⟨rfl, b1⟩
        go_wp2_with fail
        refine (Na' _).mono ?_
        rintro e w2 ⟨rfl, b2⟩
        go_wp2_with fail
        refine (awake_ok _).mono ?_
        rintro e w3 ⟨rfl, b3⟩
        go_wp2
        go_ret
        exact ⟨rfl, thenB b1 (thenB b2 b3)⟩
    · have hna' : nanB a = false := by simpa using hna
      obtain ⟨nx, hN, hlt⟩ := mix_one (codeN a) (codeN_lt a ha) (fun e => hna ((code_nan a ha).1 e)) m
      rw [hN] at Na
      rw [hna'] at ho
      have hL : Op.bytesLess (bs (be 8 (codeN a) ++ m)).toList (bs nx).toList = true := by rw [bs_less]; exact decide_eq_true hlt
      have Na' : ∀ w, Calls Tryd.prog 14 #[.string (bs (be 8 (codeN a)))] w fun e w' => e = .returned (.tuple #[.string (bs nx), .bool true]) ∧ Below w.heap.size w w' := Na
      clear Na hN hna hna' Nb Sb Kb Cm hlt
      generalize be 8 (codeN a) ++ m = pm at *
      generalize be 8 (codeN a) = p at *
      rcases hbr2 with h1 | ⟨h1, h2⟩ | ⟨h1, h2, h3⟩
      · go_enter Tryd.func4, Tryd.ntmps4
        go_wp2_with fail
        refine (Sa _).mono ?_
        rintro e w1 ⟨rfl, b1⟩
        go_wp2_with fail
        refine (Na' _).mono ?_
        rintro e w2 ⟨rfl, b2⟩
        go_wp2_with fail
        refine (awake_ok _).mono ?_
        rintro e w3 ⟨rfl, b3⟩
        go_wp2
        go_ret
        exact ⟨rfl, thenB b1 (thenB b2 b3)⟩
      · go_enter Tryd.func4, Tryd.ntmps4
        go_wp2_with fail
        refine (Sa _).mono ?_
        rintro e w1 ⟨rfl, b1⟩
        go_wp2_with fail
        refine (Na' _).mono ?_
        rintro e w2 ⟨rfl, b2⟩
        go_wp2_with fail
        refine (Ka _).mono ?_
        rintro e w4 ⟨rfl, b4⟩
        go_wp2_with fail
        refine (awake_ok _).mono ?_
        rintro e w3 ⟨rfl, b3⟩
        go_wp2
        go_ret
        exact ⟨rfl, thenB b1 (thenB b2 (thenB b4 b3))⟩
      · go_enter Tryd.func4, Tryd.ntmps4
        go_wp2_with fail
        refine (Sm _).mono ?_
        rintro e w9 ⟨rfl, he⟩
        replace he := he.symm
        subst he
        go_wp2_with fail
        refine (Sa _).mono ?_
        rintro e w1 ⟨rfl, b1⟩
        go_wp2_with fail
        refine (Na' _).mono ?_
        rintro e w2 ⟨rfl, b2⟩
        go_wp2_with fail
        refine (Ka _).mono ?_
        rintro e w4 ⟨rfl, b4⟩
        go_wp2_with fail
        refine (awake_ok _).mono ?_
        rintro e w3 ⟨rfl, b3⟩
        go_wp2
        go_ret
        exact ⟨rfl, thenB b1 (thenB b2 (thenB b4 b3))⟩
  · have h1 : m ≠ [] := fun h => hbr (.inl h)
    have h2 : n ≠ [] := fun h => hbr (.inr (.inl h))
    have h3 : codeN a ≠ codeN b := fun h => hbr (.inr (.inr h))
    have e1 := bs_ne m h1
    have e2 := bs_ne n h2
    have P1 := parts_ok (be 8 (codeN a) ++ m) (by rw [List.length_append, be_len]; omega)
    rw [ptV_key a ha m, if_neg h1] at P1
    have P2 := parts_ok (be 8 (codeN b) ++ n) (by rw [List.length_append, be_len]; omega)
    rw [ptV_key b hb n, if_neg h2] at P2
    have Sb1 := sameBits_ok (backN (codeN a)) a (backN_lt _ (codeN_lt a ha)) ha (back_code a ha)
    have Sb2 := sameBits_ok (backN (codeN b)) b (backN_lt _ (codeN_lt b hb)) hb (back_code b hb)
    clear hbr h1 h2 ho
    rcases Nat.lt_or_gt_of_ne h3 with h | h
    · have c1 : cmp3 (codeN a) (codeN b) = -1 := by unfold cmp3; rw [if_pos h]
      rw [c1] at Sm Cm
      obtain ⟨nx, hN, l1, l2, l3⟩ := mix (codeN a) (codeN b) (codeN_lt a ha) (codeN_lt b hb) h m n
      rw [hN] at Na
      have Na' : ∀ w, Calls Tryd.prog 14 #[.string (bs (be 8 (codeN a)))] w fun e w' => e = .returned (.tuple #[.string (bs nx), .bool true]) ∧ Below w.heap.size w w' := Na
      have L1 : Op.bytesLess (bs (be 8 (codeN a) ++ m)).toList (bs nx).toList = true := by rw [bs_less]; exact decide_eq_true l1
      have L2 := bs_leq nx (be 8 (codeN b) ++ n) l2
      have L3 : Op.bytesLess (bs (be 8 (codeN a) ++ m)).toList (bs (be 8 (codeN b) ++ n)).toList = true := by rw [bs_less]; exact decide_eq_true l3
      clear Na Nb hN h h3 l1 l2 l3 c1
      generalize be 8 (codeN a) ++ m = pm at *
      generalize be 8 (codeN b) ++ n = qn at *
      generalize be 8 (codeN a) = p at *
      generalize backN (codeN a) = z at *
      go_enter Tryd.func4, Tryd.ntmps4
      go_wp2_with fail
      refine (Sm _).mono ?_
      rintro e w9 ⟨rfl, he⟩
      replace he := he.symm
      subst he
      go_wp2_with fail
      refine (Ka _).mono ?_
      rintro e w1 ⟨rfl, b1⟩
      go_wp2_with fail
      refine (Kb _).mono ?_
      rintro e w2 ⟨rfl, b2⟩
      go_wp2_with fail
      refine (Cm _).mono ?_
      rintro e w9 ⟨rfl, he⟩
      replace he := he.symm
      subst he
      go_wp2_with fail
      refine (Sa _).mono ?_
      rintro e w3 ⟨rfl, b3⟩
      go_wp2_with fail
      refine (Na' _).mono ?_
      rintro e w4 ⟨rfl, b4⟩
      go_wp2_with fail
      refine (P1 _).mono ?_
      rintro e w5 ⟨rfl, b5⟩
      go_wp2_with fail
      refine (Sb1 _).mono ?_
      rintro e w9 ⟨rfl, he⟩
      replace he := he.symm
      subst he
      go_wp2_with fail
      refine (awake_ok _).mono ?_
      rintro e w6 ⟨rfl, b6⟩
      go_wp2
      go_ret
      exact ⟨rfl, thenB b1 (thenB b2 (thenB b3 (thenB b4 (thenB b5 b6))))⟩
    · have c1 : cmp3 (codeN a) (codeN b) = 1 := by unfold cmp3; rw [if_neg (by omega), if_pos h]
      rw [c1] at Sm Cm
      obtain ⟨nx, hN, l1, l2, l3⟩ := mix (codeN b) (codeN a) (codeN_lt b hb) (codeN_lt a ha) h n m
      rw [hN] at Nb
      have Na' : ∀ w, Calls Tryd.prog 14 #[.string (bs (be 8 (codeN b)))] w fun e w' => e = .returned (.tuple #[.string (bs nx), .bool true]) ∧ Below w.heap.size w w' := Nb
      have L1 : Op.bytesLess (bs (be 8 (codeN b) ++ n)).toList (bs nx).toList = true := by rw [bs_less]; exact decide_eq_true l1
      have L2 := bs_leq nx (be 8 (codeN a) ++ m) l2
      have L3 : Op.bytesLess (bs (be 8 (codeN b) ++ n)).toList (bs (be 8 (codeN a) ++ m)).toList = true := by rw [bs_less]; exact decide_eq_true l3
      clear Na Nb hN h h3 l1 l2 l3 c1
      generalize be 8 (codeN a) ++ m = pm at *
      generalize be 8 (codeN b) ++ n = qn at *
      generalize be 8 (codeN b) = p at *
      generalize backN (codeN b) = z at *
      go_enter Tryd.func4, Tryd.ntmps4
      go_wp2_with fail
      refine (Sm _).mono ?_
      rintro e w9 ⟨rfl, he⟩
      replace he := he.symm
      subst he
      go_wp2_with fail
      refine (Ka _).mono ?_
      rintro e w1 ⟨rfl, b1⟩
      go_wp2_with fail
      refine (Kb _).mono ?_
      rintro e w2 ⟨rfl, b2⟩
      go_wp2_with fail
      refine (Cm _).mono ?_
      rintro e w9 ⟨rfl, he⟩
      replace he := he.symm
      subst he
      go_wp2_with fail
      refine (Sb _).mono ?_
      rintro e w3 ⟨rfl, b3⟩
      go_wp2_with fail
      refine (Na' _).mono ?_
      rintro e w4 ⟨rfl, b4⟩
      go_wp2_with fail
      refine (P2 _).mono ?_
      rintro e w5 ⟨rfl, b5⟩
      go_wp2_with fail
      refine (Sb2 _).mono ?_
      rintro e w9 ⟨rfl, he⟩
      replace he := he.symm
      subst he
      go_wp2_with fail
      refine (awake_ok _).mono ?_
      rintro e w6 ⟨rfl, b6⟩
      go_wp2
      go_ret
      exact ⟨rfl, thenB b1 (thenB b2 (thenB b3 (thenB b4 (thenB b5 b6))))⟩
end Go.Proofs.YtnfpccmnifhflaaDoor
