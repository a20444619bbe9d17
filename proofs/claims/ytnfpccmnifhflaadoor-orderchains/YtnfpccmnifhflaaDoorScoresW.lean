/- OrderScores walked. -/
import Derived.Test.YtnfpccmnifhflaaDoorOh
namespace Go.Proofs.YtnfpccmnifhflaaDoor
open Go.RowKit

theorem thenB {a b c : World} (h : Below a.heap.size a b) (k : Below b.heap.size b c) : Below a.heap.size a c := h.trans (k.mono h.size)
theorem tsV_form (l : List UInt8) : ∃ (f : Nat) (r : List UInt8) (e : Nat), tsV l = #[.float .f64 f, .string (bs r), .int .i64 (e : Nat)] ∧ f < 18446744073709551616 := by
  unfold tsV
  split
  · exact ⟨0, [], 4, rfl, by decide⟩
  · split
    · exact ⟨_, _, 0, rfl, backN_lt _ (unbe8 l)⟩
    · exact ⟨0, [], 3, rfl, by decide⟩
theorem code_back (x : Nat) (hx : x < 18446744073709551616) : codeN (backN (codeN x)) = codeN x := by
  rcases back_code x hx with h | ⟨h1, h2⟩
  · rw [h]
  · have e1 : codeN x = 18446744073709551615 := by unfold codeN; rw [if_pos h2]
    have e2 : codeN (backN (codeN x)) = 18446744073709551615 := by rw [codeN, if_pos h1]
    rw [e2, e1]
theorem tsV_key (x : Nat) (hx : x < 18446744073709551616) (j : List UInt8) : tsV (be 8 (codeN x) ++ j) = #[.float .f64 (backN (codeN x)), .string (bs j), .int .i64 0] := by
  have ht : (be 8 (codeN x) ++ j).take 8 = be 8 (codeN x) := by
    rw [List.take_append_of_le_length (by rw [be_len]; exact Nat.le_refl _), List.take_of_length_le (by rw [be_len]; exact Nat.le_refl _)]
  have hd : (be 8 (codeN x) ++ j).drop 8 = j := by
    have := List.drop_left (l₁ := be 8 (codeN x)) (l₂ := j)
    rwa [be_len] at this
  have hu : unbe (be 8 (codeN x)) = codeN x := unbe_be 8 _ (codeLt x hx)
  unfold tsV
  rw [if_neg (by rw [List.length_append, be_len]; omega), ht, hd, hu, if_pos (code_back x hx)]
/-- How two scores stand. -/
theorem be_key (a b : Nat) (ha : a < 18446744073709551616) (hb : b < 18446744073709551616) (m n : List UInt8) : (be 8 (codeN a) ++ m < be 8 (codeN b) ++ n) ↔ (codeN a < codeN b ∨ codeN a = codeN b ∧ m < n) :=
  be_lt 8 _ _ m n (codeLt a ha) (codeLt b hb)
theorem bs_beq (a b : List UInt8) : ((bs a).toList == (bs b).toList) = decide (a = b) := by
  rw [bs_list, bs_list]
  by_cases h : a = b
  · rw [decide_eq_true h]; simp [h]
  · rw [decide_eq_false h]; simpa using h

set_option maxRecDepth 100000 in
set_option maxHeartbeats 4000000 in
theorem scores_ok (a b : Nat) (l : List UInt8) (ha : a < 18446744073709551616) (hb : b < 18446744073709551616) (hl : l.length ≤ 140737488355328) (w : World) : Calls Tryd.prog 7 #[.int .u64 a, .int .u64 b, .string (bs l)] w fun e w' => e = .returned (.bool true) ∧ Below w.heap.size w w' := by
  have hf := from_run
  have S := fun x hx => score_ok x hx
  have hadd := bs_add (be 8 (codeN a)) l (by rw [be_len]; omega)
  have T1 := takeScore_ok (be 8 (codeN a) ++ l) (by rw [List.length_append, be_len]; omega)
  rw [tsV_key a ha l] at T1
  have T2 := takeScore_ok l (by omega)
  have T3 := rtakeScore_ok l (by omega)
  obtain ⟨f, r, e, hV, hff⟩ := tsV_form l
  rw [hV] at T2 T3
  have C8 := code8_ok (codeN a) (codeN_lt a ha)
  have Sb1 := sameBits_ok (backN (codeN a)) a (backN_lt _ (codeN_lt a ha)) ha (back_code a ha)
  have Sb2 := sameBits_ok f f hff hff (.inl rfl)
  have hlt : Op.bytesLess (bs (be 8 (codeN a))).toList (bs (be 8 (codeN b))).toList = decide (codeN a < codeN b) := by
    rw [bs_less]
    refine decide_eq_decide.2 ?_
    have := be_key a b ha hb [] []
    rw [List.append_nil, List.append_nil] at this
    rw [this]
    exact ⟨fun h => h.elim id fun h => absurd h.2 (List.lt_irrefl _), .inl⟩
  have heq : ((bs (be 8 (codeN a))).toList == (bs (be 8 (codeN b))).toList) = decide (codeN a = codeN b) := by
    rw [bs_beq]
    exact decide_eq_decide.2 ⟨fun h => be_inj 8 _ _ (codeLt a ha) (codeLt b hb) h, fun h => by rw [h]⟩
  have key : (cmp3 (codeN a) (codeN b) = -1 ∧ Op.bytesLess (bs (be 8 (codeN a))).toList (bs (be 8 (codeN b))).toList = true ∧ ((bs (be 8 (codeN a))).toList == (bs (be 8 (codeN b))).toList) = false) ∨ (cmp3 (codeN a) (codeN b) = 0 ∧ Op.bytesLess (bs (be 8 (codeN a))).toList (bs (be 8 (codeN b))).toList = false ∧ ((bs (be 8 (codeN a))).toList == (bs (be 8 (codeN b))).toList) = true) ∨ (cmp3 (codeN a) (codeN b) = 1 ∧ Op.bytesLess (bs (be 8 (codeN a))).toList (bs (be 8 (codeN b))).toList = false ∧ ((bs (be 8 (codeN a))).toList == (bs (be 8 (codeN b))).toList) = false) := by
    rw [hlt, heq]
    rcases Nat.lt_trichotomy (codeN a) (codeN b) with h | h | h
    · exact .inl ⟨by unfold cmp3; rw [if_pos h], decide_eq_true h, decide_eq_false (by omega)⟩
    · exact .inr (.inl ⟨by unfold cmp3; rw [if_neg (by omega), if_neg (by omega)], decide_eq_false (by omega), decide_eq_true h⟩)
    · exact .inr (.inr ⟨by unfold cmp3; rw [if_neg (by omega), if_pos h], decide_eq_false (by omega), decide_eq_false (by omega)⟩)
  have Sa := score_ok a ha
  have Sb := score_ok b hb
  have Rc := refCmp_ok a b ha hb
  have Rd := refCode_ok a ha
  clear S hlt heq hV
  generalize cmp3 (codeN a) (codeN b) = cc at *
  generalize hp : be 8 (codeN a) = p at *
  generalize hq : be 8 (codeN b) = q at *
  generalize backN (codeN a) = z at *
  clear hp hq
  generalize codeN a = ca at *
  rcases key with ⟨rfl, k2, k3⟩ | ⟨rfl, k2, k3⟩ | ⟨rfl, k2, k3⟩
  all_goals
    go_enter Tryd.func7, Tryd.ntmps7
    go_wp2_with fail
    refine (Sa _).mono ?_
    rintro e w1 ⟨rfl, b1⟩
    go_wp2_with fail
    refine (Sb _).mono ?_
    rintro e w2 ⟨rfl, b2⟩
    go_wp2_with fail
    refine (T1 _).mono ?_
    rintro e w3 ⟨rfl, b3⟩
    go_wp2_with fail
    refine (T2 _).mono ?_
    rintro e w4 ⟨rfl, b4⟩
    go_wp2_with fail
    refine (T3 _).mono ?_
    rintro e w5 ⟨rfl, b5⟩
    have B5 := hide (thenB b1 (thenB b2 (thenB b3 (thenB b4 b5))))
    clear b1 b2 b3 b4 b5
    go_wp2_with fail
    refine (Rc _).mono ?_
    rintro e w9 ⟨rfl, he⟩
    replace he := he.symm
    subst he
    go_wp2_with fail
    refine (Rd _).mono ?_
    rintro e w9 ⟨rfl, he⟩
    replace he := he.symm
    subst he
    go_wp2_with fail
    refine (C8 _).mono ?_
    rintro e w6 ⟨rfl, b6⟩
    go_wp2_with fail
    refine (Sb1 _).mono ?_
    rintro e w9 ⟨rfl, he⟩
    replace he := he.symm
    subst he
    go_wp2_with fail
    refine (Sb2 _).mono ?_
    rintro e w9 ⟨rfl, he⟩
    replace he := he.symm
    subst he
    go_wp2_with fail
    refine (awake_ok _).mono ?_
    rintro e w7 ⟨rfl, b7⟩
    go_wp2
    go_ret
    exact ⟨rfl, thenB (unhide B5) (thenB b6 b7)⟩
end Go.Proofs.YtnfpccmnifhflaaDoor
