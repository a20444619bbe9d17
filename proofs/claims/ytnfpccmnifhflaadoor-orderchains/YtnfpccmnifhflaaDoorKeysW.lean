/- OrderKeys walked. -/
import Derived.Test.YtnfpccmnifhflaaDoorScoresW
namespace Go.Proofs.YtnfpccmnifhflaaDoor
open Go.RowKit

theorem pt_ts (l : List UInt8) : (∃ e : Nat, (e = 3 ∨ e = 4) ∧ tsV l = #[.float .f64 0, .string (bs []), .int .i64 (e : Nat)] ∧ ptV l = #[.float .f64 0, .string (bs []), .int .i64 (e : Nat)]) ∨ (∃ x : Nat, tsV l = #[.float .f64 x, .string (bs []), .int .i64 0] ∧ ptV l = #[.float .f64 0, .string (bs []), .int .i64 3]) ∨ (∃ (x : Nat) (r : List UInt8), r ≠ [] ∧ x < 18446744073709551616 ∧ tsV l = #[.float .f64 x, .string (bs r), .int .i64 0] ∧ ptV l = #[.float .f64 x, .string (bs r), .int .i64 0]) := by
  unfold tsV ptV
  by_cases h8 : l.length < 8
  · rw [if_pos h8, if_pos h8]
    exact .inl ⟨4, .inr rfl, rfl, rfl⟩
  · rw [if_neg h8, if_neg h8]
    by_cases hc : codeN (backN (unbe (l.take 8))) = unbe (l.take 8)
    · rw [if_pos hc, if_pos hc]
      by_cases h0 : l.drop 8 = []
      · rw [if_pos h0, h0]
        exact .inr (.inl ⟨_, rfl, rfl⟩)
      · rw [if_neg h0]
        exact .inr (.inr ⟨_, _, h0, backN_lt _ (unbe8 l), rfl, rfl⟩)
    · rw [if_neg hc, if_neg hc]
      exact .inl ⟨3, .inl rfl, rfl, rfl⟩
theorem ptV_key (x : Nat) (hx : x < 18446744073709551616) (j : List UInt8) : ptV (be 8 (codeN x) ++ j) = if j = [] then #[.float .f64 0, .string (bs []), .int .i64 3] else #[.float .f64 (backN (codeN x)), .string (bs j), .int .i64 0] := by
  have ht : (be 8 (codeN x) ++ j).take 8 = be 8 (codeN x) := by
    rw [List.take_append_of_le_length (by rw [be_len]; exact Nat.le_refl _), List.take_of_length_le (by rw [be_len]; exact Nat.le_refl _)]
  have hd : (be 8 (codeN x) ++ j).drop 8 = j := by
    have := List.drop_left (l₁ := be 8 (codeN x)) (l₂ := j)
    rwa [be_len] at this
  have hu : unbe (be 8 (codeN x)) = codeN x := unbe_be 8 _ (codeLt x hx)
  unfold ptV
  rw [if_neg (by rw [List.length_append, be_len]; omega), ht, hd, hu, if_pos (code_back x hx)]
theorem bs_ne (l : List UInt8) (h : l ≠ []) : (bs l).toList.isEmpty = false := by
  rw [bs_list]
  cases l with
  | nil => exact absurd rfl h
  | cons c l => rfl
theorem bs_is : (bs []).toList.isEmpty = true := by rw [bs_list]; rfl

set_option maxRecDepth 100000 in
set_option maxHeartbeats 8000000 in
theorem keys_ok (a : Nat) (m : List UInt8) (b : Nat) (n l : List UInt8) (ha : a < 18446744073709551616) (hm : m.length ≤ 140737488355328) (hb : b < 18446744073709551616) (hn : n.length ≤ 140737488355328) (hl : l.length ≤ 140737488355328) (w : World) : Calls Tryd.prog 8 #[.int .u64 a, .string (bs m), .int .u64 b, .string (bs n), .string (bs l)] w fun e w' => e = .returned (.bool true) ∧ Below w.heap.size w w' := by
  have hf := from_run
  have hbit := bits_run
  have Ka := key_ok a ha m (by omega)
  have Kb := key_ok b hb n (by omega)
  have P1 := parts_ok (be 8 (codeN a) ++ m) (by rw [List.length_append, be_len]; omega)
  rw [ptV_key a ha m] at P1
  by_cases hm0 : m = []
  · subst hm0
    rw [if_pos rfl] at P1
    have hi := bs_is
    generalize hp : be 8 (codeN a) ++ [] = p at *
    generalize hq : be 8 (codeN b) ++ n = q at *
    clear hp hq
    go_enter Tryd.func8, Tryd.ntmps8
    go_wp2_with fail
    refine (Ka _).mono ?_
    rintro e w1 ⟨rfl, b1⟩
    go_wp2_with fail
    refine (Kb _).mono ?_
    rintro e w2 ⟨rfl, b2⟩
    go_wp2_with fail
    refine (P1 _).mono ?_
    rintro e w3 ⟨rfl, b3⟩
    have B5 := hide (thenB b1 (thenB b2 b3))
    clear b1 b2 b3
    go_wp2_with fail
    refine (awake_ok _).mono ?_
    rintro e w7 ⟨rfl, b7⟩
    go_wp2
    go_ret
    exact ⟨rfl, thenB (unhide B5) b7⟩
  · rw [if_neg hm0] at P1
    have hmi := bs_ne m hm0
    have P2 := parts_ok l (by omega)
    have T3 := rtakeScore_ok l (by omega)
    have Sb1 := sameBits_ok a (backN (codeN a)) ha (backN_lt _ (codeN_lt a ha)) ((back_code a ha).elim (fun h => .inl h.symm) fun h => .inr ⟨h.2, h.1⟩)
    have hlt : Op.bytesLess (bs (be 8 (codeN a) ++ m)).toList (bs (be 8 (codeN b) ++ n)).toList = decide (codeN a < codeN b ∨ codeN a = codeN b ∧ m < n) := by
      rw [bs_less]
      exact decide_eq_decide.2 (be_key a b ha hb m n)
    have hmn : Op.bytesLess (bs m).toList (bs n).toList = decide (m < n) := bs_less m n
    have key : (cmp3 (codeN a) (codeN b) = -1 ∧ Op.bytesLess (bs (be 8 (codeN a) ++ m)).toList (bs (be 8 (codeN b) ++ n)).toList = true) ∨ (cmp3 (codeN a) (codeN b) = 0 ∧ ∃ t, Op.bytesLess (bs (be 8 (codeN a) ++ m)).toList (bs (be 8 (codeN b) ++ n)).toList = t ∧ Op.bytesLess (bs m).toList (bs n).toList = t) ∨ (cmp3 (codeN a) (codeN b) = 1 ∧ Op.bytesLess (bs (be 8 (codeN a) ++ m)).toList (bs (be 8 (codeN b) ++ n)).toList = false) := by
      rw [hlt, hmn]
      rcases Nat.lt_trichotomy (codeN a) (codeN b) with h | h | h
      · exact .inl ⟨by unfold cmp3; rw [if_pos h], decide_eq_true (.inl h)⟩
      · exact .inr (.inl ⟨by unfold cmp3; rw [if_neg (by omega), if_neg (by omega)], _, rfl, decide_eq_decide.2 ⟨fun x => .inr ⟨h, x⟩, fun x => x.elim (fun y => by omega) (·.2)⟩⟩)
      · exact .inr (.inr ⟨by unfold cmp3; rw [if_neg (by omega), if_pos h], decide_eq_false (by rintro (x | ⟨x, _⟩) <;> omega)⟩)
    have Rc := refCmp_ok a b ha hb
    clear hlt hmn
    generalize hp : be 8 (codeN a) ++ m = p at *
    generalize hq : be 8 (codeN b) ++ n = q at *
    generalize cmp3 (codeN a) (codeN b) = cc at *
    generalize backN (codeN a) = z at *
    clear hp hq
    rcases pt_ts l with ⟨g, hg, t1, t2⟩ | ⟨x, t1, t2⟩ | ⟨x, r, hr, hx, t1, t2⟩
    · rw [t2] at P2
      rw [t1] at T3
      have hre := bs_is
      clear t1 t2
      rcases hg with rfl | rfl
      all_goals rcases key with ⟨rfl, k2⟩ | ⟨rfl, _ | _, k2, k3⟩ | ⟨rfl, k2⟩
      all_goals
        go_enter Tryd.func8, Tryd.ntmps8
        go_wp2_with fail
        refine (Ka _).mono ?_
        rintro e w1 ⟨rfl, b1⟩
        go_wp2_with fail
        refine (Kb _).mono ?_
        rintro e w2 ⟨rfl, b2⟩
        go_wp2_with fail
        refine (P1 _).mono ?_
        rintro e w3 ⟨rfl, b3⟩
        go_wp2_with fail
        refine (Sb1 _).mono ?_
        rintro e w9 ⟨rfl, he⟩
        replace he := he.symm
        subst he
        go_wp2_with fail
        refine (P2 _).mono ?_
        rintro e w4 ⟨rfl, b4⟩
        go_wp2_with fail
        refine (T3 _).mono ?_
        rintro e w5 ⟨rfl, b5⟩
        go_wp2_with fail
        refine (Rc _).mono ?_
        rintro e w9 ⟨rfl, he⟩
        replace he := he.symm
        subst he
        go_wp2_with fail
        refine (awake_ok _).mono ?_
        rintro e w6 ⟨rfl, b6⟩
        go_wp2
        go_ret
        exact ⟨rfl, thenB b1 (thenB b2 (thenB b3 (thenB b4 (thenB b5 b6))))⟩
    · rw [t2] at P2
      rw [t1] at T3
      have hre := bs_is
      clear t1 t2
      rcases key with ⟨rfl, k2⟩ | ⟨rfl, _ | _, k2, k3⟩ | ⟨rfl, k2⟩
      all_goals
        go_enter Tryd.func8, Tryd.ntmps8
        go_wp2_with fail
        refine (Ka _).mono ?_
        rintro e w1 ⟨rfl, b1⟩
        go_wp2_with fail
        refine (Kb _).mono ?_
        rintro e w2 ⟨rfl, b2⟩
        go_wp2_with fail
        refine (P1 _).mono ?_
        rintro e w3 ⟨rfl, b3⟩
        go_wp2_with fail
        refine (Sb1 _).mono ?_
        rintro e w9 ⟨rfl, he⟩
        replace he := he.symm
        subst he
        go_wp2_with fail
        refine (P2 _).mono ?_
        rintro e w4 ⟨rfl, b4⟩
        go_wp2_with fail
        refine (T3 _).mono ?_
        rintro e w5 ⟨rfl, b5⟩
        go_wp2_with fail
        refine (Rc _).mono ?_
        rintro e w9 ⟨rfl, he⟩
        replace he := he.symm
        subst he
        go_wp2_with fail
        refine (awake_ok _).mono ?_
        rintro e w6 ⟨rfl, b6⟩
        go_wp2
        go_ret
        exact ⟨rfl, thenB b1 (thenB b2 (thenB b3 (thenB b4 (thenB b5 b6))))⟩
    · rw [t2] at P2
      rw [t1] at T3
      have hre := bs_ne r hr
      have Sb2 := sameBits_ok x x hx hx (.inl rfl)
      clear t1 t2 hr
      rcases key with ⟨rfl, k2⟩ | ⟨rfl, _ | _, k2, k3⟩ | ⟨rfl, k2⟩
      all_goals
        go_enter Tryd.func8, Tryd.ntmps8
        go_wp2_with fail
        refine (Ka _).mono ?_
        rintro e w1 ⟨rfl, b1⟩
        go_wp2_with fail
        refine (Kb _).mono ?_
        rintro e w2 ⟨rfl, b2⟩
        go_wp2_with fail
        refine (P1 _).mono ?_
        rintro e w3 ⟨rfl, b3⟩
        go_wp2_with fail
        refine (Sb1 _).mono ?_
        rintro e w9 ⟨rfl, he⟩
        replace he := he.symm
        subst he
        go_wp2_with fail
        refine (P2 _).mono ?_
        rintro e w4 ⟨rfl, b4⟩
        go_wp2_with fail
        refine (T3 _).mono ?_
        rintro e w5 ⟨rfl, b5⟩
        go_wp2_with fail
        refine (Sb2 _).mono ?_
        rintro e w9 ⟨rfl, he⟩
        replace he := he.symm
        subst he
        go_wp2_with fail
        refine (Rc _).mono ?_
        rintro e w9 ⟨rfl, he⟩
        replace he := he.symm
        subst he
        go_wp2_with fail
        refine (awake_ok _).mono ?_
        rintro e w6 ⟨rfl, b6⟩
        go_wp2
        go_ret
        exact ⟨rfl, thenB b1 (thenB b2 (thenB b3 (thenB b4 (thenB b5 b6))))⟩
end Go.Proofs.YtnfpccmnifhflaaDoor
