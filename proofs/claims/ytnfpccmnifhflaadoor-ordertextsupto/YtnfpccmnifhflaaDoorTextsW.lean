/- OrderTexts walked. -/
import Derived.Test.YtnfpccmnifhflaaDoorMixedW
namespace Go.Proofs.YtnfpccmnifhflaaDoor
open Go.RowKit

theorem code_app (a x : List UInt8) : code a ++ x = enc a ++ 0 :: 1 :: x := by simp [code]
theorem code_len (l : List UInt8) : (code l).length ≤ 2 * l.length + 2 := by
  have := enc_len l
  simp [code]; omega
set_option maxRecDepth 100000 in
set_option maxHeartbeats 8000000 in
theorem texts_ok (a b x y l : List UInt8) (ha : a.length ≤ 1048576) (hb : b.length ≤ 1048576) (hx : x.length ≤ 1048576) (hy : y.length ≤ 1048576) (hl : l.length ≤ 1048576) (w : World) : Calls Tryd.prog 6 #[.string (bs a), .string (bs b), .string (bs x), .string (bs y), .string (bs l)] w fun e w' => e = .returned (.bool true) ∧ Below w.heap.size w w' := by
  have hca := code_len a
  have hcb := code_len b
  have Ta := text_ok a (by omega)
  have Tb := text_ok b (by omega)
  have K1 := take_ok (code a ++ x) (by rw [List.length_append]; omega)
  rw [code_app, tk_code] at K1
  rw [← code_app] at K1
  have K1' : ∀ w, Calls Tryd.prog 11 #[.string (bs (code a ++ x))] w fun e w' => e = .returned (.tuple #[.string (bs a), .string (bs x), .int .i64 0]) ∧ Below w.heap.size w w' := K1
  have K2 := take_ok l (by omega)
  have K3 := rtake_ok l (by omega)
  obtain ⟨s, r, e, hV⟩ : ∃ (s r : List UInt8) (e : Nat), tkV (tk l) = #[.string (bs s), .string (bs r), .int .i64 (e : Nat)] := ⟨_, _, _, rfl⟩
  rw [hV] at K2 K3
  have R := rtext_ok a (by omega)
  have ad1 := bs_add (code a) x (by omega)
  have ad2 := bs_add (code b) y (by omega)
  have hab := bs_less a b
  have hpq := bs_less (code a ++ x) (code b ++ y)
  rw [code_app, code_app] at hpq
  have hcd : code a = code b ↔ a = b := ⟨fun h => (enc_inj a b [] [] (by simpa [code] using h)).1, fun h => by rw [h]⟩
  have key : (((bs a).toList == (bs b).toList) = true ∧ ((bs (code a)).toList == (bs (code b)).toList) = true) ∨ (((bs a).toList == (bs b).toList) = false ∧ ((bs (code a)).toList == (bs (code b)).toList) = false ∧ ∃ t, Op.bytesLess (bs a).toList (bs b).toList = t ∧ Op.bytesLess (bs (code a ++ x)).toList (bs (code b ++ y)).toList = t) := by
    rw [bs_beq, bs_beq, decide_eq_decide.2 hcd]
    by_cases h : a = b
    · exact .inl ⟨decide_eq_true h, decide_eq_true h⟩
    · refine .inr ⟨decide_eq_false h, decide_eq_false h, _, hab, ?_⟩
      rw [code_app, code_app, hpq]
      exact decide_eq_decide.2 (enc_lt a b x y h)
  clear K1 hV hab hpq hcd hca hcb
  generalize code a ++ x = px at *
  generalize code b ++ y = qy at *
  generalize code a = p at *
  generalize code b = q at *
  rcases key with ⟨k1, k2⟩ | ⟨k1, k2, _ | _, k3, k4⟩
  all_goals
    go_enter Tryd.func6, Tryd.ntmps6
    go_wp2_with fail
    refine (Ta _).mono ?_
    rintro e w1 ⟨rfl, b1⟩
    go_wp2_with fail
    refine (Tb _).mono ?_
    rintro e w2 ⟨rfl, b2⟩
    go_wp2_with fail
    refine (K1' _).mono ?_
    rintro e w3 ⟨rfl, b3⟩
    go_wp2_with fail
    refine (K2 _).mono ?_
    rintro e w4 ⟨rfl, b4⟩
    go_wp2_with fail
    refine (K3 _).mono ?_
    rintro e w5 ⟨rfl, b5⟩
    have B5 := hide (thenB b1 (thenB b2 (thenB b3 (thenB b4 b5))))
    clear b1 b2 b3 b4 b5
    go_wp2_with fail
    refine (R _).mono ?_
    rintro e w6 ⟨rfl, b6⟩
    go_wp2_with fail
    refine (awake_ok _).mono ?_
    rintro e w7 ⟨rfl, b7⟩
    go_wp2
    go_ret
    exact ⟨rfl, thenB (unhide B5) (thenB b6 b7)⟩
end Go.Proofs.YtnfpccmnifhflaaDoor
