/- RedoBounds: the walk. -/
import Derived.Test.YtockkjkaopihjaaWrs
import Derived.Below
namespace Go.Proofs.Ytockkjkaopihjaa
open Go.RowKit

/-- n writes of one word: 1, 2, .. -/
def ones (own : Int) (n : Nat) : List (Int × Int) := (List.range n).map fun (i : Nat) => (own, (i : Int) + 1)
theorem ones_succ (own : Int) (n : Nat) : ones own (n + 1) = ones own n ++ [(own, (n : Int) + 1)] := by simp [ones, List.range_succ]
theorem ones_len (own : Int) (n : Nat) : (ones own n).length = n := by simp [ones]
theorem ones_mem {own : Int} {n : Nat} {x : Int × Int} (h : x ∈ ones own n) : x.1 = own := by
  obtain ⟨i, _, rfl⟩ := List.mem_map.1 h; rfl
theorem ones_home (own n : Nat) (hn : 0 < n) (f : Nat → Int) : homed (ones own n).reverse f own = n := by
  obtain ⟨m, rfl⟩ : ∃ m, n = m + 1 := ⟨n - 1, by omega⟩
  rw [ones_succ, List.reverse_append]
  show homed ((((own : Int), (m : Int) + 1)) :: (ones own m).reverse) f own = _
  unfold homed
  simp

set_option maxRecDepth 100000 in
set_option maxHeartbeats 2000000 in
theorem bounds_bad (at_ ws n : Int) (w : World) (ha : -9223372036854775808 ≤ at_ ∧ at_ ≤ 9223372036854775807) (hb : ¬ (0 ≤ at_ ∧ at_ % 8 = 0 ∧ 16 ≤ ws ∧ ws ≤ 256 - at_)) :
    Calls Try.prog 8 #[.int .i64 at_, .int .i64 ws, .int .i64 n] w fun e w' => e = .returned (.bool true) ∧ Below w.heap.size w w' := by
  have HN := hide (new_256 w)
  have ways : at_ < 0 ∨ (0 ≤ at_ ∧ at_ % 8 ≠ 0) ∨ (0 ≤ at_ ∧ at_ % 8 = 0 ∧ 256 < at_) ∨ (0 ≤ at_ ∧ at_ % 8 = 0 ∧ at_ ≤ 256 ∧ ws < 16) ∨ (0 ≤ at_ ∧ at_ % 8 = 0 ∧ at_ ≤ 256 ∧ 16 ≤ ws ∧ 256 - at_ < ws) := by omega
  have OA : ∀ {b : Nat} {L : Lay} {w1 : World}, DevL w1 b L (Ab.fresh 32) → Calls Try.prog 22 #[ptr b, .int .i64 at_, .int .i64 ws] w1 fun e w' => e = .returned (.tuple #[.pointer none, .int .i64 1]) ∧ w' = w1 := fun d => open_arg d at_ ws (by omega) (by show ¬ (0 ≤ at_ ∧ at_ % 8 = 0 ∧ 16 ≤ ws ∧ ws ≤ ((32 : Nat) : Int) * 8 - at_); omega)
  have HOA := @hide _ @OA
  clear OA hb
  have e8 : (at_ % 8 = 0 → (at_ % 8 == 0) = true) ∧ (at_ % 8 ≠ 0 → (at_ % 8 == 0) = false) := ⟨fun h => by simp [h], fun h => by simp [h]⟩
  rcases ways with h1 | ⟨h1, h2⟩ | ⟨h1, h2, h3⟩ | ⟨h1, h2, h3, h4⟩ | ⟨h1, h2, h3, h4, h5⟩
  all_goals
    (try replace h2 := e8.2 h2)
    (try replace h2 := e8.1 h2)
    clear e8
    go_enter Try.func8, Try.ntmps8
    go_wp2_with fail
    refine (unhide HN).mono ?_
    rintro e w1 ⟨rfl, L, d1, f1, n1⟩
    have O1 := unhide HOA d1
    have H1 := hide O1; have HF1 := hide f1; have H2 := hide (open_nil at_ ws w1)
    clear O1 d1 f1 n1
    go_wp2_with fail
    refine (unhide H1).mono ?_
    rintro e w2 ⟨rfl, rfl⟩
    clear H1
    go_wp2_with fail
    refine (unhide H2).mono ?_
    rintro e w2 ⟨rfl, rfl⟩
    clear H2
    have HA := hide (awake_ok w2)
    go_wp2_with fail
    refine (unhide HA).mono ?_
    rintro e w3 ⟨rfl, f3⟩
    have HF3 := hide f3
    clear f3
    go_wp2
    go_ret
    exact ⟨rfl, ((unhide HF1).trans (unhide HF3)).below (Nat.le_refl _) (fun _ h => h.elim)⟩


set_option maxRecDepth 100000 in
set_option maxHeartbeats 2000000 in
theorem bounds_great (at_ : Nat) (ws : Nat) (n : Int) (w : World) (h8 : at_ % 8 = 0) (h16 : 16 ≤ ws) (hw : at_ + ws ≤ 256) (h240 : 240 < ws) :
    Calls Try.prog 8 #[.int .i64 at_, .int .i64 ws, .int .i64 n] w fun e w' => e = .returned (.bool true) ∧ Below w.heap.size w w' := by
  have HN := hide (new_256 w)
  have e8 : ((at_ : Int) % 8 == 0) = true := by simp; omega
  go_enter Try.func8, Try.ntmps8
  go_wp2_with fail
  refine (unhide HN).mono ?_
  clear HN
  rintro e w1 ⟨rfl, L, d1, f1, n1⟩
  have O1 := open_fresh d1 rfl at_ ws (by omega) h16 (by show at_ + ws ≤ 32 * 8; omega) rfl
  have H1 := hide O1; have HF1 := hide f1; have HD1 := hide d1; have HN1 := hide n1
  clear O1 d1 f1 n1
  go_wp2_with fail
  refine (unhide H1).mono ?_
  clear H1
  rintro e w2 ⟨rfl, hh⟩
  have fr2 : Fr (fun _ => False) w1 w2 := hh ▸ (Fr.refl _ w1).alloc _
  have lg2 : LogAt w2 w1.heap.size (w.heap.size + 3) at_ ws := hh ▸ log_new _ _ _ _
  have H2 := hide (open_nil at_ ws w2); have HF2 := hide fr2; have HL2 := hide lg2
  clear hh fr2 lg2
  go_wp2_with fail
  refine (unhide H2).mono ?_
  rintro e w2' ⟨rfl, hh⟩
  replace hh := hh.symm
  subst hh
  clear H2
  have HA := hide (awake_ok w2)
  go_wp2_with fail
  refine (unhide HA).mono ?_
  rintro e w3 ⟨rfl, f3⟩
  have HF3 := hide f3
  clear f3
  go_wp2
  go_ret
  exact ⟨rfl, (((unhide HF1).trans (unhide HF2)).trans (unhide HF3)).below (Nat.le_refl _) (fun _ h => h.elim)⟩
end Go.Proofs.Ytockkjkaopihjaa
