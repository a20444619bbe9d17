/- A log in memory; place, isOutside, Most, Need, fromEnd. -/
import Derived.Test.YtamghkabclbkgaaPower
import Derived.Test.YtamghkabclbkgaaFlush
import Derived.Test.YtamghkabclbkgaaRng
namespace Go.Proofs.Ytamghkabclbkgaa
open Go.RowKit

/-- Block lg is a log of ws words from at_ on, on the device b. -/
structure LogAt (w : World) (lg b at_ ws : Nat) : Prop where
  c0 : w.cell? ⟨lg, 0, none⟩ = some (ptr b)
  c1 : w.cell? ⟨lg, 1, none⟩ = some (.int .i64 at_)
  c2 : w.cell? ⟨lg, 2, none⟩ = some (.int .i64 ws)

theorem LogAt.kept {w w' : World} {lg b at_ ws : Nat} (h : LogAt w lg b at_ ws) {F : Nat → Prop} (hf : Fr F w w') (hF : ¬ F lg) : LogAt w' lg b at_ ws :=
  ⟨hf.cell' h.c0 hF, hf.cell' h.c1 hF, hf.cell' h.c2 hF⟩
theorem LogAt.drewN {w : World} {lg b at_ ws : Nat} (h : LogAt w lg b at_ ws) (n : Nat) : LogAt (w.drewN n) lg b at_ ws := ⟨h.c0, h.c1, h.c2⟩

set_option maxHeartbeats 400000 in
theorem place_ok {w : World} {lg b at_ ws : Nat} (h : LogAt w lg b at_ ws) (ha : at_ ≤ 65536) (k : Nat) (hk : k ≤ 65536) :
    Calls Try.prog 71 #[ptr lg, .int .i64 k] w fun e w' => e = .returned (.int .i64 ((at_ : Int) + 8 + 2 * k)) ∧ w' = w := by
  have c1 := h.c1
  clear h
  go_enter Try.func71, Try.ntmps71
  go_wp2
  go_ret
  exact ⟨rfl, rfl⟩

set_option maxHeartbeats 400000 in
theorem most_ok {w : World} {lg b at_ ws : Nat} (h : LogAt w lg b at_ ws) (ha : 16 ≤ ws) (hw : ws ≤ 65536) :
    Calls Try.prog 61 #[ptr lg] w fun e w' => e = .returned (.int .i64 (((ws - 16) / 2 : Nat) : Int)) ∧ w' = w := by
  have c2 := h.c2
  clear h
  go_enter Try.func61, Try.ntmps61
  go_wp2
  go_ret
  refine ⟨?_, rfl⟩
  show Ending.returned (Value.int IntKind.i64 (((ws : Int) - 16) / 2)) = _
  rw [show ((ws : Int) - 16) / 2 = (((ws - 16) / 2 : Nat) : Int) by omega]

/-- A word of the device that is none from at_ to en. -/
def outside (n at_ : Nat) (word en : Int) : Prop := 0 ≤ word ∧ word < n * 8 ∧ (word < at_ ∨ en ≤ word)

set_option maxHeartbeats 400000 in
theorem outside_yes {w : World} {lg b at_ ws bn n kn : Nat} (h : LogAt w lg b at_ ws) (hn : n ≤ 8192) (h0 : w.cell? ⟨b, 0, none⟩ = some (rowc bn n kn)) (word en : Int) (ho : outside n at_ word en) :
    Calls Try.prog 60 #[ptr lg, .int .i64 word, .int .i64 en] w fun e w' => e = .returned (.bool true) ∧ w' = w := by
  have c0 := h.c0
  have c1 := h.c1
  clear h
  obtain ⟨o1, o2, o3⟩ := ho
  by_cases h3 : word < at_
  · clear o3
    go_enter Try.func60, Try.ntmps60
    go_wp2_with (go_at_call 46; refine (words_any b bn n _ hn h0).mono ?_; rintro e w' ⟨rfl, rfl⟩)
    go_ret
    exact ⟨rfl, rfl⟩
  · have h4 : en ≤ word := by rcases o3 with h | h; exact absurd h h3; exact h
    clear o3
    go_enter Try.func60, Try.ntmps60
    go_wp2_with (go_at_call 46; refine (words_any b bn n _ hn h0).mono ?_; rintro e w' ⟨rfl, rfl⟩)
    go_ret
    exact ⟨rfl, rfl⟩

set_option maxHeartbeats 400000 in
theorem outside_no {w : World} {lg b at_ ws bn n kn : Nat} (h : LogAt w lg b at_ ws) (hn : n ≤ 8192) (h0 : w.cell? ⟨b, 0, none⟩ = some (rowc bn n kn)) (word en : Int) (ho : ¬ outside n at_ word en) :
    Calls Try.prog 60 #[ptr lg, .int .i64 word, .int .i64 en] w fun e w' => e = .returned (.bool false) ∧ w' = w := by
  have c0 := h.c0
  have c1 := h.c1
  clear h
  by_cases o1 : 0 ≤ word
  · by_cases o2 : word < n * 8
    · have h3 : ¬ word < at_ := fun h => ho ⟨o1, o2, .inl h⟩
      have h4 : ¬ en ≤ word := fun h => ho ⟨o1, o2, .inr h⟩
      clear ho
      go_enter Try.func60, Try.ntmps60
      go_wp2_with (go_at_call 46; refine (words_any b bn n _ hn h0).mono ?_; rintro e w' ⟨rfl, rfl⟩)
      go_ret
      refine ⟨?_, rfl⟩
      show Ending.returned (Value.bool (decide (word < (at_ : Int)) || decide (en ≤ word))) = _
      rw [show decide (word < (at_ : Int)) = false from decide_eq_false (by omega), show decide (en ≤ word) = false from decide_eq_false (by omega)]
      rfl
    · have o2' : (n : Int) * 8 ≤ word := by omega
      clear ho o2
      go_enter Try.func60, Try.ntmps60
      go_wp2_with (go_at_call 46; refine (words_any b bn n _ hn h0).mono ?_; rintro e w' ⟨rfl, rfl⟩)
      go_ret
      exact ⟨rfl, rfl⟩
  · have o1' : word < 0 := by omega
    clear ho o1
    go_enter Try.func60, Try.ntmps60
    go_wp2_with (go_at_call 46; refine (words_any b bn n _ hn h0).mono ?_; rintro e w' ⟨rfl, rfl⟩)
    go_ret
    exact ⟨rfl, rfl⟩

set_option maxHeartbeats 400000 in
theorem fromEnd_ok (lg : Nat) (n : Int) (w : World) :
    Calls Try.prog 74 #[ptr lg, .int .i64 n] w fun e w' => e = .returned (.func (.func 79) #[] #[.pointer (some ⟨w.heap.size + 1, 0, none⟩), .pointer (some ⟨w.heap.size, 0, none⟩)]) ∧ w' = (w.alloc (.cells #[ptr lg] 59)).alloc (.cells #[.int .i64 n] 3) := by
  go_enter Try.func74, Try.ntmps74
  go_wp2
  go_ret
  exact ⟨rfl, rfl⟩

set_option maxHeartbeats 400000 in
theorem need_4 (w : World) : Calls Try.prog 52 #[.int .i64 4] w fun e w' => e = .returned (.int .i64 24) ∧ w' = w := by
  go_enter Try.func52, Try.ntmps52
  go_wp2
  go_ret
  exact ⟨rfl, rfl⟩
set_option maxHeartbeats 400000 in
theorem need_m3 (w : World) : Calls Try.prog 52 #[.int .i64 (-3)] w fun e w' => e = .returned (.int .i64 16) ∧ w' = w := by
  go_enter Try.func52, Try.ntmps52
  go_wp2
  go_ret
  exact ⟨rfl, rfl⟩
end Go.Proofs.Ytamghkabclbkgaa
