/- calc's Sum over a row of numbers. -/
import Derived.Test.YtggjcfmoebghjaaAdd
import Derived.LoopTactic
import Derived.Below
namespace Go.Proofs.Ytggjcfmoebghjaa
open Go.RowKit

/-- A slice's numbers, by their bits. -/
def Fls (w : World) (a : Option Addr) (l : List Nat) : Prop := ∀ k, k < l.length → ∃ xb xo, a = some ⟨xb, xo, none⟩ ∧ w.cell? ⟨xb, xo + k, none⟩ = some (.float .f64 (l.getD k 0)) ∧ l.getD k 0 < 18446744073709551616
/-- The sum; none: it is no number. -/
def sumO (l : List Nat) : Option Nat := l.foldl addO (some 0)
theorem sumO_step (l : List Nat) (k : Nat) (h : k < l.length) : sumO (l.take (k + 1)) = addO (sumO (l.take k)) (l.getD k 0) := by
  have e : l.take (k + 1) = l.take k ++ [l.getD k 0] := by rw [List.take_succ_eq_append_getElem h]; simp [h]
  unfold sumO
  rw [e, List.foldl_append]; rfl
/-- All that are none are one. -/
def one (o : Option Nat) : Nat := o.getD 9221120237041090561

theorem one_ok (o : Option Nat) (s : Nat) (h : Is o s) (w : World) : Calls Try.prog 29 #[.float .f64 s] w fun e w' => e = .returned (.float .f64 (one o)) ∧ w' = w := by
  rcases h with ⟨h1, ⟨rfl, h2⟩ | ⟨rfl, h2⟩⟩
  · go_enter Try.func29, Try.ntmps29
    go_wp2_with (go_at_call 33; refine (isNaN_ok _ h1 _).mono ?_; rintro e w' ⟨rfl, rfl⟩; simp only [h2])
    go_ret
    exact ⟨rfl, rfl⟩
  · go_enter Try.func29, Try.ntmps29
    go_wp2_with (first | (go_at_call 33; refine (isNaN_ok _ h1 _).mono ?_; rintro e w' ⟨rfl, rfl⟩; simp only [h2]) | (go_at_call 24; refine (nan_ok _).mono ?_; rintro e w' ⟨rfl, rfl⟩))
    go_ret
    exact ⟨rfl, rfl⟩

theorem drewN_drewN (w : World) (m n : Nat) : (w.drewN m).drewN n = w.drewN (m + n) := by simp [World.drewN, Nat.add_assoc]
theorem Fls.drewN {w : World} {a : Option Addr} {l : List Nat} (h : Fls w a l) (n : Nat) : Fls (w.drewN n) a l := h

set_option maxRecDepth 100000 in
set_option maxHeartbeats 1000000 in
theorem sum_ok (a : Option Addr) (cap : Nat) (l : List Nat) (w : World) (hl : Fls w a l) (hn : l.length ≤ 1000) : Calls Try.prog 9 #[.slice a l.length cap] w fun e w' => e = .returned (.float .f64 (one (sumO l))) ∧ ∃ n, w' = w.drewN n := by
  have HL := hide hl
  clear hl
  go_enter Try.func9, Try.ntmps9
  go_wp2
  go_loopw [3, 8] (fun vs vi wr => ∃ (k s n : Nat), k ≤ l.length ∧ vs = .float .f64 s ∧ vi = .int .i64 k ∧ wr = w.drewN n ∧ Is (sumO (l.take k)) s) (fun vs vi wr => l.length - (RowKit.intOf vi).toNat)
  case atStart => exact ⟨0, 0, 0, Nat.zero_le _, rfl, rfl, rfl, by decide, .inl ⟨rfl, rfl⟩⟩
  case round =>
    obtain ⟨k, s, n, hk, rfl, rfl, rfl, hI⟩ := hrel
    by_cases hlt : k < l.length
    · have hlt' : (k : Int) < l.length := by omega
      obtain ⟨xb, xo, rfl, c, hb⟩ := unhide HL k hlt
      have c' : (w.drewN n).cell? ⟨xb, xo + k, none⟩ = some (.float .f64 (l.getD k 0)) := c
      obtain ⟨s', m, hr, hI'⟩ := add_is _ s (l.getD k 0) hI (w.drewN n)
      have HI := hide ((sumO_step l k hlt).symm ▸ hI' : Is (sumO (l.take (k + 1))) s')
      clear hI hI' hb c
      generalize l.getD k 0 = x at *
      go_wp2
      go_roundw
      case rel => exact ⟨k + 1, s', n + m, by omega, rfl, by go_num, rfl, unhide HI⟩
      case measure => simp [RowKit.intOf]; omega
    · have hlt' : ¬ (k : Int) < l.length := by omega
      obtain rfl : k = l.length := by omega
      rw [List.take_length] at hI
      have HI := hide hI
      clear hI hk hlt
      go_wp2_with (go_at_call 29; refine (one_ok _ _ (unhide HI) _).mono ?_; rintro e w' ⟨rfl, rfl⟩)
      go_ret
      exact ⟨rfl, n, rfl⟩
end Go.Proofs.Ytggjcfmoebghjaa
