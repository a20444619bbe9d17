/- calc's Rank. -/
import Derived.Test.YtggjcfmoebghjaaMean
namespace Go.Proofs.Ytggjcfmoebghjaa
open Go.RowKit

/-- How many codes are below. -/
def rankN (l : List Nat) (c : Nat) : Nat := l.countP fun y => decide (codeN y < c)
theorem rank_step (l : List Nat) (c k : Nat) (h : k < l.length) : rankN (l.take (k + 1)) c = rankN (l.take k) c + if codeN (l.getD k 0) < c then 1 else 0 := by
  unfold rankN
  rw [take_step l k h, List.countP_append]
  generalize l.getD k 0 = y
  by_cases hc : codeN y < c
  · rw [if_pos hc]; simp [hc]
  · rw [if_neg hc]; simp [hc]
theorem rank_le (l : List Nat) (c : Nat) : rankN l c ≤ l.length := List.countP_le_length

set_option maxRecDepth 100000 in
set_option maxHeartbeats 1000000 in
theorem rank_ok (a : Option Addr) (cap : Nat) (l : List Nat) (x : Nat) (w : World) (hx : x < 18446744073709551616) (hl : Fls w a l) (hn : l.length ≤ 1000) : Calls Try.prog 22 #[.slice a l.length cap, .float .f64 x] w fun e w' => e = .returned (.int .i64 (rankN l (codeN x) : Nat)) ∧ w' = w := by
  have HL := hide hl
  clear hl
  go_enter Try.func22, Try.ntmps22
  go_wp2
  go_loop [5, 10] (fun vs vi => ∃ (k s : Nat), vs = .int .i64 s ∧ vi = .int .i64 k ∧ Hid (k ≤ l.length ∧ s = rankN (l.take k) (codeN x))) (fun vs vi => l.length - (RowKit.intOf vi).toNat)
  case atStart => exact ⟨0, 0, rfl, rfl, hide ⟨Nat.zero_le _, rfl⟩⟩
  case round =>
    obtain ⟨k, s, rfl, rfl, HI⟩ := hrel
    obtain ⟨hk, i1⟩ := unhide HI
    have hsk : s ≤ 1000 := by rw [i1]; exact Nat.le_trans (rank_le _ _) (by rw [List.length_take]; omega)
    by_cases hlt : k < l.length
    · have hlt' : (k : Int) < l.length := by omega
      obtain ⟨xb, xo, rfl, c, hb⟩ := unhide HL k hlt
      have J := rank_step l (codeN x) k hlt
      rw [← i1] at J
      have hcl := cmp3_lt (codeN (l.getD k 0)) (codeN x)
      by_cases hc : codeN (l.getD k 0) < codeN x
      · rw [if_pos hc] at J
        have h3 : (cmp3 (codeN (l.getD k 0)) (codeN x) < 0) = True := by rw [hcl]; simpa using hc
        have HN := hide (show k + 1 ≤ l.length ∧ s + 1 = rankN (l.take (k + 1)) (codeN x) from ⟨hlt, J.symm⟩)
        clear HI i1 J hcl hc
        generalize l.getD k 0 = y at *
        go_wp2_with (go_at_call 16; refine (cmp_ok _ _ hb hx _).mono ?_; rintro e w' ⟨rfl, rfl⟩)
        exact ⟨⟨k + 1, s + 1, by go_num, by go_num, HN⟩, by simp [RowKit.intOf]; omega⟩
      · rw [if_neg hc] at J
        have h3 : (cmp3 (codeN (l.getD k 0)) (codeN x) < 0) = False := by rw [hcl]; simpa using hc
        have HN := hide (show k + 1 ≤ l.length ∧ s = rankN (l.take (k + 1)) (codeN x) from ⟨hlt, J.symm⟩)
        clear HI i1 J hcl hc
        generalize l.getD k 0 = y at *
        go_wp2_with (go_at_call 16; refine (cmp_ok _ _ hb hx _).mono ?_; rintro e w' ⟨rfl, rfl⟩)
        exact ⟨⟨k + 1, s, rfl, by go_num, HN⟩, by simp [RowKit.intOf]; omega⟩
    · have hlt' : ¬ (k : Int) < l.length := by omega
      obtain rfl : k = l.length := by omega
      rw [List.take_length] at i1
      have E := hide i1
      clear i1 HI hlt hk
      go_wp2
      go_ret
      exact ⟨by rw [← unhide E]; rfl, rfl⟩
end Go.Proofs.Ytggjcfmoebghjaa
