/- The document's own sum, least and most. -/
import Derived.Test.YtggjcfmoebghjaaRefC
namespace Go.Proofs.Ytggjcfmoebghjaa
open Go.RowKit

set_option maxRecDepth 100000 in
set_option maxHeartbeats 1000000 in
theorem refLeast_ok (a : Option Addr) (cap : Nat) (l : List Nat) (w : World) (hl : Fls w a l) (hn : l.length ≤ 1000) : Calls Try.prog 26 #[.slice a l.length cap] w fun e w' => e = .returned (.float .f64 (least l)) ∧ w' = w := by
  have hbit := bits_run
  have HL := hide hl
  clear hl
  go_enter Try.func26, Try.ntmps26
  go_wp2_with (go_at_call 30; refine (inf_up _).mono ?_; rintro e w' ⟨rfl, rfl⟩)
  go_loop [3, 4] (fun vs vi => ∃ (k s : Nat), vs = .float .f64 s ∧ vi = .int .i64 k ∧ Hid (k ≤ l.length ∧ (l.take k).any nanB = false ∧ s = lo (l.take k) ∧ s < 18446744073709551616)) (fun vs vi => l.length - (RowKit.intOf vi).toNat)
  case atStart => exact ⟨0, _, rfl, rfl, hide ⟨Nat.zero_le _, rfl, rfl, by decide⟩⟩
  case round =>
    obtain ⟨k, s, rfl, rfl, HI⟩ := hrel
    obtain ⟨hk, i1, i2, i3⟩ := unhide HI
    by_cases hlt : k < l.length
    · have hlt' : (k : Int) < l.length := by omega
      obtain ⟨xb, xo, rfl, c, hb⟩ := unhide HL k hlt
      by_cases hx : nanB (l.getD k 0) = true
      · have E := hide (show l.any nanB = true by
          rw [List.any_eq_true]; exact ⟨l.getD k 0, by simp [hlt], hx⟩)
        clear i1 i2 i3 HI
        generalize l.getD k 0 = x at *
        go_wp2_with (first | (go_at_call 39; refine (refNan_ok _ hb _).mono ?_; rintro e w' ⟨rfl, rfl⟩; simp only [hx]) | (go_at_call 24; refine (nan_ok _).mono ?_; rintro e w' ⟨rfl, rfl⟩))
        go_ret
        exact ⟨by unfold least; rw [if_pos (unhide E)]; rfl, rfl⟩
      · have hx' : nanB (l.getD k 0) = false := by simpa using hx
        clear hx
        have J1 := hide (show (l.take (k + 1)).any nanB = false by rw [any_step l k hlt, i1, hx']; rfl)
        have J2 := lo_step l k hlt
        rw [← i2] at J2
        have hcl := cmp3_lt (codeN (l.getD k 0)) (codeN s)
        by_cases hc : codeN (l.getD k 0) < codeN s
        · rw [if_pos hc] at J2
          have h3 : (cmp3 (codeN (l.getD k 0)) (codeN s) < 0) = True := by rw [hcl]; simpa using hc
          have J := hide (show k + 1 ≤ l.length ∧ (l.take (k + 1)).any nanB = false ∧ l.getD k 0 = lo (l.take (k + 1)) ∧ l.getD k 0 < 18446744073709551616 from ⟨hlt, unhide J1, J2.symm, hb⟩)
          clear J1 J2 hcl i1 i2 HI hc
          generalize l.getD k 0 = x at *
          go_wp2_with (first | (go_at_call 39; refine (refNan_ok _ hb _).mono ?_; rintro e w' ⟨rfl, rfl⟩; simp only [hx']) | (go_at_call 40; refine (refCmp_ok _ _ hb i3 _).mono ?_; rintro e w' ⟨rfl, rfl⟩))
          exact ⟨⟨k + 1, x, rfl, by go_num, J⟩, by simp [RowKit.intOf]; omega⟩
        · rw [if_neg hc] at J2
          have h3 : (cmp3 (codeN (l.getD k 0)) (codeN s) < 0) = False := by rw [hcl]; simpa using hc
          have J := hide (show k + 1 ≤ l.length ∧ (l.take (k + 1)).any nanB = false ∧ s = lo (l.take (k + 1)) ∧ s < 18446744073709551616 from ⟨hlt, unhide J1, J2.symm, i3⟩)
          clear J1 J2 hcl i1 i2 HI hc
          generalize l.getD k 0 = x at *
          go_wp2_with (first | (go_at_call 39; refine (refNan_ok _ hb _).mono ?_; rintro e w' ⟨rfl, rfl⟩; simp only [hx']) | (go_at_call 40; refine (refCmp_ok _ _ hb i3 _).mono ?_; rintro e w' ⟨rfl, rfl⟩))
          exact ⟨⟨k + 1, s, rfl, by go_num, J⟩, by simp [RowKit.intOf]; omega⟩
    · have hlt' : ¬ (k : Int) < l.length := by omega
      obtain rfl : k = l.length := by omega
      rw [List.take_length] at i1 i2
      have E := hide (show s = least l by unfold least; rw [i1]; exact i2)
      clear i1 i2 i3 HI hlt hk
      go_wp2
      go_ret
      exact ⟨by rw [unhide E]; rfl, rfl⟩

set_option maxRecDepth 100000 in
set_option maxHeartbeats 1000000 in
theorem refMost_ok (a : Option Addr) (cap : Nat) (l : List Nat) (w : World) (hl : Fls w a l) (hn : l.length ≤ 1000) : Calls Try.prog 27 #[.slice a l.length cap] w fun e w' => e = .returned (.float .f64 (most l)) ∧ w' = w := by
  have hbit := bits_run
  have HL := hide hl
  clear hl
  go_enter Try.func27, Try.ntmps27
  go_wp2_with (go_at_call 30; refine (inf_down _).mono ?_; rintro e w' ⟨rfl, rfl⟩)
  go_loop [3, 4] (fun vs vi => ∃ (k s : Nat), vs = .float .f64 s ∧ vi = .int .i64 k ∧ Hid (k ≤ l.length ∧ (l.take k).any nanB = false ∧ s = hi (l.take k) ∧ s < 18446744073709551616)) (fun vs vi => l.length - (RowKit.intOf vi).toNat)
  case atStart => exact ⟨0, _, rfl, rfl, hide ⟨Nat.zero_le _, rfl, rfl, by decide⟩⟩
  case round =>
    obtain ⟨k, s, rfl, rfl, HI⟩ := hrel
    obtain ⟨hk, i1, i2, i3⟩ := unhide HI
    by_cases hlt : k < l.length
    · have hlt' : (k : Int) < l.length := by omega
      obtain ⟨xb, xo, rfl, c, hb⟩ := unhide HL k hlt
      by_cases hx : nanB (l.getD k 0) = true
      · have E := hide (show l.any nanB = true by
          rw [List.any_eq_true]; exact ⟨l.getD k 0, by simp [hlt], hx⟩)
        clear i1 i2 i3 HI
        generalize l.getD k 0 = x at *
        go_wp2_with (first | (go_at_call 39; refine (refNan_ok _ hb _).mono ?_; rintro e w' ⟨rfl, rfl⟩; simp only [hx]) | (go_at_call 24; refine (nan_ok _).mono ?_; rintro e w' ⟨rfl, rfl⟩))
        go_ret
        exact ⟨by unfold most; rw [if_pos (unhide E)]; rfl, rfl⟩
      · have hx' : nanB (l.getD k 0) = false := by simpa using hx
        clear hx
        have J1 := hide (show (l.take (k + 1)).any nanB = false by rw [any_step l k hlt, i1, hx']; rfl)
        have J2 := hi_step l k hlt
        rw [← i2] at J2
        have hcl := cmp3_gt (codeN (l.getD k 0)) (codeN s)
        by_cases hc : codeN s < codeN (l.getD k 0)
        · rw [if_pos hc] at J2
          have h3 : (0 < cmp3 (codeN (l.getD k 0)) (codeN s)) = True := by rw [hcl]; simpa using hc
          have J := hide (show k + 1 ≤ l.length ∧ (l.take (k + 1)).any nanB = false ∧ l.getD k 0 = hi (l.take (k + 1)) ∧ l.getD k 0 < 18446744073709551616 from ⟨hlt, unhide J1, J2.symm, hb⟩)
          clear J1 J2 hcl i1 i2 HI hc
          generalize l.getD k 0 = x at *
          go_wp2_with (first | (go_at_call 39; refine (refNan_ok _ hb _).mono ?_; rintro e w' ⟨rfl, rfl⟩; simp only [hx']) | (go_at_call 40; refine (refCmp_ok _ _ hb i3 _).mono ?_; rintro e w' ⟨rfl, rfl⟩))
          exact ⟨⟨k + 1, x, rfl, by go_num, J⟩, by simp [RowKit.intOf]; omega⟩
        · rw [if_neg hc] at J2
          have h3 : (0 < cmp3 (codeN (l.getD k 0)) (codeN s)) = False := by rw [hcl]; simpa using hc
          have J := hide (show k + 1 ≤ l.length ∧ (l.take (k + 1)).any nanB = false ∧ s = hi (l.take (k + 1)) ∧ s < 18446744073709551616 from ⟨hlt, unhide J1, J2.symm, i3⟩)
          clear J1 J2 hcl i1 i2 HI hc
          generalize l.getD k 0 = x at *
          go_wp2_with (first | (go_at_call 39; refine (refNan_ok _ hb _).mono ?_; rintro e w' ⟨rfl, rfl⟩; simp only [hx']) | (go_at_call 40; refine (refCmp_ok _ _ hb i3 _).mono ?_; rintro e w' ⟨rfl, rfl⟩))
          exact ⟨⟨k + 1, s, rfl, by go_num, J⟩, by simp [RowKit.intOf]; omega⟩
    · have hlt' : ¬ (k : Int) < l.length := by omega
      obtain rfl : k = l.length := by omega
      rw [List.take_length] at i1 i2
      have E := hide (show s = most l by unfold most; rw [i1]; exact i2)
      clear i1 i2 i3 HI hlt hk
      go_wp2
      go_ret
      exact ⟨by rw [unhide E]; rfl, rfl⟩

set_option maxRecDepth 100000 in
set_option maxHeartbeats 1000000 in
theorem refSum_ok (a : Option Addr) (cap : Nat) (l : List Nat) (w : World) (hl : Fls w a l) (hn : l.length ≤ 1000) : Calls Try.prog 25 #[.slice a l.length cap] w fun e w' => ∃ s, e = .returned (.float .f64 s) ∧ (∃ n, w' = w.drewN n) ∧ Is (sumO l) s := by
  have HL := hide hl
  clear hl
  go_enter Try.func25, Try.ntmps25
  go_wp2
  go_loopw [3, 4] (fun vs vi wr => ∃ (k s n : Nat), k ≤ l.length ∧ vs = .float .f64 s ∧ vi = .int .i64 k ∧ wr = w.drewN n ∧ Is (sumO (l.take k)) s) (fun vs vi wr => l.length - (RowKit.intOf vi).toNat)
  case atStart => exact ⟨0, 0, 0, Nat.zero_le _, rfl, rfl, rfl, by decide, .inl ⟨rfl, rfl⟩⟩
  case round =>
    obtain ⟨k, s, n, hk, rfl, rfl, rfl, hI⟩ := hrel
    by_cases hlt : k < l.length
    · have hlt' : (k : Int) < l.length := by omega
      obtain ⟨xb, xo, rfl, c, hb⟩ := unhide HL k hlt
      have c' : (w.drewN n).cell? ⟨xb, xo + k, none⟩ = some (.float .f64 (l.getD k 0)) := c
      obtain ⟨s', m, hr, hI'⟩ := add_is _ s (l.getD k 0) hI (w.drewN n)
      have HI := hide ((sumO_step l k hlt).symm ▸ hI' : Is (sumO (l.take (k + 1))) s')
      clear hI hI' hb c
      generalize l.getD k 0 = x at *
      go_wp2
      go_roundw
      case rel => exact ⟨k + 1, s', n + m, by omega, rfl, by go_num, rfl, unhide HI⟩
      case measure => simp [RowKit.intOf]; omega
    · have hlt' : ¬ (k : Int) < l.length := by omega
      obtain rfl : k = l.length := by omega
      rw [List.take_length] at hI
      have HI := hide hI
      clear hI hk hlt
      go_wp2
      go_ret
      exact ⟨s, rfl, ⟨n, rfl⟩, unhide HI⟩
end Go.Proofs.Ytggjcfmoebghjaa
