/- Reply: sums, the least and the most of some numbers. -/
import Derived.Test.YticflknfkaoejaaDoorTe
import Derived.Test.YticflknfkaoejaaDoorRefC
namespace Go.Proofs.YticflknfkaoejaaDoor
open Go.RowKit

/-- Numbers that are read. -/
def Fls (w : World) (p : Option Addr) (n : Nat) (b : Nat → Nat) : Prop := ∀ i, i < n → ∃ g o, p = some ⟨g, o, none⟩ ∧ w.cell? ⟨g, o + i, none⟩ = some (.float .f64 (b i))
theorem Fls.still {w w' : World} {p : Option Addr} {n : Nat} {b : Nat → Nat} (h : Fls w p n b) (f : Still w w') : Fls w' p n b := fun i hi => by
  obtain ⟨g, o, e, c⟩ := h i hi
  exact ⟨g, o, e, f.cell' c fun x => x⟩
set_option maxRecDepth 100000 in
set_option maxHeartbeats 1000000 in
theorem refSum_ok {w : World} (p : Option Addr) (n c : Nat) (b : Nat → Nat) (h : Fls w p n b) (hn : n ≤ 1000) (hb : ∀ i, b i < 18446744073709551616) :
    Calls Tryd.prog 8 #[.slice p n c] w fun e w' => (∃ x, x < 18446744073709551616 ∧ e = .returned (.float .f64 x)) ∧ Still w w' := by
  have H := hide (And.intro h hb)
  clear h hb
  go_enter Tryd.func8, Tryd.ntmps8
  go_wp2_with fail
  go_loopw [3, 4] (fun s i wr => ∃ x k : Nat, s = .float .f64 x ∧ i = iv k ∧ Hid (k ≤ n ∧ x < 18446744073709551616 ∧ Still w wr)) (fun _ i _ => n - (RowKit.intOf i).toNat)
  case atStart => exact ⟨0, 0, rfl, rfl, hide ⟨Nat.zero_le _, by decide, Fr.refl _ _⟩⟩
  case round =>
    obtain ⟨x, k, rfl, rfl, HI⟩ := hrel
    by_cases hlt : k < n
    · have hlt' : ((k : Int) < n) = True := by simp; omega
      obtain ⟨g, o, rfl, c1⟩ := (unhide H).1 k hlt
      have c0 := (unhide HI).2.2.cell' c1 fun x => x
      obtain ⟨y, hy⟩ : ∃ y, b k = y := ⟨_, rfl⟩
      rw [hy] at c0
      have hk : k ≤ 1000 := by omega
      have HL := hide hlt
      clear c1 hy hlt
      cases hs : sumB x y with
      | some r =>
        have hr := add_run_some x y r hs
        have h2 := (sum_num x y r hs).2
        clear hs
        go_wp2
        exact ⟨⟨r, k + 1, rfl, by go_num, hide ⟨by have := unhide HL; omega, h2, (unhide HI).2.2⟩⟩, by have := unhide HL; simp [RowKit.intOf]; omega⟩
      | none =>
        have hr := add_run_none x y hs 35 wr
        have h2 := (anyNaN_nan x y wr).2
        obtain ⟨r, hrr⟩ : ∃ r, anyNaN x y wr = r := ⟨_, rfl⟩
        rw [hrr] at hr h2
        clear hs hrr
        go_wp2
        exact ⟨⟨r, k + 1, rfl, by go_num, hide ⟨by have := unhide HL; omega, h2, (unhide HI).2.2.drew⟩⟩, by have := unhide HL; simp [RowKit.intOf]; omega⟩
    · have hlt' : ((k : Int) < n) = False := by simp; omega
      clear hlt
      go_wp2
      go_ret
      exact ⟨⟨x, (unhide HI).2.1, rfl⟩, (unhide HI).2.2⟩
set_option maxRecDepth 100000 in
set_option maxHeartbeats 1000000 in
theorem refLeast_ok {w : World} (p : Option Addr) (n c : Nat) (b : Nat → Nat) (h : Fls w p n b) (hn : n ≤ 1000) (hb : ∀ i, b i < 18446744073709551616) :
    Calls Tryd.prog 6 #[.slice p n c] w fun e w' => (∃ x, x < 18446744073709551616 ∧ e = .returned (.float .f64 x)) ∧ w' = w := by
  have hbit := bits_run
  have H := hide (And.intro h hb)
  clear h hb
  go_enter Tryd.func6, Tryd.ntmps6
  go_wp2_with (first | (go_at_call 30; refine (inf_up _).mono ?_; rintro e w' ⟨rfl, rfl⟩))
  go_loop [3, 4] (fun s i => ∃ x k : Nat, s = .float .f64 x ∧ i = iv k ∧ Hid (k ≤ n ∧ x < 18446744073709551616)) (fun _ i => n - (RowKit.intOf i).toNat)
  case atStart => exact ⟨9218868437227405312, 0, rfl, rfl, hide ⟨Nat.zero_le _, by decide⟩⟩
  case round =>
    obtain ⟨x, k, rfl, rfl, HI⟩ := hrel
    by_cases hlt : k < n
    · have hlt' : ((k : Int) < n) = True := by simp; omega
      obtain ⟨g, o, rfl, c0⟩ := (unhide H).1 k hlt
      have hy2 := (unhide H).2 k
      obtain ⟨y, hy⟩ : ∃ y, b k = y := ⟨_, rfl⟩
      rw [hy] at c0 hy2
      have hk : k ≤ 1000 := by omega
      have hN := refNan_ok y hy2
      have hC := refCmp_ok y x hy2 (unhide HI).2
      have HL := hide (And.intro hlt hy2)
      clear hy hlt hy2
      cases hnan : nanB y with
      | true =>
        rw [hnan] at hN
        clear hnan
        go_wp2_with (first | (go_at_call 31; refine (hN _).mono ?_; rintro e w' ⟨rfl, rfl⟩) | (go_at_call 33; refine (nan_ok _).mono ?_; rintro e w' ⟨rfl, rfl⟩))
        go_ret
        exact ⟨⟨9221120237041090561, by decide, rfl⟩, rfl⟩
      | false =>
        rw [hnan] at hN
        clear hnan
        obtain ⟨c, hc⟩ : ∃ c, cmp3 (codeN y) (codeN x) = c := ⟨_, rfl⟩
        rw [hc] at hC
        clear hc
        by_cases hlc : c < 0
        · have hz : (c < 0) = True := by simp [hlc]
          clear hlc
          go_wp2_with (first | (go_at_call 31; refine (hN _).mono ?_; rintro e w' ⟨rfl, rfl⟩) | (go_at_call 34; refine (hC _).mono ?_; rintro e w' ⟨rfl, rfl⟩))
          exact ⟨⟨y, k + 1, rfl, by go_num, hide ⟨by have := (unhide HL).1; omega, (unhide HL).2⟩⟩, by have := (unhide HL).1; simp [RowKit.intOf]; omega⟩
        · have hz : (c < 0) = False := by simp; omega
          clear hlc
          go_wp2_with (first | (go_at_call 31; refine (hN _).mono ?_; rintro e w' ⟨rfl, rfl⟩) | (go_at_call 34; refine (hC _).mono ?_; rintro e w' ⟨rfl, rfl⟩))
          exact ⟨⟨x, k + 1, rfl, by go_num, hide ⟨by have := (unhide HL).1; omega, (unhide HI).2⟩⟩, by have := (unhide HL).1; simp [RowKit.intOf]; omega⟩
    · have hlt' : ((k : Int) < n) = False := by simp; omega
      clear hlt
      go_wp2
      go_ret
      exact ⟨⟨x, (unhide HI).2, rfl⟩, rfl⟩
set_option maxRecDepth 100000 in
set_option maxHeartbeats 1000000 in
theorem refMost_ok {w : World} (p : Option Addr) (n c : Nat) (b : Nat → Nat) (h : Fls w p n b) (hn : n ≤ 1000) (hb : ∀ i, b i < 18446744073709551616) :
    Calls Tryd.prog 7 #[.slice p n c] w fun e w' => (∃ x, x < 18446744073709551616 ∧ e = .returned (.float .f64 x)) ∧ w' = w := by
  have hbit := bits_run
  have H := hide (And.intro h hb)
  clear h hb
  go_enter Tryd.func7, Tryd.ntmps7
  go_wp2_with (first | (go_at_call 30; refine (inf_down _).mono ?_; rintro e w' ⟨rfl, rfl⟩))
  go_loop [3, 4] (fun s i => ∃ x k : Nat, s = .float .f64 x ∧ i = iv k ∧ Hid (k ≤ n ∧ x < 18446744073709551616)) (fun _ i => n - (RowKit.intOf i).toNat)
  case atStart => exact ⟨18442240474082181120, 0, rfl, rfl, hide ⟨Nat.zero_le _, by decide⟩⟩
  case round =>
    obtain ⟨x, k, rfl, rfl, HI⟩ := hrel
    by_cases hlt : k < n
    · have hlt' : ((k : Int) < n) = True := by simp; omega
      obtain ⟨g, o, rfl, c0⟩ := (unhide H).1 k hlt
      have hy2 := (unhide H).2 k
      obtain ⟨y, hy⟩ : ∃ y, b k = y := ⟨_, rfl⟩
      rw [hy] at c0 hy2
      have hk : k ≤ 1000 := by omega
      have hN := refNan_ok y hy2
      have hC := refCmp_ok y x hy2 (unhide HI).2
      have HL := hide (And.intro hlt hy2)
      clear hy hlt hy2
      cases hnan : nanB y with
      | true =>
        rw [hnan] at hN
        clear hnan
        go_wp2_with (first | (go_at_call 31; refine (hN _).mono ?_; rintro e w' ⟨rfl, rfl⟩) | (go_at_call 33; refine (nan_ok _).mono ?_; rintro e w' ⟨rfl, rfl⟩))
        go_ret
        exact ⟨⟨9221120237041090561, by decide, rfl⟩, rfl⟩
      | false =>
        rw [hnan] at hN
        clear hnan
        obtain ⟨c, hc⟩ : ∃ c, cmp3 (codeN y) (codeN x) = c := ⟨_, rfl⟩
        rw [hc] at hC
        clear hc
        by_cases hlc : 0 < c
        · have hz : (0 < c) = True := by simp [hlc]
          clear hlc
          go_wp2_with (first | (go_at_call 31; refine (hN _).mono ?_; rintro e w' ⟨rfl, rfl⟩) | (go_at_call 34; refine (hC _).mono ?_; rintro e w' ⟨rfl, rfl⟩))
          exact ⟨⟨y, k + 1, rfl, by go_num, hide ⟨by have := (unhide HL).1; omega, (unhide HL).2⟩⟩, by have := (unhide HL).1; simp [RowKit.intOf]; omega⟩
        · have hz : (0 < c) = False := by simp; omega
          clear hlc
          go_wp2_with (first | (go_at_call 31; refine (hN _).mono ?_; rintro e w' ⟨rfl, rfl⟩) | (go_at_call 34; refine (hC _).mono ?_; rintro e w' ⟨rfl, rfl⟩))
          exact ⟨⟨x, k + 1, rfl, by go_num, hide ⟨by have := (unhide HL).1; omega, (unhide HI).2⟩⟩, by have := (unhide HL).1; simp [RowKit.intOf]; omega⟩
    · have hlt' : ((k : Int) < n) = False := by simp; omega
      clear hlt
      go_wp2
      go_ret
      exact ⟨⟨x, (unhide HI).2, rfl⟩, rfl⟩
end Go.Proofs.YticflknfkaoejaaDoor
