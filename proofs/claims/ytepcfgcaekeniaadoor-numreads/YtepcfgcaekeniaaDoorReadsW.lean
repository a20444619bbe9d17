/- NumReads walked. -/
import Derived.Test.YtepcfgcaekeniaaDoorTells
namespace Go.Proofs.YtepcfgcaekeniaaDoor
open Go.RowKit

theorem tmod_in (a : Int) (N : Nat) : -((N : Int) + 1) < a.tmod ((N : Int) + 1) ∧ a.tmod ((N : Int) + 1) < (N : Int) + 1 := by
  have key : ∀ b : Int, 0 ≤ b → 0 ≤ b.tmod ((N : Int) + 1) ∧ b.tmod ((N : Int) + 1) < (N : Int) + 1 := fun b hb => by
    rw [Int.tmod_eq_emod_of_nonneg hb]
    exact ⟨Int.emod_nonneg _ (by omega), Int.emod_lt_of_pos _ (by omega)⟩
  rcases Int.le_total 0 a with h | h
  · have := key a h; omega
  · have h1 := key (-a) (by omega)
    rw [Int.neg_tmod] at h1
    omega
theorem w64_in (x : Int) (h1 : -9223372036854775808 ≤ x) (h2 : x ≤ 9223372036854775807) : wrap64 x = x := by unfold wrap64; omega
theorem place (i : Int) (N : Nat) (hN : N ≤ 40) : ∃ k : Nat, k ≤ N ∧ (wrap64 (wrap64 (i.tmod ((N : Int) + 1) + (N : Int)) + 1)).tmod ((N : Int) + 1) = (k : Int) := by
  have h := tmod_in i N
  rw [w64_in (i.tmod ((N : Int) + 1) + (N : Int)) (by omega) (by omega), w64_in _ (by omega) (by omega)]
  have h2 := tmod_in (i.tmod ((N : Int) + 1) + (N : Int) + 1) N
  have h3 := Int.tmod_nonneg ((N : Int) + 1) (show 0 ≤ i.tmod ((N : Int) + 1) + (N : Int) + 1 by omega)
  exact ⟨((i.tmod ((N : Int) + 1) + (N : Int) + 1).tmod ((N : Int) + 1)).toNat, by omega, by omega⟩
theorem cut_to (s : ByteArray) (k : Nat) (h : k ≤ s.size) : ∃ P : ByteArray, P.size ≤ s.size ∧ ∀ w, (Instr.sliceAt 9 (.string s) none (some (.int .i64 (k : Int))) none).run Tryd.prog w = .ok (.string P) w := by
  refine ⟨s.extract 0 k, by simp; omega, fun w => ?_⟩
  rw [run_sliceAt_string w 9 _ _ _ _ Tryd.underlying9]
  go_simp
theorem cut_from (s : ByteArray) (k : Nat) (h : k ≤ s.size) : ∃ P : ByteArray, P.size ≤ s.size ∧ ∀ w, (Instr.sliceAt 9 (.string s) (some (.int .i64 (k : Int))) none none).run Tryd.prog w = .ok (.string P) w := by
  refine ⟨s.extract k s.size, by simp, fun w => ?_⟩
  rw [run_sliceAt_string w 9 _ _ _ _ Tryd.underlying9]
  go_simp
theorem one_byte (c : Nat) (hc : c < 256) (w : World) : (convert 41 9 (.slice (some ⟨w.heap.size, 0, none⟩) 1 1)).run Tryd.prog (w.alloc (.cells #[.int .u8 (c : Int)] 5)).drew = .ok (.string ⟨#[UInt8.ofNat c]⟩) (w.alloc (.cells #[.int .u8 (c : Int)] 5)).drew := by
  refine run_convert_bytes_back _ 41 9 5 ⟨w.heap.size, 0, none⟩ 1 [UInt8.ofNat c] Tryd.underlying41 Tryd.underlying5 Tryd.underlying9 fun j hj => ?_
  obtain rfl : j = 0 := by simpa using hj
  show (w.alloc (.cells #[.int .u8 (c : Int)] 5)).cell? ⟨w.heap.size, 0, none⟩ = _
  rw [World.cell?_alloc_mark]
  simp [Nat.mod_eq_of_lt hc]
theorem below_byte (w : World) (c : Nat) : Below w.heap.size w (w.alloc (.cells #[.int .u8 (c : Int)] 5)).drew :=
  ⟨rfl, rfl, rfl, by show w.heap.size ≤ (w.heap.push _).size; rw [Array.size_push]; omega, fun k hk => by show (w.heap.push _)[k]? = w.heap[k]?; rw [Array.getElem?_push, if_neg (by omega)]⟩
theorem same_code (a b : Nat) (h : a = b ∨ nanB a = true ∧ nanB b = true) : (cmp3 (codeN a) (codeN b) == 0) = true := by
  have e : codeN a = codeN b := by
    rcases h with rfl | ⟨h1, h2⟩
    · rfl
    · unfold codeN; rw [if_pos h1, if_pos h2]
  rw [e]; simp [cmp3]
/-- One reading for every text that is not too long. -/
theorem readings : ∃ rd : ByteArray → Option Nat, (∀ s b, s.size ≤ 200 → rd s = some b → b < 18446744073709551616) ∧ (∀ s, s.size ≤ 200 → ∀ w, Rd w → Calls Tryd.prog 22 #[.string s] w fun e w' => e = .returned (readV (rd s)) ∧ Below w.heap.size w w') ∧ (∀ s, s.size ≤ 200 → ∀ w, Calls Tryd.prog 23 #[.string s] w fun e w' => e = .returned (refV (rd s)) ∧ w' = w) := by
  have h : ∀ s : ByteArray, ∃ o : Option Nat, s.size ≤ 200 → (∀ b, o = some b → b < 18446744073709551616) ∧ (∀ w, Rd w → Calls Tryd.prog 22 #[.string s] w fun e w' => e = .returned (readV o) ∧ Below w.heap.size w w') ∧ (∀ w, Calls Tryd.prog 23 #[.string s] w fun e w' => e = .returned (refV o) ∧ w' = w) := fun s => by
    by_cases hs : s.size ≤ 200
    · obtain ⟨o, h1, h2, h3⟩ := reads s (by omega)
      exact ⟨o, fun _ => ⟨h1, h2, h3⟩⟩
    · exact ⟨none, fun k => absurd k hs⟩
  exact ⟨fun s => (h s).choose, fun s b hs e => ((h s).choose_spec hs).1 b e, fun s hs => ((h s).choose_spec hs).2.1, fun s hs => ((h s).choose_spec hs).2.2⟩

set_option maxRecDepth 100000 in
set_option maxHeartbeats 4000000 in
theorem reads_law (a : Nat) (ha : a < 18446744073709551616) (i : Int) (c : Nat) (hc : c < 256) (h : Int) (w : World) (hw : Rd w) : Calls Tryd.prog 6 #[.int .u64 a, .int .i64 i, .int .u8 c, .int .i64 h] w fun e w' => e = .returned (.bool true) ∧ Below w.heap.size w w' := by
  have hf := from_run
  have hbt := bits_run
  obtain ⟨rd, g1, g2, g3⟩ := readings
  have pAny : ∀ s, s.size ≤ 200 → ∀ w, Rd w → Calls Tryd.prog 22 #[.string s] w fun e w' => ((∃ b, b < 18446744073709551616 ∧ rd s = some b ∧ e = .returned (.tuple #[.float .f64 b, .int .i64 0])) ∨ (rd s = none ∧ e = .returned (.tuple #[.float .f64 0, .int .i64 3]))) ∧ Below w.heap.size w w' := fun s hs w hw => (g2 s hs w hw).mono fun e w' ⟨k1, k2⟩ => ⟨by
    cases ho : rd s with
    | none => rw [ho] at k1; exact .inr ⟨rfl, k1⟩
    | some b => rw [ho] at k1; exact .inl ⟨b, g1 s b hs ho, rfl, k1⟩, k2⟩
  have rS : ∀ s b, rd s = some b → s.size ≤ 200 → ∀ w, Calls Tryd.prog 23 #[.string s] w fun e w' => e = .returned (.tuple #[.float .f64 b, .bool true]) ∧ w' = w := fun s b e hs w => by
    have := g3 s hs w; rw [e] at this; exact this
  have rN : ∀ s, rd s = none → s.size ≤ 200 → ∀ w, Calls Tryd.prog 23 #[.string s] w fun e w' => e = .returned (.tuple #[.float .f64 0, .bool false]) ∧ w' = w := fun s e hs w => by
    have := g3 s hs w; rw [e] at this; exact this
  clear g1 g2 g3
  obtain ⟨T, y, hT⟩ := tells a ha
  have h2 := hT.ref
  have hB0 : Below w.heap.size w w := Below.refl _ _
  obtain ⟨N, hN⟩ : ∃ N, T.size = N := ⟨_, rfl⟩
  have hN9 : N ≤ 40 := hN ▸ hT.small
  obtain ⟨k, hk, ek⟩ := place i N hN9
  obtain ⟨P, hP1, hP2⟩ := cut_to T k (by omega)
  obtain ⟨S, hS1, hS2⟩ := cut_from T k (by omega)
  obtain ⟨R, hR1, hR2⟩ : ∃ R : ByteArray, R.size ≤ T.size ∧ (k < N → ∀ w, (Instr.sliceAt 9 (.string T) (some (.int .i64 ((k : Int) + 1))) none none).run Tryd.prog w = .ok (.string R) w) := by
    by_cases hkN : k < N
    · obtain ⟨R, r1, r2⟩ := cut_from T (k + 1) (by omega)
      exact ⟨R, r1, fun _ => r2⟩
    · exact ⟨S, hS1, fun e => absurd e hkN⟩
  have hcv := one_byte c hc
  obtain ⟨s1, e1⟩ : ∃ s1, P ++ ⟨#[UInt8.ofNat c]⟩ ++ S = s1 := ⟨_, rfl⟩
  obtain ⟨s2, e2⟩ : ∃ s2, P ++ ⟨#[UInt8.ofNat c]⟩ ++ R = s2 := ⟨_, rfl⟩
  obtain ⟨s3, e3⟩ : ∃ s3, P ++ R = s3 := ⟨_, rfl⟩
  have z1 : s1.size ≤ 200 := by rw [← e1, ByteArray.size_append, ByteArray.size_append]; have : (⟨#[UInt8.ofNat c]⟩ : ByteArray).size = 1 := rfl; omega
  have z2 : s2.size ≤ 200 := by rw [← e2, ByteArray.size_append, ByteArray.size_append]; have : (⟨#[UInt8.ofNat c]⟩ : ByteArray).size = 1 := rfl; omega
  have z3 : s3.size ≤ 200 := by rw [← e3, ByteArray.size_append]; omega
  clear hT
  go_enter Tryd.func6, Tryd.ntmps6
  go_wp2_with (first
      | (go_at_call 21; refine (h2 _).mono ?_; rintro e w' ⟨rfl, rfl⟩))
  go_region
  have hB1 := below_byte w' c
  have hW1 := Rd.on hw hB1
  generalize World.drew (World.alloc w' _) = W1 at hB1 hW1 ⊢
  go_wp2_with fail
  focus
    have hR3 := hR2 (by assumption)
    go_region
    have hB2 := below_step hB1 (below_byte W1 c)
    have hW2 := Rd.on hW1 (below_byte W1 c)
    generalize World.drew (World.alloc W1 _) = W2 at hB2 hW2 ⊢
    go_wp2_with fail
  rotate_left 2
  focus
    have hR3 := hR2 (by assumption)
    go_region
    have hB2 : Below w'.heap.size w' W1.drew := below_step hB1 (Below.refl _ W1).drew
    have hW2 : Rd W1.drew := ⟨hW1.tab, hW1.pow, hW1.errs⟩
    generalize World.drew W1 = W2 at hB2 hW2 ⊢
    go_wp2_with fail
  all_goals
    go_at_call 22
    refine (pAny _ (by assumption) _ (by assumption)).mono ?_
    intro e w2 hq
    have hB5 := below_step (by assumption) hq.2
    have hW5 := Rd.on (by assumption) hq.2
    rcases hq.1 with ⟨b, hb, hrd, rfl⟩ | ⟨hrd, rfl⟩
    · obtain ⟨U, z, hU⟩ := tells b hb
      have pU : ∀ S, S = U → ∀ w, Rd w → Calls Tryd.prog 22 #[.string S] w fun e w' => e = .returned (.tuple #[.float .f64 z, .int .i64 0]) ∧ Below w.heap.size w w' := fun S e => e ▸ hU.parse
      have u1 := hU.text
      have u3 := hU.lt
      have u4 := same_code b z hU.same
      have u5 := rS _ b hrd (by assumption)
      clear hq hU pAny rS rN hrd
      go_wp2_with (first
        | (go_at_call 23; refine (u5 _).mono ?_; rintro e w' ⟨rfl, rfl⟩)
        | (go_at_call 24; refine (sameBits_ok _ _ (by assumption) (by assumption) (.inl rfl) _).mono ?_; rintro e w' ⟨rfl, rfl⟩)
        | (go_at_call 25; refine (u1 _ (by assumption)).mono ?_; intro e w2 h; have hB2 := below_step (by assumption) h.2; have hT2 := Rd.on (by assumption) h.2; obtain ⟨rfl, -⟩ := h)
        | (go_at_call 22; refine (pU _ (by with_reducible rfl) _ (by assumption)).mono ?_; intro e w2 h; have hB2 := below_step (by assumption) h.2; have hT2 := Rd.on (by assumption) h.2; obtain ⟨rfl, -⟩ := h)
        | (go_at_call 26; refine (same_ok _ _ (by assumption) (by assumption) _).mono ?_; rintro e w' ⟨rfl, rfl⟩)
        | (go_at_call 14; refine (awake_ok _ (Rd.tab (by assumption))).mono ?_; intro e w2 h; have hB2 := below_step (by assumption) h.2; obtain ⟨rfl, -⟩ := h))
      go_ret
      exact ⟨rfl, by assumption⟩
    · have u5 := rN _ hrd (by assumption)
      clear hq pAny rS rN hrd
      go_wp2_with (first
        | (go_at_call 23; refine (u5 _).mono ?_; rintro e w' ⟨rfl, rfl⟩)
        | (go_at_call 14; refine (awake_ok _ (Rd.tab (by assumption))).mono ?_; intro e w2 h; have hB2 := below_step (by assumption) h.2; obtain ⟨rfl, -⟩ := h))
      go_ret
      exact ⟨rfl, by assumption⟩
end Go.Proofs.YtepcfgcaekeniaaDoor
