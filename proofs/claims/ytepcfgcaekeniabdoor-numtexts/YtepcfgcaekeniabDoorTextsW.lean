/- NumTexts walked. -/
import Derived.Test.YtepcfgcaekeniabDoorTells
namespace Go.Proofs.YtepcfgcaekeniabDoor
open Go.RowKit

set_option maxRecDepth 100000 in
set_option maxHeartbeats 2000000 in
theorem texts_ok (a : Nat) (ha : a < 18446744073709551616) (s : ByteArray) (hs : s.size ≤ 281474976710656) (w : World) (hw : Rd w) : Calls Tryd.prog 4 #[.int .u64 a, .string s] w fun e w' => e = .returned (.bool true) ∧ Below w.heap.size w w' := by
  have hf := from_run
  have hbt := bits_run
  obtain ⟨T, y, hT⟩ := tells a ha
  obtain ⟨o, hlt, hP, hR⟩ := reads s hs
  have hB0 : Below w.heap.size w w := Below.refl _ _
  have pT : ∀ S, S = T → ∀ w, Rd w → Calls Tryd.prog 12 #[.string S] w fun e w' => e = .returned (.tuple #[.float .f64 y, .int .i64 0]) ∧ Below w.heap.size w w' := fun S e => e ▸ hT.parse
  have h1 := hT.text
  have h2 := hT.ref
  have h3 := hT.lt
  have h4 := hT.same
  have h5 : y = a ∨ nanB y = true ∧ nanB a = true := hT.same.imp Eq.symm And.symm
  clear hT
  cases o with
  | none =>
    have hP' : ∀ w, Rd w → Calls Tryd.prog 12 #[.string s] w fun e w' => e = .returned (.tuple #[.float .f64 0, .int .i64 3]) ∧ Below w.heap.size w w' := hP
    have hR' : ∀ w, Calls Tryd.prog 15 #[.string s] w fun e w' => e = .returned (.tuple #[.float .f64 0, .bool false]) ∧ w' = w := hR
    go_enter Tryd.func4, Tryd.ntmps4
    go_wp2_with (first
      | (go_at_call 11; refine (h1 _ (by assumption)).mono ?_; intro e w2 h; have hB2 := below_step (by assumption) h.2; have hT2 := Rd.on (by assumption) h.2; obtain ⟨rfl, -⟩ := h)
      | (go_at_call 13; refine (h2 _).mono ?_; rintro e w' ⟨rfl, rfl⟩)
      | (go_at_call 12; refine (pT _ (by with_reducible rfl) _ (by assumption)).mono ?_; intro e w2 h; have hB2 := below_step (by assumption) h.2; have hT2 := Rd.on (by assumption) h.2; obtain ⟨rfl, -⟩ := h)
      | (go_at_call 12; refine (hP' _ (by assumption)).mono ?_; intro e w2 h; have hB2 := below_step (by assumption) h.2; have hT2 := Rd.on (by assumption) h.2; obtain ⟨rfl, -⟩ := h)
      | (go_at_call 14; refine (sameBits_ok _ _ (by assumption) (by assumption) (by assumption) _).mono ?_; rintro e w' ⟨rfl, rfl⟩)
      | (go_at_call 15; refine (hR' _).mono ?_; rintro e w' ⟨rfl, rfl⟩)
      | (go_at_call 10; refine (awake_ok _ (Rd.tab (by assumption))).mono ?_; intro e w2 h; have hB2 := below_step (by assumption) h.2; obtain ⟨rfl, -⟩ := h))
    go_ret
    exact ⟨rfl, by assumption⟩
  | some b =>
    have hb := hlt b rfl
    have hP' : ∀ w, Rd w → Calls Tryd.prog 12 #[.string s] w fun e w' => e = .returned (.tuple #[.float .f64 b, .int .i64 0]) ∧ Below w.heap.size w w' := hP
    have hR' : ∀ w, Calls Tryd.prog 15 #[.string s] w fun e w' => e = .returned (.tuple #[.float .f64 b, .bool true]) ∧ w' = w := hR
    go_enter Tryd.func4, Tryd.ntmps4
    go_wp2_with (first
      | (go_at_call 11; refine (h1 _ (by assumption)).mono ?_; intro e w2 h; have hB2 := below_step (by assumption) h.2; have hT2 := Rd.on (by assumption) h.2; obtain ⟨rfl, -⟩ := h)
      | (go_at_call 13; refine (h2 _).mono ?_; rintro e w' ⟨rfl, rfl⟩)
      | (go_at_call 12; refine (pT _ (by with_reducible rfl) _ (by assumption)).mono ?_; intro e w2 h; have hB2 := below_step (by assumption) h.2; have hT2 := Rd.on (by assumption) h.2; obtain ⟨rfl, -⟩ := h)
      | (go_at_call 12; refine (hP' _ (by assumption)).mono ?_; intro e w2 h; have hB2 := below_step (by assumption) h.2; have hT2 := Rd.on (by assumption) h.2; obtain ⟨rfl, -⟩ := h)
      | (go_at_call 14; refine (sameBits_ok _ _ (by assumption) (by assumption) (by first | assumption | exact .inl rfl) _).mono ?_; rintro e w' ⟨rfl, rfl⟩)
      | (go_at_call 15; refine (hR' _).mono ?_; rintro e w' ⟨rfl, rfl⟩)
      | (go_at_call 10; refine (awake_ok _ (Rd.tab (by assumption))).mono ?_; intro e w2 h; have hB2 := below_step (by assumption) h.2; obtain ⟨rfl, -⟩ := h))
    go_ret
    exact ⟨rfl, by assumption⟩
end Go.Proofs.YtepcfgcaekeniabDoor
