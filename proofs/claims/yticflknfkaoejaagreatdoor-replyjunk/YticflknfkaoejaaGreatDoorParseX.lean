/- num's Parse of texts that open with the mark of bits. -/
import Derived.Test.YticflknfkaoejaaGreatDoorPHex
namespace Go.Proofs.YticflknfkaoejaaGreatDoor
open Go.RowKit

theorem hexv_hexd : ∀ v, v < 16 → hexv (hexd v) = some v := by decide +kernel
theorem unh_go (f v : Nat) (l : List UInt8) (hv : v < 16 ^ f) (hf : 1 ≤ f) : unh (hexGo f v l) 0 = unh l v := by
  induction f generalizing v l with
  | zero => omega
  | succ f ih =>
    rw [hexGo]
    split
    · rename_i h
      rw [unh, hexv_hexd v h]; simp
    · rename_i h
      rcases Nat.eq_zero_or_pos f with rfl | h0
      · simp at hv; omega
      · rw [ih (v / 16) _ (Nat.div_lt_of_lt_mul (by rw [Nat.pow_succ] at hv; omega)) h0, unh, hexv_hexd _ (Nat.mod_lt _ (by omega))]
        simp only [Option.bind_some]
        rw [show v / 16 * 16 + v % 16 = v by omega]
theorem unh_noughts (k : Nat) (l : List UInt8) : unh (List.replicate k 48 ++ l) 0 = unh l 0 := by
  induction k with
  | zero => rfl
  | succ k ih =>
    rw [List.replicate_succ, List.cons_append, unh, show hexv 48 = some 0 by decide]
    simpa using ih
theorem pHex_hexT (u : Nat) (hu : u < 18446744073709551616) (hn : nanB u = false) : pHex (List.replicate (16 - (hexL u).length) 48 ++ hexL u) = some u := by
  obtain ⟨l1, l2⟩ := hexL_length u hu
  unfold pHex
  rw [if_pos (by simp; omega), unh_noughts]
  unfold hexL
  rw [unh_go 16 u [] (by simpa using hu) (by decide), unh, Option.filter_some, if_pos (by rw [hn]; rfl)]

set_option maxRecDepth 100000 in
set_option maxHeartbeats 1000000 in
theorem parse_x (s : ByteArray) (l : List UInt8) (hs : s.data.toList = 48 :: 120 :: l) (w : World) : Calls Tryz.prog 83 #[.string s] w fun e w' => e = .returned (readV (pHex l)) ∧ w' = w := by
  have hcut : ∀ w, Calls Tryz.prog 65 #[.string s, .string ⟨#[48, 120]⟩] w fun e w' => e = .returned (.tuple #[.string ⟨l.toArray⟩, .bool true]) ∧ w' = w := fun w => by
    have h := Tryz.strings_CutPrefix s ⟨#[48, 120]⟩ w
    have e1 : Lib.trimPrefix s.data.toList [48, 120] = l := by rw [hs]; simp [Lib.trimPrefix, Lib.hasPrefix]
    have e2 : Lib.hasPrefix s.data.toList [48, 120] = true := by rw [hs]; simp [Lib.hasPrefix]
    rw [show (⟨#[48, 120]⟩ : ByteArray).data.toList = [48, 120] from rfl, e1, e2] at h
    exact h
  have hp : ∀ w, Calls Tryz.prog 100 #[.string ⟨l.toArray⟩] w fun e w' => e = .returned (readV (pHex l)) ∧ w' = w := parseHex_ok ⟨l.toArray⟩
  obtain ⟨x, y, e⟩ : ∃ x y, readV (pHex l) = .tuple #[.float .f64 x, .int .i64 y] := ⟨_, _, rfl⟩
  rw [e] at hp ⊢
  clear e
  have n1 : (s.toList == [110, 97, 110]) = false := by rw [ByteArray.toList_eq, hs]; rfl
  have n2 : (s.toList == [105, 110, 102]) = false := by rw [ByteArray.toList_eq, hs]; rfl
  have n3 : (s.toList == [45, 105, 110, 102]) = false := by rw [ByteArray.toList_eq, hs]; rfl
  have n4 : (s.toList == [45, 48]) = false := by rw [ByteArray.toList_eq, hs]; rfl
  clear hs
  go_enter Tryz.func83, Tryz.ntmps83
  go_wp2_with (first | (go_at_call 65; refine (hcut _).mono ?_; rintro e w' ⟨rfl, rfl⟩) | (go_at_call 100; refine (hp _).mono ?_; rintro e w' ⟨rfl, rfl⟩))
  go_ret2
  exact ⟨rfl, rfl⟩
theorem parse_hexT (u : Nat) (hu : u < 18446744073709551616) (hn : nanB u = false) (w : World) : Calls Tryz.prog 83 #[.string ⟨(hexT u).toArray⟩] w fun e w' => e = .returned (.tuple #[.float .f64 u, .int .i64 0]) ∧ w' = w := by
  have h := parse_x ⟨(hexT u).toArray⟩ (List.replicate (16 - (hexL u).length) 48 ++ hexL u) (by simp [hexT]) w
  rw [pHex_hexT u hu hn] at h
  exact h
end Go.Proofs.YticflknfkaoejaaGreatDoor
