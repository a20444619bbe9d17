/- The document's own Of; Prefix; awake. -/
import Derived.Test.YtlignichjgggcaaHash2
namespace Go.Proofs.Ytlignichjgggcaa
open Go.RowKit

theorem shr_nat (s k : Nat) : (s : Int) / 2 ^ k = ((s / 2 ^ k : Nat) : Int) := by
  rw [Int.natCast_ediv, Int.natCast_pow]; rfl
theorem joinRef (h s k : Nat) (hh : h < 18446744073709551616) (hs : s < 18446744073709551616) :
    IntKind.u64.wrap (bits .xor .u64 (h : Int) (bits .and .u64 ((s : Int) / 2 ^ (8 * k)) 255) * 1099511628211) = (joinN h (s / 256 ^ k % 256) : Int) := by
  have h1 : s / 2 ^ (8 * k) < 18446744073709551616 := Nat.lt_of_le_of_lt (Nat.div_le_self _ _) hs
  have h2 : s / 2 ^ (8 * k) &&& 255 = s / 256 ^ k % 256 := by
    rw [Nat.and_two_pow_sub_one_eq_mod _ 8, Nat.pow_mul]
  have h3 : s / 256 ^ k % 256 < 256 := Nat.mod_lt _ (by decide)
  rw [shr_nat, show (255 : Int) = ((255 : Nat) : Int) from rfl, u64_and_nat _ 255 h1 (by decide), h2, u64_xor_nat _ _ hh (by omega)]
  have := wrapN ((h ^^^ s / 256 ^ k % 256) * 1099511628211)
  rw [Int.natCast_mul] at this
  exact this
theorem joinRef2 (h c : Nat) (hh : h < 18446744073709551616) (hc : c < 256) : IntKind.u64.wrap (bits .xor .u64 (h : Int) (c : Int) * 1099511628211) = (joinN h c : Int) := by
  rw [u64_xor_nat _ _ hh (by omega)]
  have := wrapN ((h ^^^ c) * 1099511628211)
  rw [Int.natCast_mul] at this
  exact this

set_option maxRecDepth 100000 in
set_option maxHeartbeats 1000000 in
theorem refOf_ok (s : Nat) (d : ByteArray) (hs : s < 18446744073709551616) (hd : d.size ≤ 1000) (w : World) : Calls Try.prog 9 #[.int .u64 s, .string d] w fun e w' => e = .returned (.int .u64 (ofN s d)) ∧ w' = w := by
  have KM := hide refMix_ok
  go_enter Try.func9, Try.ntmps9
  go_wp2
  go_loop [5, 6] (fun vh vi => ∃ (k h : Nat), vh = .int .u64 h ∧ vi = .int .i64 k ∧ Hid (k ≤ 8 ∧ h = seedN s k)) (fun _ vi => 8 - (RowKit.intOf vi).toNat)
  case atStart => exact ⟨0, _, rfl, rfl, hide ⟨by omega, rfl⟩⟩
  case round =>
    obtain ⟨k, h, rfl, rfl, HI⟩ := hrel
    obtain ⟨hk, hh⟩ := unhide HI
    have hl : h < 18446744073709551616 := by rw [hh]; exact seed_lt _ _
    by_cases hlt : k < 8
    · have hlt' : (k : Int) < 8 := by omega
      have HN := hide (show k + 1 ≤ 8 ∧ joinN h (s / 256 ^ k % 256) = seedN s (k + 1) from ⟨hlt, by rw [hh]; rfl⟩)
      have E := joinRef h s k hl hs
      clear HI hh
      generalize joinN h (s / 256 ^ k % 256) = h2 at *
      go_wp2
      exact ⟨⟨k + 1, h2, rfl, by go_num, HN⟩, by simp [RowKit.intOf]; omega⟩
    · have hlt' : ¬ (k : Int) < 8 := by omega
      obtain rfl : k = 8 := by omega
      have HS := hide hh
      clear HI hh hlt hk
      go_wp2_with fail
      have KX := hide (index_run d)
      go_loop [5, 7] (fun vh vi => ∃ (k g : Nat), vh = .int .u64 g ∧ vi = .int .i64 k ∧ Hid (k ≤ d.size ∧ g = keyN d h k)) (fun _ vi => d.size - (RowKit.intOf vi).toNat)
      case atStart => exact ⟨0, h, rfl, rfl, hide ⟨by omega, rfl⟩⟩
      case round =>
        obtain ⟨k, g, rfl, rfl, HI⟩ := hrel
        obtain ⟨hk, hg⟩ := unhide HI
        have gl : g < 18446744073709551616 := by rw [hg]; exact key_lt _ _ _ hl
        by_cases hlt : k < d.size
        · have hlt' : (k : Int) < d.size := by omega
          have hx := unhide KX k hlt
          have E := joinRef2 g (d.data.toList.getD k 0).toNat gl (UInt8.toNat_lt _)
          have hc : (d.data.toList.getD k 0).toNat < 256 := UInt8.toNat_lt _
          have HN := hide (show k + 1 ≤ d.size ∧ joinN g (d.data.toList.getD k 0).toNat = keyN d h (k + 1) from ⟨hlt, by rw [hg]; rfl⟩)
          clear HI hg
          generalize joinN g (d.data.toList.getD k 0).toNat = h2 at *
          generalize (d.data.toList.getD k 0).toNat = c at *
          go_wp2
          exact ⟨⟨k + 1, h2, rfl, by go_num, HN⟩, by simp [RowKit.intOf]; omega⟩
        · have hlt' : ¬ (k : Int) < d.size := by omega
          obtain rfl : k = d.size := by omega
          have HK := hide (unhide KM g gl w)
          have HN := hide (show mixN g = ofN s d by rw [hg, unhide HS]; rfl)
          clear HI hg HS
          generalize mixN g = m at *
          go_wp2_with fail
          refine (unhide HK).mono ?_
          rintro e w' ⟨rfl, h⟩; rw [h]; clear h w'
          go_wp2
          go_ret
          exact ⟨by rw [← unhide HN]; rfl, rfl⟩

/-- The uppermost bits. -/
def preN (h : Nat) (n : Int) : Nat := if n < 1 then 0 else h / 2 ^ (64 - (min n 16).toNat)
theorem pre_lt (h : Nat) (m : Nat) (hh : h < 18446744073709551616) (hm : m ≤ 16) : h / 2 ^ (64 - m) < 65536 := by
  refine Nat.div_lt_of_lt_mul ?_
  have : 2 ^ 48 ≤ 2 ^ (64 - m) := Nat.pow_le_pow_right (by decide) (by omega)
  omega
theorem prefix_ok (h : Nat) (n : Int) (hh : h < 18446744073709551616) (w : World) : Calls Try.prog 13 #[.int .u64 h, .int .i64 n] w fun e w' => e = .returned (.int .i64 (preN h n)) ∧ w' = w := by
  by_cases h0 : n < 1
  · have HE := hide (show preN h n = 0 from if_pos h0)
    go_enter Try.func13, Try.ntmps13
    go_wp2
    go_ret
    exact ⟨by rw [unhide HE]; rfl, rfl⟩
  · by_cases h1 : n ≤ 16
    · obtain ⟨m, rfl⟩ : ∃ m : Nat, n = (m : Int) := ⟨n.toNat, by omega⟩
      have HE := hide (show preN h m = h / 2 ^ (64 - m) by unfold preN; rw [if_neg h0, show (min (m : Int) 16).toNat = m by omega])
      have hp := pre_lt h m hh (by omega)
      have e1 : (64 - (m : Int)).toNat = 64 - m := by omega
      have e2 := shr_nat h (64 - m)
      generalize h / 2 ^ (64 - m) = p at *
      have e3 : wrap64 (p : Int) = p := by unfold wrap64; omega
      have h2 : ¬ (16 : Int) < m := by omega
      go_enter Try.func13, Try.ntmps13
      go_wp2
      go_ret
      exact ⟨by rw [unhide HE]; rfl, rfl⟩
    · have HE := hide (show preN h n = h / 281474976710656 by unfold preN; rw [if_neg h0, show (min n 16).toNat = 16 by omega])
      have e3 : wrap64 ((h : Int) / 281474976710656) = ((h / 281474976710656 : Nat) : Int) := by unfold wrap64; omega
      have h2 : (16 : Int) < n := by omega
      go_enter Try.func13, Try.ntmps13
      go_wp2
      go_ret
      exact ⟨by rw [unhide HE]; rfl, rfl⟩
end Go.Proofs.Ytlignichjgggcaa
