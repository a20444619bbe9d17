/- hash's Of and Prefix, the document's own Of. -/
import Derived.Test.YtlignichjgggcaaHash1
import Derived.LoopTactic
namespace Go.Proofs.Ytlignichjgggcaa
open Go.RowKit

/-- What stands behind k bytes of the seed. -/
def seedN (s : Nat) : Nat → Nat
  | 0 => 14695981039346656037
  | k + 1 => joinN (seedN s k) (s / 256 ^ k % 256)
/-- What stands behind k bytes of the key. -/
def keyN (d : ByteArray) (h : Nat) : Nat → Nat
  | 0 => h
  | k + 1 => joinN (keyN d h k) (d.data.toList.getD k 0).toNat
def ofN (s : Nat) (d : ByteArray) : Nat := mixN (keyN d (seedN s 8) d.size)

theorem seed_lt (s k : Nat) : seedN s k < 18446744073709551616 := by
  cases k
  · show 14695981039346656037 < 18446744073709551616; decide
  · exact join_lt _ _
theorem key_lt (d : ByteArray) (h k : Nat) (hh : h < 18446744073709551616) : keyN d h k < 18446744073709551616 := by
  cases k
  · exact hh
  · exact join_lt _ _
theorem index_run (d : ByteArray) (k : Nat) (hk : k < d.size) (w : World) : (Instr.index 9 (.string d) (.int .i64 (k : Int))).run Try.prog w = .ok (.int .u8 ((d.data.toList.getD k 0).toNat : Int)) w := by
  rw [run_index_string w 9 d .i64 _ Try.underlying9, dif_pos ⟨by omega, by omega⟩]
  have h1 : k < d.data.size := hk
  have h2 : d.data.toList.getD k 0 = d.data[k] := by
    rw [List.getD_eq_getElem?_getD, Array.getElem?_toList, Array.getElem?_eq_getElem h1]; rfl
  rw [h2]; rfl

set_option maxRecDepth 100000 in
set_option maxHeartbeats 1000000 in
theorem of_ok (s : Nat) (d : ByteArray) (hs : s < 18446744073709551616) (hd : d.size ≤ 1000) (w : World) : Calls Try.prog 8 #[.int .u64 s, .string d] w fun e w' => e = .returned (.int .u64 (ofN s d)) ∧ w' = w := by
  have K := hide join_ok
  have KM := hide mix_ok
  go_enter Try.func8, Try.ntmps8
  go_wp2
  go_loop [0, 5, 7] (fun vs vh vi => ∃ (k t h : Nat), vs = .int .u64 t ∧ vh = .int .u64 h ∧ vi = .int .i64 k ∧ Hid (k ≤ 8 ∧ t = s / 256 ^ k ∧ h = seedN s k)) (fun _ _ vi => 8 - (RowKit.intOf vi).toNat)
  case atStart => exact ⟨0, s, _, rfl, rfl, rfl, hide ⟨by omega, by simp, rfl⟩⟩
  case round =>
    obtain ⟨k, t, h, rfl, rfl, rfl, HI⟩ := hrel
    obtain ⟨hk, ht, hh⟩ := unhide HI
    by_cases hlt : k < 8
    · have hlt' : (k : Int) < 8 := by omega
      have hl : h < 18446744073709551616 := by rw [hh]; exact seed_lt _ _
      have htl : t < 18446744073709551616 := by rw [ht]; exact Nat.lt_of_le_of_lt (Nat.div_le_self _ _) hs
      have K1 := unhide K h (t % 256) hl (Nat.mod_lt _ (by decide)) w
      rw [Int.natCast_emod] at K1
      have HK := hide K1
      have HN := hide (show k + 1 ≤ 8 ∧ t / 256 = s / 256 ^ (k + 1) ∧ joinN h (t % 256) = seedN s (k + 1) from ⟨hlt, by rw [ht, Nat.div_div_eq_div_mul, Nat.pow_succ], by rw [ht, hh]; rfl⟩)
      clear K1 HI ht hh
      generalize joinN h (t % 256) = h2 at *
      go_wp2_with fail
      refine (unhide HK).mono ?_
      rintro e w' ⟨rfl, h⟩; rw [h]; clear h w'
      go_wp2
      exact ⟨⟨k + 1, t / 256, h2, by simp, rfl, by go_num, HN⟩, by simp [RowKit.intOf]; omega⟩
    · have hlt' : ¬ (k : Int) < 8 := by omega
      obtain rfl : k = 8 := by omega
      have HS := hide hh
      have hl : h < 18446744073709551616 := by rw [hh]; exact seed_lt _ _
      clear HI ht hh hlt hk
      go_wp2_with fail
      have KX := hide (index_run d)
      go_loop [5, 6, 18] (fun vh _ vi => ∃ (k g : Nat), vh = .int .u64 g ∧ vi = .int .i64 k ∧ Hid (k ≤ d.size ∧ g = keyN d h k)) (fun _ _ vi => d.size - (RowKit.intOf vi).toNat)
      case atStart => exact ⟨0, h, rfl, rfl, hide ⟨by omega, rfl⟩⟩
      case round =>
        obtain ⟨k, g, rfl, rfl, HI⟩ := hrel
        obtain ⟨hk, hg⟩ := unhide HI
        have gl : g < 18446744073709551616 := by rw [hg]; exact key_lt _ _ _ hl
        by_cases hlt : k < d.size
        · have hlt' : (k : Int) < d.size := by omega
          have hx := unhide KX k hlt
          have HK := hide (unhide K g (d.data.toList.getD k 0).toNat gl (UInt8.toNat_lt _) w)
          have HN := hide (show k + 1 ≤ d.size ∧ joinN g (d.data.toList.getD k 0).toNat = keyN d h (k + 1) from ⟨hlt, by rw [hg]; rfl⟩)
          clear HI hg
          generalize joinN g (d.data.toList.getD k 0).toNat = h2 at *
          generalize (d.data.toList.getD k 0).toNat = c at *
          go_wp2_with fail
          refine (unhide HK).mono ?_
          rintro e w' ⟨rfl, h⟩; rw [h]; clear h w'
          go_wp2
          exact ⟨⟨k + 1, h2, rfl, by go_num, HN⟩, by simp [RowKit.intOf]; omega⟩
        · have hlt' : ¬ (k : Int) < d.size := by omega
          obtain rfl : k = d.size := by omega
          have HK := hide (unhide KM g gl w)
          have HN := hide (show mixN g = ofN s d by rw [hg, unhide HS]; rfl)
          clear HI hg HS
          generalize mixN g = m at *
          go_wp2_with fail
          refine (unhide HK).mono ?_
          rintro e w' ⟨rfl, h⟩; rw [h]; clear h w'
          go_wp2
          go_ret
          exact ⟨by rw [← unhide HN]; rfl, rfl⟩
end Go.Proofs.Ytlignichjgggcaa
