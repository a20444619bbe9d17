/- Floats: numbers by their bits. -/
import Derived.Test.YtggjcfmoebghjaaOwns
namespace Go.Proofs.Ytggjcfmoebghjaa
open Go.RowKit

set_option maxRecDepth 100000 in
set_option maxHeartbeats 1000000 in
theorem floats_ok (a : Option Addr) (len cap : Nat) (zs : Nat → Int) (w : World) (hN : Nums .u64 w a len zs) (hz : ∀ i, i < len → (zs i).toNat < 18446744073709551616) :
    Calls Try.prog 20 #[.slice a len cap] w fun e w' => ∃ v, e = .returned v ∧ Own w' w.heap.size v (flo zs (min len 60)) ∧ Below w.heap.size w w' := by
  have HN := hide hN
  have HZ := hide hz
  have hf := from_run
  clear hN hz
  go_enter Try.func20, Try.ntmps20
  go_wp2
  go_loopw [3, 4] (fun v vi wr => ∃ (k : Nat), k ≤ len ∧ k ≤ 60 ∧ vi = .int .i64 k ∧ Own wr w.heap.size v (flo zs k) ∧ Below w.heap.size w wr) (fun v vi wr => 60 - (RowKit.intOf vi).toNat)
  case atStart => exact ⟨0, Nat.zero_le _, Nat.zero_le _, rfl, Own.nil _ _, Below.refl _ _⟩
  case round =>
    obtain ⟨k, hk, hk60, rfl, hO, hB⟩ := hrel
    by_cases hlt : k < len
    · have hlt' : (k : Int) < len := by omega
      by_cases h60 : k < 60
      · have h60' : (k : Int) < 60 := by omega
        obtain ⟨xb, xo, rfl, c⟩ := (unhide HN).on hB k hlt
        have HB := hide hB; have HO := hide hO
        have hy := unhide HZ k hlt
        have hsz := hB.size
        clear hB hO
        have FS := hide (flo_succ zs k)
        have FL := hide (flo_len zs k)
        generalize zs k = z at *
        generalize flo zs k = L at *
        have hl : L.length ≤ 1000 := by rw [unhide FL]; omega
        have HL := hide hl
        clear hl
        go_wp2_with (at_builtin; refine append_fl wr rfl (.tmp 15) (.tmp 21) rfl w.heap.size _ hy u3 L rfl (unhide HO) rfl (unhide HL) hsz ?_)
        intro v' w2 hP
        have HO2 := hide hP.own; have HB2 := hide hP.bel
        clear hP
        go_wp2
        go_roundw
        case rel => exact ⟨k + 1, by omega, by omega, by go_num, by rw [unhide FS]; exact unhide HO2, (unhide HB).trans (unhide HB2)⟩
        case measure => simp [RowKit.intOf]; omega
      · have h60' : ¬ (k : Int) < 60 := by omega
        have E := hide (show min len 60 = k by omega)
        have HB := hide hB; have HO := hide hO
        clear hB hO hk hk60
        go_wp2
        go_ret
        exact ⟨_, rfl, by rw [unhide E]; exact unhide HO, unhide HB⟩
    · have hlt' : ¬ (k : Int) < len := by omega
      have E := hide (show min len 60 = k by omega)
      have HB := hide hB; have HO := hide hO
      clear hB hO hk hk60
      go_wp2
      go_ret
      exact ⟨_, rfl, by rw [unhide E]; exact unhide HO, unhide HB⟩
end Go.Proofs.Ytggjcfmoebghjaa
