/- HeapFull: its closures; holds. -/
import Derived.Test.YtacfmmbdeajjbaaGreatDoorLq
import Derived.Test.YtacfmmbdeajjbaaGreatDoorHs
namespace Go.Proofs.YtacfmmbdeajjbaaGreatDoor
open Go.RowKit

section
variable {w w' w0 : World} {hb sb b bh bw ba : Nat} {T : Tay} {A : Ab} {P : List (Int × Int)} {v : Value}

end

theorem holds_up {x j : Nat} (h : x ≤ 8 * 2 ^ j) (hp : ∀ i, i < j → 8 * 2 ^ i < x) (hj : j ≤ 6) (h1 : 1 ≤ x) (h5 : x ≤ 512) : j = lv x := by
  have e : ∀ j : Nat, j ≤ 6 → j = 0 ∨ j = 1 ∨ j = 2 ∨ j = 3 ∨ j = 4 ∨ j = 5 ∨ j = 6 := fun j hj => by omega
  have p := hp (j - 1)
  rcases e j hj with rfl | rfl | rfl | rfl | rfl | rfl | rfl <;> simp at h p <;> unfold lv <;> repeat (first | omega | (split; omega))

set_option maxRecDepth 20000 in
set_option maxHeartbeats 1000000 in
theorem l8_holds (x : Nat) (h1 : 1 ≤ x) (h5 : x ≤ 512) (w : World) : Calls Tryz.prog 60 #[.int .i64 x] w fun e w' => e = .returned (.int .i64 (8 * 2 ^ lv x : Nat)) ∧ Dr w w' := by
  obtain ⟨H, hH⟩ : ∃ H, 8 * 2 ^ lv x = H := ⟨_, rfl⟩
  rw [hH]
  have HH := hide hH
  clear hH
  go_enter Tryz.func60, Tryz.ntmps60
  go_wp2_with fail
  go_loopw [3] (fun n wr => ∃ j : Nat, j ≤ 6 ∧ n = .int .i64 (8 * 2 ^ j : Nat) ∧ (∀ i, i < j → 8 * 2 ^ i < x) ∧ Dr w wr) (fun n wr => 2000 - (intOf n).toNat)
  case atStart => exact ⟨0, by omega, rfl, fun i hi => by omega, Dr.refl w⟩
  case round =>
    obtain ⟨j, hj, rfl, hp, hw⟩ := hrel
    obtain ⟨y, hy⟩ : ∃ y, 8 * 2 ^ j = y := ⟨_, rfl⟩
    have hy8 : y ≤ 512 := by
      have : 2 ^ j ≤ 2 ^ 6 := Nat.pow_le_pow_right (by omega) hj
      omega
    have hy1 : 8 ≤ y := by have := two_pos j; omega
    rw [hy]
    by_cases hlt : y < x
    · have hj6 : j < 6 := by
        refine Classical.byContradiction fun hn => ?_
        have : j = 6 := by omega
        subst this
        omega
      have HP := hide hp; have HY := hide hy; have HDR := hide hw
      clear hp hy hw
      go_wp2
      refine ⟨⟨j + 1, by omega, ?_, fun i hi => ?_, unhide HDR⟩, by simp [intOf]; omega⟩
      · have := unhide HY
        rw [Nat.pow_succ, show 8 * (2 ^ j * 2) = 2 * (8 * 2 ^ j) by omega, this]; simp
      · by_cases e : i = j
        · subst e; rw [unhide HY]; exact hlt
        · exact unhide HP i (by omega)
    · have hj' := holds_up (x := x) (j := j) (by omega) hp hj h1 h5
      have hyH : y = H := by rw [← hy, hj']; exact unhide HH
      subst hyH
      have HDR := hide hw
      clear hp hy hj' hw
      go_wp2
      go_ret
      exact ⟨rfl, unhide HDR⟩
end Go.Proofs.YtacfmmbdeajjbaaGreatDoor
