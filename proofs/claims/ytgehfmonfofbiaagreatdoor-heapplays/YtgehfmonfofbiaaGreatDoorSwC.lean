/- HeapSweeps: which pieces are kept; its closures. -/
import Derived.Test.YtgehfmonfofbiaaGreatDoorSo
namespace Go.Proofs.YtgehfmonfofbiaaGreatDoor
open Go.RowKit

variable {w : World} {bl : Nat}

set_option maxRecDepth 20000 in
set_option maxHeartbeats 2000000 in
theorem sw_keep (a : Option Addr) (cap : Nat) (ls : List (Nat × Nat)) (pc : PcsAt w a ls) (hl : ls.length ≤ 478) (u : Nat) (_hu : u < 478) (cl : w.cell? ⟨bl, 0, none⟩ = some (.slice a ls.length cap)) :
    Calls Tryz.prog 41 #[.int .i64 (160 + (u : Int) * 8), ptr bl] w fun e w' => e = .returned (.bool (decide (∃ y ∈ ls, y.1 = u))) ∧ Dr w w' := by
  obtain ⟨m, hm⟩ : ∃ m, ls.length = m := ⟨_, rfl⟩
  rw [hm] at hl cl
  have HM := hide hm; have HPC := hide pc
  clear hm pc
  go_enter Tryz.func41, Tryz.ntmps41
  go_wp2_with fail
  go_loopw [4] (fun i wr => ∃ q : Nat, q ≤ m ∧ i = .int .i64 q ∧ (∀ k y, k < q → ls[k]? = some y → y.1 ≠ u) ∧ Dr w wr) (fun i wr => 500 - (intOf i).toNat)
  case atStart => exact ⟨0, by omega, rfl, fun k y hk => by omega, Dr.refl w⟩
  case round =>
    obtain ⟨q, hq, rfl, no, D⟩ := hrel
    have clr := D.still.cell' cl (fun x => x)
    by_cases hlt : q < m
    · obtain ⟨y, hy⟩ : ∃ y, ls[q]? = some y := ⟨ls[q]'(by have := unhide HM; omega), List.getElem?_eq_getElem _⟩
      obtain ⟨xb, xo, ea, c0, _⟩ := unhide HPC q y hy
      subst ea
      have c0 := D.still.cell' c0 (fun x => x)
      have HX := hide (And.intro no (And.intro D hy))
      clear no D
      by_cases he : y.1 = u
      · rw [he] at c0
        have HE := hide he
        clear he hy
        go_wp2
        go_ret
        obtain ⟨no, D, hy⟩ := unhide HX
        exact ⟨by rw [decide_eq_true ⟨y, List.mem_of_getElem? hy, unhide HE⟩]; rfl, D⟩
      · have g1 : ((160 + (y.1 : Int) * 8) == 160 + (u : Int) * 8) = false := by simp; omega
        clear hy
        go_wp2
        obtain ⟨no, D, hy⟩ := unhide HX
        refine ⟨⟨q + 1, by omega, by go_num, fun k z hk hz => ?_, D⟩, by simp [intOf]; omega⟩
        rcases Nat.lt_or_ge k q with h | h
        · exact no k z h hz
        · have : k = q := by omega
          subst this
          rw [hy] at hz
          injection hz with hz
          rw [← hz]; exact he
    · have HX := hide (And.intro no D)
      clear no D
      go_wp2
      go_ret
      obtain ⟨no, D⟩ := unhide HX
      refine ⟨?_, D⟩
      have hn : ¬ ∃ y ∈ ls, y.1 = u := by
        rintro ⟨y, hy, e⟩
        obtain ⟨k, hk, ek⟩ := List.mem_iff_getElem.1 hy
        exact no k y (by have := unhide HM; omega) (by rw [List.getElem?_eq_getElem hk, ek]) e
      rw [decide_eq_false hn]
      rfl
end Go.Proofs.YtgehfmonfofbiaaGreatDoor
