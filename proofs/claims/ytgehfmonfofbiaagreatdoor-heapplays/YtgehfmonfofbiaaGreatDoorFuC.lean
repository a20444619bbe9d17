/- HeapFull: its closures; holds. -/
import Derived.Test.YtgehfmonfofbiaaGreatDoorLq
import Derived.Test.YtgehfmonfofbiaaGreatDoorHs
namespace Go.Proofs.YtgehfmonfofbiaaGreatDoor
open Go.RowKit

section
variable {w w' w0 : World} {hb sb b bh bw ba : Nat} {T : Tay} {A : Ab} {P : List (Int × Int)} {v : Value}

set_option maxHeartbeats 1000000 in
theorem fuC1 (h : Hp w hb sb b T A P) (s : HpS (says P A)) (x : Nat) (h1 : 1 ≤ x) (h5 : x ≤ 512) (ch : w.cell? ⟨bh, 0, none⟩ = some (ptr hb)) (cw : w.cell? ⟨bw, 0, none⟩ = some (.int .i64 x)) (ca : Box w ba v) (na : ¬ tfoot sb b T ba) :
    Calls Tryz.prog 35 #[ptr bh, ptr bw, ptr ba] w fun e w' => (e = .returned (.tuple #[]) ∧ ∃ T' P', OnxX (fun k => k = ba) w sb b T w' T' 3984 A P' false ∧ TookAt x (says P A) A ba P' w') ∨ (e = .panicked (errnoP 60) ∧ Still w w' ∧ FullAt x (says P A)) := by
  have TK := h_takeP h s x h1 h5
  have HTK := hide TK; have HH := hide h; have HCA := hide ca
  have lt := ca.lt
  clear TK h s ca
  go_enter Tryz.func35, Tryz.ntmps35
  go_wp2_with fail
  refine (unhide HTK).mono ?_
  clear HTK
  rintro e w1 (⟨u, g, rfl, t, tk⟩ | ⟨rfl, D, hf⟩)
  · have bx : Box w1 ba v := by obtain ⟨T', P', o, _⟩ := t; exact (unhide HCA).kept o.fr na
    have c := bx.c; have z := bx.z
    have HX := hide (And.intro t (And.intro tk bx))
    clear t tk bx
    go_wp2
    go_end0
    obtain ⟨t, tk, bx⟩ := unhide HX
    obtain ⟨T', P', o, e⟩ := t.var (unhide HH) lt na (.int .i64 (160 + u * 8))
    subst e
    exact .inl ⟨rfl, T', P', o, u, bx.set _, tk⟩
  · exact ⟨rfl, .inr ⟨rfl, D, hf⟩⟩

set_option maxHeartbeats 1000000 in
theorem fuC2 (h : Hp w hb sb b T A P) (s : HpS (says P A)) (u : Nat) (hu : ask (says P A) u ≠ 0) (ch : w.cell? ⟨bh, 0, none⟩ = some (ptr hb)) (ca : w.cell? ⟨ba, 0, none⟩ = some (.int .i64 (160 + u * 8))) :
    Calls Tryz.prog 37 #[ptr bh, ptr ba] w fun e w' => e = .returned (.tuple #[]) ∧ ∃ T' P', Onx w sb b T w' T' 3984 A P' false ∧ Gave (says P A) u (says P' A) := by
  have GV := h_give h s u hu
  have HGV := hide GV
  clear GV h s hu
  go_enter Tryz.func37, Tryz.ntmps37
  go_wp2_with fail
  refine (unhide HGV).mono ?_
  clear HGV
  rintro e w1 ⟨rfl, g, ⟨T', P', o, eg⟩, gv⟩
  subst eg
  have HX := hide (And.intro o gv)
  clear o gv
  go_wp2
  go_end0
  exact ⟨rfl, T', P', unhide HX⟩
end

theorem holds_up {x j : Nat} (h : x ≤ 8 * 2 ^ j) (hp : ∀ i, i < j → 8 * 2 ^ i < x) (hj : j ≤ 6) (h1 : 1 ≤ x) (h5 : x ≤ 512) : j = lv x := by
  have e : ∀ j : Nat, j ≤ 6 → j = 0 ∨ j = 1 ∨ j = 2 ∨ j = 3 ∨ j = 4 ∨ j = 5 ∨ j = 6 := fun j hj => by omega
  have p := hp (j - 1)
  rcases e j hj with rfl | rfl | rfl | rfl | rfl | rfl | rfl <;> simp at h p <;> unfold lv <;> repeat (first | omega | (split; omega))

set_option maxRecDepth 20000 in
set_option maxHeartbeats 1000000 in
theorem l8_holds (x : Nat) (h1 : 1 ≤ x) (h5 : x ≤ 512) (w : World) : Calls Tryz.prog 36 #[.int .i64 x] w fun e w' => e = .returned (.int .i64 (8 * 2 ^ lv x : Nat)) ∧ Dr w w' := by
  obtain ⟨H, hH⟩ : ∃ H, 8 * 2 ^ lv x = H := ⟨_, rfl⟩
  rw [hH]
  have HH := hide hH
  clear hH
  go_enter Tryz.func36, Tryz.ntmps36
  go_wp2_with fail
  go_loopw [3] (fun n wr => ∃ j : Nat, j ≤ 6 ∧ n = .int .i64 (8 * 2 ^ j : Nat) ∧ (∀ i, i < j → 8 * 2 ^ i < x) ∧ Dr w wr) (fun n wr => 2000 - (intOf n).toNat)
  case atStart => exact ⟨0, by omega, rfl, fun i hi => by omega, Dr.refl w⟩
  case round =>
    obtain ⟨j, hj, rfl, hp, hw⟩ := hrel
    obtain ⟨y, hy⟩ : ∃ y, 8 * 2 ^ j = y := ⟨_, rfl⟩
    have hy8 : y ≤ 512 := by
      have : 2 ^ j ≤ 2 ^ 6 := Nat.pow_le_pow_right (by omega) hj
      omega
    have hy1 : 8 ≤ y := by have := two_pos j; omega
    rw [hy]
    by_cases hlt : y < x
    · have hj6 : j < 6 := by
        refine Classical.byContradiction fun hn => ?_
        have : j = 6 := by omega
        subst this
        omega
      have HP := hide hp; have HY := hide hy; have HDR := hide hw
      clear hp hy hw
      go_wp2
      refine ⟨⟨j + 1, by omega, ?_, fun i hi => ?_, unhide HDR⟩, by simp [intOf]; omega⟩
      · have := unhide HY
        rw [Nat.pow_succ, show 8 * (2 ^ j * 2) = 2 * (8 * 2 ^ j) by omega, this]; simp
      · by_cases e : i = j
        · subst e; rw [unhide HY]; exact hlt
        · exact unhide HP i (by omega)
    · have hj' := holds_up (x := x) (j := j) (by omega) hp hj h1 h5
      have hyH : y = H := by rw [← hy, hj']; exact unhide HH
      subst hyH
      have HDR := hide hw
      clear hp hy hj' hw
      go_wp2
      go_ret
      exact ⟨rfl, unhide HDR⟩
end Go.Proofs.YtgehfmonfofbiaaGreatDoor
