/- step, Load and Store of a device. -/
import Derived.Test.YtamghkabclbkgaaLeaf
namespace Go.Proofs.Ytamghkabclbkgaa
open Go.RowKit

/-- A step that goes on. -/
def Ab.tick (A : Ab) : Ab := { A with steps := A.steps + 1, fuse := if 0 < A.fuse then A.fuse - 1 else A.fuse }
/-- It has power, a fuse that lets one more go on (or none), and few steps behind it. -/
structure Live (A : Ab) : Prop where
  dead : A.dead = false
  fuse : A.fuse ≠ 0
  big : A.fuse < 9223372036854775808
  few : A.steps < 4294967296

theorem DevL.steps0 {w : World} {b : Nat} {L : Lay} {A : Ab} (h : DevL w b L A) : 0 ≤ A.steps := by have := h.few; omega

theorem step_ok {w : World} {b : Nat} {L : Lay} {A : Ab} (h : DevL w b L A) (lv : Live A) :
    Calls Try.prog 77 #[ptr b] w fun e w' => e = .returned (.tuple #[]) ∧ DevL w' b L A.tick ∧ Fr (foot b L) w w' := by
  have h6 := h.c6; rw [lv.dead] at h6
  by_cases hf : 0 < A.fuse
  · refine (step_fuse b A.fuse A.steps w h.c4 h.c5 h6 (h.zb 4) (h.zb 5) hf lv.big h.steps0 lv.few).mono ?_
    rintro e w' ⟨rfl, rfl⟩
    refine ⟨rfl, ?_, ?_⟩
    · have d := (h.setFuse (A.fuse - 1)).setSteps (A.steps + 1) (by show A.steps ≤ _; omega)
      simp only [Ab.tick, if_pos hf]
      exact d
    · exact ((Fr.refl _ w).setCell (.inl (.inl rfl)) _).setCell (.inl (.inl rfl)) _
  · have hn : A.fuse < 0 := by have := lv.fuse; omega
    refine (step_free b A.fuse A.steps w h.c4 h.c5 h6 (h.zb 4) hn h.steps0 lv.few).mono ?_
    rintro e w' ⟨rfl, rfl⟩
    refine ⟨rfl, ?_, ?_⟩
    · have d := h.setSteps (A.steps + 1) (by omega)
      simp only [Ab.tick, if_neg hf]
      exact d
    · exact (Fr.refl _ w).setCell (.inl (.inl rfl)) _

/-- A step that finds the power gone. -/
theorem step_lost {w : World} {b : Nat} {L : Lay} {A : Ab} (h : DevL w b L A) (hd : A.dead = true ∨ A.fuse = 0) :
    Calls Try.prog 77 #[ptr b] w fun e w' => e = .panicked lost ∧ DevL w' b L { A with dead := true } ∧ Fr (foot b L) w w' := by
  by_cases hf : A.fuse = 0
  · have h5 := h.c5; rw [hf] at h5
    refine (step_burnt b A.dead w h5 h.c6 (h.zb 6)).mono ?_
    rintro e w' ⟨rfl, rfl⟩
    exact ⟨rfl, h.setDead true, (Fr.refl _ w).setCell (.inl (.inl rfl)) _⟩
  · have hdd : A.dead = true := by rcases hd with h | h; exact h; exact absurd h hf
    have h6 := h.c6; rw [hdd] at h6
    refine (step_dead b A.fuse w h.c5 (by simpa using hf) h6).mono ?_
    rintro e w' ⟨rfl, rfl⟩
    refine ⟨rfl, ?_, Fr.refl _ _⟩
    have e : ({ A with dead := true } : Ab) = A := by rw [← hdd]
    rw [e]; exact h

set_option maxHeartbeats 400000 in
theorem load_cells {kn : Nat} (b bn n j : Nat) (v : Int) (w : World) (hn : n ≤ 8192) (h0 : w.cell? ⟨b, 0, none⟩ = some (rowc bn n kn)) (h6 : w.cell? ⟨b, 6, none⟩ = some (.bool false)) (hj : j < n * 8)
   (hc : w.cell? ⟨bn, j / 8 * 8 + j % 8, none⟩ = some (u64 v)) :
    Calls Try.prog 57 #[ptr b, .int .i64 j] w fun e w' => e = .returned (u64 v) ∧ w' = w := by
  go_enter Try.func57, Try.ntmps57
  go_wp2_with (first | (go_at_call 66; refine (mustHave_yes b bn n j _ hn h0 (by omega) (by omega)).mono ?_; rintro e w' ⟨rfl, rfl⟩) | (go_at_call 67; refine (mustLive_yes b _ h6).mono ?_; rintro e w' ⟨rfl, rfl⟩))
  go_ret
  exact ⟨rfl, rfl⟩

theorem load_ok {w : World} {b : Nat} {L : Lay} {A : Ab} (h : DevL w b L A) (hd : A.dead = false) (j : Nat) (hj : j < A.n * 8) :
    Calls Try.prog 57 #[ptr b, .int .i64 j] w fun e w' => e = .returned (u64 (A.now j)) ∧ w' = w := by
  have h6 := h.c6; rw [hd] at h6
  exact load_cells b L.bn A.n j (A.now j) w h.n8 h.c0 h6 hj (by rw [show j / 8 * 8 + j % 8 = j from by omega]; exact h.now j hj)

set_option maxHeartbeats 400000 in
theorem load_wrong {w : World} {b : Nat} {L : Lay} {A : Ab} (h : DevL w b L A) (i : Int) (hi : i < 0 ∨ A.n * 8 ≤ i) :
    Calls Try.prog 57 #[ptr b, .int .i64 i] w fun e w' => e = .panicked (wrong i) ∧ w' = w := by
  have H := mustHave_no b L.bn A.n i w h.n8 h.c0 hi
  clear hi h
  go_enter Try.func57, Try.ntmps57
  go_wp2_with (go_at_call 66; refine H.mono ?_; rintro e w' ⟨rfl, rfl⟩)
  exact ⟨rfl, rfl, rfl⟩

set_option maxHeartbeats 400000 in
theorem load_lost {w : World} {b : Nat} {L : Lay} {A : Ab} (h : DevL w b L A) (hd : A.dead = true) (i : Int) (hi0 : 0 ≤ i) (hi : i < A.n * 8) :
    Calls Try.prog 57 #[ptr b, .int .i64 i] w fun e w' => e = .panicked lost ∧ w' = w := by
  have h6 := h.c6; rw [hd] at h6
  have H := mustHave_yes b L.bn A.n i w h.n8 h.c0 hi0 hi
  have K := mustLive_no b w h6
  clear hi hi0 h hd h6
  go_enter Try.func57, Try.ntmps57
  go_wp2_with (first | (go_at_call 66; refine H.mono ?_; rintro e w' ⟨rfl, rfl⟩) | (go_at_call 67; refine K.mono ?_; rintro e w' ⟨rfl, rfl⟩))
  exact ⟨rfl, rfl, rfl⟩

def Ab.store (A : Ab) (i : Nat) (v : Int) : Ab := { A with now := upd A.now i v }

set_option maxHeartbeats 400000 in
theorem store_ok {w : World} {b : Nat} {L : Lay} {A : Ab} (h : DevL w b L A) (lv : Live A) (j : Nat) (hj : j < A.n * 8) (v : Int) :
    Calls Try.prog 70 #[ptr b, .int .i64 j, u64 v] w fun e w' => e = .returned (.tuple #[]) ∧ DevL w' b L (A.tick.store j v) ∧ Fr (foot b L) w w' := by
  have H := mustHave_yes b L.bn A.n j w h.n8 h.c0 (by omega) (by omega)
  have K := step_ok h lv
  have e8 : j / 8 * 8 + j % 8 = j := by omega
  have hn := h.n8
  go_enter Try.func70, Try.ntmps70
  go_wp2_with (go_at_call 66; refine H.mono ?_; rintro e w' ⟨rfl, rfl⟩)
  refine K.mono ?_
  rintro e w1 ⟨rfl, h1, f1⟩
  have h0 : w1.cell? ⟨b, 0, none⟩ = some (rowc L.bn A.n L.kn) := h1.c0
  have hc : w1.cell? ⟨L.bn, j / 8 * 8 + j % 8, none⟩ = some (u64 (A.now j)) := by rw [e8]; exact h1.now j hj
  have hz : w1.frozen? ⟨L.bn, j / 8 * 8 + j % 8, none⟩ = false := h1.zn _
  have HH := hide h1; have FF := hide f1; have EE := hide e8
  clear h1 f1 e8 H K h
  go_wp2
  go_end0
  rw [unhide EE]
  exact ⟨rfl, (unhide HH).setNow j hj v, (unhide FF).setCell (.inl (.inr (.inl rfl))) _⟩

set_option maxHeartbeats 400000 in
theorem store_wrong {w : World} {b : Nat} {L : Lay} {A : Ab} (h : DevL w b L A) (i v : Int) (hi : i < 0 ∨ A.n * 8 ≤ i) :
    Calls Try.prog 70 #[ptr b, .int .i64 i, u64 v] w fun e w' => e = .panicked (wrong i) ∧ w' = w := by
  have H := mustHave_no b L.bn A.n i w h.n8 h.c0 hi
  clear hi h
  go_enter Try.func70, Try.ntmps70
  go_wp2_with (go_at_call 66; refine H.mono ?_; rintro e w' ⟨rfl, rfl⟩)
  exact ⟨rfl, rfl, rfl⟩

set_option maxHeartbeats 400000 in
theorem store_lost {w : World} {b : Nat} {L : Lay} {A : Ab} (h : DevL w b L A) (hd : A.dead = true ∨ A.fuse = 0) (i v : Int) (hi0 : 0 ≤ i) (hi : i < A.n * 8) :
    Calls Try.prog 70 #[ptr b, .int .i64 i, u64 v] w fun e w' => e = .panicked lost ∧ DevL w' b L { A with dead := true } ∧ Fr (foot b L) w w' := by
  have H := mustHave_yes b L.bn A.n i w h.n8 h.c0 hi0 hi
  have K := step_lost h hd
  clear hi hi0 h hd
  go_enter Try.func70, Try.ntmps70
  go_wp2_with (go_at_call 66; refine H.mono ?_; rintro e w' ⟨rfl, rfl⟩)
  refine K.mono ?_
  rintro e w1 ⟨rfl, h1, f1⟩
  exact ⟨rfl, rfl, h1, f1⟩

end Go.Proofs.Ytamghkabclbkgaa
