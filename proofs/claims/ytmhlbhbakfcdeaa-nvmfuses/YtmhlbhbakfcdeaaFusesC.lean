/- NvmFuses' closures. -/
import Derived.Test.YtmhlbhbakfcdeaaArr
import Derived.Deep.RegionHeld3
import Derived.BigRegion
import Derived.RegionDies
namespace Go.Proofs.Ytmhlbhbakfcdeaa
open Go.RowKit

/-- One step more. -/
structure Stepped (A A' : Ab) : Prop where
  n : A'.n = A.n
  steps : A'.steps = A.steps + 1
  fuse : A'.fuse = A.tick.fuse
  dead : A'.dead = A.dead

section
variable {w0 w : World} {b ps pi pd : Nat} {F : Nat → Prop} {G : Nat → Option Obj} {A : Ab} {xb xo len cap q : Nat} {z : Int}

set_option maxHeartbeats 1000000 in
theorem fuses1_ok (h : At w0 b F G w A) (lv : Live A) (hs1 : A.steps + 1 < 4294967296) (hn : A.n = 2) (hk : w.cell? ⟨ps, 0, none⟩ = some (.slice (some ⟨xb, xo, none⟩) len cap)) (hi : w.cell? ⟨pi, 0, none⟩ = some (.int .i64 q)) (hd : w.cell? ⟨pd, 0, none⟩ = some (ptr b)) (hz : w.cell? ⟨xb, xo + q, none⟩ = some (.int .i64 z)) (hq : q < len) :
    Calls Try.prog 27 #[ptr ps, ptr pi, ptr pd] w fun e w' => (∃ v, e = .returned v) ∧ ∃ A', At w0 b F G w' A' ∧ Stepped A A' := by
  have hm := mask_i64 (z / 4) 15 (by omega)
  have hml := msk_le (z / 4) 15
  have K1 : Calls Try.prog 14 #[ptr b] w fun e w' => e = .returned (.tuple #[]) ∧ ∃ A', At w0 b F G w' A' ∧ Stepped A A' := (at_fence h lv hs1).mono (by rintro e w' ⟨rfl, ha⟩; exact ⟨rfl, _, ha, ⟨rfl, rfl, rfl, rfl⟩⟩)
  have K2 : Calls Try.prog 13 #[ptr b, .int .i64 (msk (z / 4) 15 : Nat)] w.drew fun e w' => e = .returned (.tuple #[]) ∧ ∃ A', At w0 b F G w' A' ∧ Stepped A A' := (at_flush h.drew lv hs1 (msk (z / 4) 15) (by rw [hn]; omega)).mono (by rintro e w' ⟨rfl, ha⟩; exact ⟨rfl, _, ha, ⟨rfl, rfl, rfl, rfl⟩⟩)
  have K3 : Calls Try.prog 12 #[ptr b, .int .i64 (msk (z / 4) 15 : Nat), .int .u64 7] w.drew fun e w' => e = .returned (.tuple #[]) ∧ ∃ A', At w0 b F G w' A' ∧ Stepped A A' := (at_store h.drew lv (msk (z / 4) 15) (by rw [hn]; omega) 7).mono (by rintro e w' ⟨rfl, ha⟩; exact ⟨rfl, _, ha, ⟨rfl, rfl, rfl, rfl⟩⟩)
  generalize msk (z / 4) 15 = j at hm hml K2 K3
  have HK := hide (And.intro K1 (And.intro K2 K3))
  have hm' : bits .and .i64 (z / 4) 15 = (j : Int) := hm
  clear h lv hs1 K1 K2 K3 hm hn
  by_cases h0 : (bits .and .i64 z 3 == 0) = true
  · go_enter Try.func27, Try.ntmps27
    go_wp2_with fail
    refine (unhide HK).1.mono ?_
    rintro e w' ⟨rfl, A', ha, hs⟩
    have HE := hide (And.intro ha hs)
    clear ha hs
    go_wp2
    go_end0
    exact ⟨⟨_, rfl⟩, A', (unhide HE).1, (unhide HE).2⟩
  · have h0' : (bits .and .i64 z 3 == 0) = false := by simpa using h0
    clear h0
    by_cases h1 : (bits .and .i64 z 3 == 1) = true
    · go_enter Try.func27, Try.ntmps27
      go_wp2
      go_region_with (go_at_call 13; refine (unhide HK).2.1.mono ?_; rintro e w' ⟨rfl, A', ha, hs⟩)
      all_goals
        have HE := hide (And.intro ha hs)
        clear ha hs
        go_wp2
        go_end0
        exact ⟨⟨_, rfl⟩, A', (unhide HE).1, (unhide HE).2⟩
    · have h1' : (bits .and .i64 z 3 == 1) = false := by simpa using h1
      clear h1
      go_enter Try.func27, Try.ntmps27
      go_wp2
      go_region_with (go_at_call 12; refine (unhide HK).2.2.mono ?_; rintro e w' ⟨rfl, A', ha, hs⟩)
      all_goals
        have HE := hide (And.intro ha hs)
        clear ha hs
        go_wp2
        go_end0
        exact ⟨⟨_, rfl⟩, A', (unhide HE).1, (unhide HE).2⟩

set_option maxHeartbeats 1000000 in
theorem fuses1_lost (h : At w0 b F G w A) (hdd : A.dead = true ∨ A.fuse = 0) (hn : A.n = 2) (hk : w.cell? ⟨ps, 0, none⟩ = some (.slice (some ⟨xb, xo, none⟩) len cap)) (hi : w.cell? ⟨pi, 0, none⟩ = some (.int .i64 q)) (hd : w.cell? ⟨pd, 0, none⟩ = some (ptr b)) (hz : w.cell? ⟨xb, xo + q, none⟩ = some (.int .i64 z)) (hq : q < len) :
    Calls Try.prog 27 #[ptr ps, ptr pi, ptr pd] w fun e w' => e = .panicked lost ∧ At w0 b F G w' { A with dead := true } := by
  have hm := mask_i64 (z / 4) 15 (by omega)
  have hml := msk_le (z / 4) 15
  have hdr := h.drew
  obtain ⟨L, d, hL⟩ := h.ex
  obtain ⟨L', dd, hL'⟩ := hdr.ex
  have K1 : Calls Try.prog 14 #[ptr b] w fun e w' => e = .panicked lost ∧ At w0 b F G w' { A with dead := true } := (fence_lost d hdd).mono (by rintro e w' ⟨rfl, d', f'⟩; exact ⟨rfl, h.step hL d' f' (fun _ => .inl)⟩)
  have K2 : Calls Try.prog 13 #[ptr b, .int .i64 (msk (z / 4) 15 : Nat)] w.drew fun e w' => e = .panicked lost ∧ At w0 b F G w' { A with dead := true } := (flush_lost dd hdd (msk (z / 4) 15 : Nat) (by omega) (by rw [hn]; omega)).mono (by rintro e w' ⟨rfl, d', f'⟩; exact ⟨rfl, hdr.step hL' d' f' (fun _ => .inl)⟩)
  have K3 : Calls Try.prog 12 #[ptr b, .int .i64 (msk (z / 4) 15 : Nat), .int .u64 7] w.drew fun e w' => e = .panicked lost ∧ At w0 b F G w' { A with dead := true } := (store_lost dd hdd (msk (z / 4) 15 : Nat) 7 (by omega) (by rw [hn]; omega)).mono (by rintro e w' ⟨rfl, d', f'⟩; exact ⟨rfl, hdr.step hL' d' f' (fun _ => .inl)⟩)
  generalize msk (z / 4) 15 = j at hm hml K2 K3
  have HK := hide (And.intro K1 (And.intro K2 K3))
  have hm' : bits .and .i64 (z / 4) 15 = (j : Int) := hm
  clear h hdr d dd hL hL' hdd K1 K2 K3 hm hn
  by_cases h0 : (bits .and .i64 z 3 == 0) = true
  · go_enter Try.func27, Try.ntmps27
    go_wp2_with fail
    refine (unhide HK).1.mono ?_
    rintro e w' ⟨rfl, ha⟩
    exact ⟨rfl, rfl, ha⟩
  · have h0' : (bits .and .i64 z 3 == 0) = false := by simpa using h0
    clear h0
    by_cases h1 : (bits .and .i64 z 3 == 1) = true
    · go_enter Try.func27, Try.ntmps27
      go_wp2
      go_region_dies
      all_goals
        go_at_call 13
        refine (unhide HK).2.1.mono ?_
        rintro e w' ⟨rfl, ha⟩
        exact ⟨rfl, rfl, ha⟩
    · have h1' : (bits .and .i64 z 3 == 1) = false := by simpa using h1
      clear h1
      go_enter Try.func27, Try.ntmps27
      go_wp2
      go_region_dies
      all_goals
        go_at_call 12
        refine (unhide HK).2.2.mono ?_
        rintro e w' ⟨rfl, ha⟩
        exact ⟨rfl, rfl, ha⟩

set_option maxHeartbeats 400000 in
theorem fuses2_ok (h : At w0 b F G w A) (hdd : A.dead = false) (hn : A.n = 2) (hd : w.cell? ⟨pd, 0, none⟩ = some (ptr b)) :
    Calls Try.prog 29 #[ptr pd] w fun e w' => (∃ v, e = .returned v) ∧ w' = w := by
  have K : Calls Try.prog 15 #[ptr b, .int .i64 3] w fun e w' => e = .returned (u64 (A.now 3)) ∧ w' = w := at_load h hdd 3 (by rw [hn]; omega)
  clear h hn hdd
  go_enter Try.func29, Try.ntmps29
  go_wp2_with fail
  refine K.mono ?_
  rintro e w' ⟨rfl, rfl⟩
  go_wp2
  go_end0
  exact ⟨⟨_, rfl⟩, rfl⟩

set_option maxHeartbeats 400000 in
theorem fuses2_lost (h : At w0 b F G w A) (hdd : A.dead = true) (hn : A.n = 2) (hd : w.cell? ⟨pd, 0, none⟩ = some (ptr b)) :
    Calls Try.prog 29 #[ptr pd] w fun e w' => e = .panicked lost ∧ w' = w := by
  obtain ⟨L, d, hL⟩ := h.ex
  have K := load_lost d hdd 3 (by omega) (by rw [hn]; omega)
  clear h hn hdd d hL
  go_enter Try.func29, Try.ntmps29
  go_wp2_with fail
  refine K.mono ?_
  rintro e w' ⟨rfl, rfl⟩
  exact ⟨rfl, rfl, rfl⟩
end
theorem enters27 : Enters 27 := fun _ _ => by kernel_rfl
theorem enters29 : Enters 29 := fun _ _ => by kernel_rfl

/-- Told about a closure that turns nothing: the frame alone. -/
theorem tell_pure {V : World} {g : Nat} {first cap : Array Value} (hg : Enters g) (h : Calls Try.prog g (first ++ cap) (boxed V 0) fun e w' => (∃ v, e = .returned v) ∧ w' = boxed V 0) :
    Calls Try.prog 10 #[.int .i64 0, .func (.func g) first cap] V fun e w' => e = .returned (.int .i64 0) ∧ Fr (fun _ => False) V w' :=
  (told_ok (word := 0) hg (F := fun _ => False) (R := fun _ => True) (fun k h => h.elim) (fun _ _ _ _ _ => trivial) (h.mono (by rintro e w' ⟨he, rfl⟩; exact ⟨he, trivial, Fr.refl _ _⟩))).mono (fun e w' h => ⟨h.1, h.2.2⟩)
theorem tell_pure_lost {V : World} {g : Nat} {first cap : Array Value} (hg : Enters g) (h : Calls Try.prog g (first ++ cap) (boxed V 0) fun e w' => e = .panicked lost ∧ w' = boxed V 0) :
    Calls Try.prog 10 #[.int .i64 0, .func (.func g) first cap] V fun e w' => e = .returned (.int .i64 1) ∧ Fr (fun _ => False) V w' :=
  (told_lst (word := 0) hg (F := fun _ => False) (R := fun _ => True) (fun k h => h.elim) (fun _ _ _ _ _ => trivial) (h.mono (by rintro e w' ⟨he, rfl⟩; exact ⟨he, trivial, Fr.refl _ _⟩))).mono (fun e w' h => ⟨h.1, h.2.2⟩)
end Go.Proofs.Ytmhlbhbakfcdeaa
