/- NvmWrong's closure. -/
import Derived.Test.YtmhlbhbakfcdeaaTell
namespace Go.Proofs.Ytmhlbhbakfcdeaa
open Go.RowKit

section
variable {w0 w : World} {b pk pd pi : Nat} {F : Nat → Prop} {G : Nat → Option Obj} {A : Ab} {i kind : Int}

set_option maxHeartbeats 400000 in
theorem wrong1_wrong (h : At w0 b F G w A) (hk : w.cell? ⟨pk, 0, none⟩ = some (.int .i64 kind)) (hd : w.cell? ⟨pd, 0, none⟩ = some (ptr b)) (hi : w.cell? ⟨pi, 0, none⟩ = some (.int .i64 i)) (hr : i < 0 ∨ A.n * 8 ≤ i) :
    Calls Try.prog 22 #[ptr pk, ptr pd, ptr pi] w fun e w' => e = .panicked (wrong i) ∧ w' = w := by
  obtain ⟨L, d, hL⟩ := h.ex
  have K1 := load_wrong d i hr
  have K2 := flush_wrong d i hr
  have K3 := store_wrong d i 7 hr
  clear h d hL hr
  go_enter Try.func22, Try.ntmps22
  go_wp2_with (first | (go_at_call 15; refine K1.mono ?_; rintro e w' ⟨rfl, rfl⟩) | (go_at_call 13; refine K2.mono ?_; rintro e w' ⟨rfl, rfl⟩) | (go_at_call 12; refine K3.mono ?_; rintro e w' ⟨rfl, rfl⟩))
  all_goals exact ⟨rfl, rfl, rfl⟩

set_option maxHeartbeats 400000 in
theorem wrong1_lost (h : At w0 b F G w A) (hk : w.cell? ⟨pk, 0, none⟩ = some (.int .i64 kind)) (hd : w.cell? ⟨pd, 0, none⟩ = some (ptr b)) (hi : w.cell? ⟨pi, 0, none⟩ = some (.int .i64 i)) (hr0 : 0 ≤ i) (hr : i < A.n * 8) (hdd : A.dead = true) :
    Calls Try.prog 22 #[ptr pk, ptr pd, ptr pi] w fun e w' => e = .panicked lost ∧ At w0 b F G w' A := by
  obtain ⟨L, d, hL⟩ := h.ex
  have eA : ({ A with dead := true } : Ab) = A := by rw [← hdd]
  have K1 : Calls Try.prog 15 #[ptr b, .int .i64 i] w fun e w' => e = .panicked lost ∧ At w0 b F G w' A := (load_lost d hdd i hr0 hr).mono (by rintro e w' ⟨rfl, rfl⟩; exact ⟨rfl, h⟩)
  have K2 : Calls Try.prog 13 #[ptr b, .int .i64 i] w fun e w' => e = .panicked lost ∧ At w0 b F G w' A := (flush_lost d (.inl hdd) i hr0 hr).mono (by rintro e w' ⟨rfl, d', f'⟩; rw [eA] at d'; exact ⟨rfl, h.step hL d' f' (fun _ => .inl)⟩)
  have K3 : Calls Try.prog 12 #[ptr b, .int .i64 i, .int .u64 7] w fun e w' => e = .panicked lost ∧ At w0 b F G w' A := (store_lost d (.inl hdd) i 7 hr0 hr).mono (by rintro e w' ⟨rfl, d', f'⟩; rw [eA] at d'; exact ⟨rfl, h.step hL d' f' (fun _ => .inl)⟩)
  clear h d hL hr hr0 hdd eA
  go_enter Try.func22, Try.ntmps22
  go_wp2_with (first | (go_at_call 15; refine K1.mono ?_; rintro e w' ⟨rfl, ha⟩) | (go_at_call 13; refine K2.mono ?_; rintro e w' ⟨rfl, ha⟩) | (go_at_call 12; refine K3.mono ?_; rintro e w' ⟨rfl, ha⟩))
  all_goals exact ⟨rfl, rfl, ha⟩

set_option maxHeartbeats 400000 in
theorem wrong1_ok (h : At w0 b F G w A) (lv : Live A) (hs1 : A.steps + 1 < 4294967296) (hk : w.cell? ⟨pk, 0, none⟩ = some (.int .i64 kind)) (hd : w.cell? ⟨pd, 0, none⟩ = some (ptr b)) (j : Nat) (hi : w.cell? ⟨pi, 0, none⟩ = some (.int .i64 j)) (hr : j < A.n * 8) :
    Calls Try.prog 22 #[ptr pk, ptr pd, ptr pi] w fun e w' => e = .returned (.tuple #[]) ∧ ∃ A', At w0 b F G w' A' := by
  have K1 : Calls Try.prog 15 #[ptr b, .int .i64 j] w fun e w' => (∃ v, e = .returned v) ∧ ∃ A', At w0 b F G w' A' := (at_load h lv.dead j hr).mono (by rintro e w' ⟨rfl, rfl⟩; exact ⟨⟨_, rfl⟩, _, h⟩)
  have K2 : Calls Try.prog 13 #[ptr b, .int .i64 j] w fun e w' => (∃ v, e = .returned v) ∧ ∃ A', At w0 b F G w' A' := (at_flush h lv hs1 j hr).mono (by rintro e w' ⟨rfl, ha⟩; exact ⟨⟨_, rfl⟩, _, ha⟩)
  have K3 : Calls Try.prog 12 #[ptr b, .int .i64 j, .int .u64 7] w fun e w' => (∃ v, e = .returned v) ∧ ∃ A', At w0 b F G w' A' := (at_store h lv j hr 7).mono (by rintro e w' ⟨rfl, ha⟩; exact ⟨⟨_, rfl⟩, _, ha⟩)
  clear h lv hr hs1
  go_enter Try.func22, Try.ntmps22
  go_wp2_with (first | (go_at_call 15; refine K1.mono ?_; rintro e w' ⟨⟨v, rfl⟩, A', ha⟩) | (go_at_call 13; refine K2.mono ?_; rintro e w' ⟨⟨v, rfl⟩, A', ha⟩) | (go_at_call 12; refine K3.mono ?_; rintro e w' ⟨⟨v, rfl⟩, A', ha⟩))
  all_goals
    go_end0
    exact ⟨rfl, A', ha⟩
end
theorem enters22 : Enters 22 := fun _ _ => by kernel_rfl
end Go.Proofs.Ytmhlbhbakfcdeaa
