/- Each: a row of function values, called up to the first that panics. -/
import Derived.Test.YtebfocfofoajkaaAwake
import Derived.LoopTactic
namespace Go.Proofs.Ytebfocfofoajkaa
open Go.RowKit

set_option maxHeartbeats 400000 in
theorem each_nil (w : World) : Calls Try.prog 20 #[.slice none 0 0] w fun e w' => e = .returned (.tuple #[.int .i64 0, .nilIface]) ∧ w' = w := by
  go_enter Try.func20, Try.ntmps20
  go_wp2
  go_loopw [2, 10] (fun d i wr => d = .int .i64 0 ∧ i = .int .i64 0 ∧ wr = w) (fun d i wr => 0)
  case atStart => exact ⟨rfl, rfl, rfl⟩
  case round =>
    obtain ⟨rfl, rfl, rfl⟩ := hrel
    go_wp2
    go_ret2
    exact ⟨rfl, rfl⟩

set_option maxHeartbeats 2000000 in
/-- Each over n function values that lie from cell off of block lb on. I k: the world behind k calls that went well; S k: the k-th panicked with h. -/
theorem each_ok {n lb off cap : Nat} {fs : Nat → Value} {w : World} {I : Nat → World → Prop} {S : Nat → How → World → Prop} (hn : n < 1000)
    (hcell : ∀ k wr, k < n → I k wr → wr.cell? ⟨lb, off + k, none⟩ = some (fs k))
    (hstep : ∀ k wr, k < n → I k wr → Calls Try.prog 17 #[fs k] wr fun e w' => ∃ h : How, e = .returned (.tuple #[h.v, .bool h.is]) ∧ ((h = .well ∧ I (k + 1) w') ∨ (h.is = true ∧ S k h w')))
    (h0 : I 0 w) :
    Calls Try.prog 20 #[.slice (some ⟨lb, off, none⟩) n cap] w fun e w' => (e = .returned (.tuple #[.int .i64 n, .nilIface]) ∧ I n w') ∨ ∃ (k : Nat) (h : How), k < n ∧ e = .returned (.tuple #[.int .i64 k, h.v]) ∧ S k h w' := by
  have HC := hide hcell; have HS := hide hstep; have H0 := hide h0
  clear hcell hstep h0
  go_enter Try.func20, Try.ntmps20
  go_wp2
  go_loopw [2, 10] (fun d i wr => ∃ k : Nat, k ≤ n ∧ d = .int .i64 k ∧ i = .int .i64 k ∧ I k wr) (fun d i wr => n - (intOf i).toNat)
  case atStart => exact ⟨0, Nat.zero_le _, rfl, rfl, unhide H0⟩
  case round =>
    obtain ⟨k, hk, rfl, rfl, hI⟩ := hrel
    by_cases hlt : k < n
    · have hlt' : (k : Int) < n := by omega
      have c := unhide HC k wr hlt hI
      have K := hide (unhide HS k wr hlt hI)
      clear hI
      go_wp2_with fail
      refine (unhide K).mono ?_
      rintro e w1 ⟨h, rfl, hh | hh⟩
      · obtain ⟨rfl, hI⟩ := hh
        simp only [How.v, How.is]
        have HI := hide hI
        clear hI K c
        go_wp2
        go_roundw
        case rel => exact ⟨k + 1, by omega, by go_num, by go_num, unhide HI⟩
        case measure => simp [intOf]; omega
      · obtain ⟨hi, hs⟩ := hh
        rw [hi]
        generalize hv : h.v = v
        have HV := hide hv; have HS := hide hs
        clear hs hv K c hi
        go_wp2
        go_ret2
        exact .inr ⟨k, h, hlt, by rw [unhide HV]; rfl, unhide HS⟩
    · have hlt' : ¬ (k : Int) < n := by omega
      obtain rfl : k = n := by omega
      have HI := hide hI
      clear hI hk hlt
      go_wp2
      go_ret2
      exact .inl ⟨rfl, unhide HI⟩
end Go.Proofs.Ytebfocfofoajkaa
