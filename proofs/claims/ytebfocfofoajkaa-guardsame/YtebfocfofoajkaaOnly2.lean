/- Only of texts and of errors; Finally; caught. -/
import Derived.Test.YtebfocfofoajkaaDeed
namespace Go.Proofs.Ytebfocfofoajkaa
open Go.RowKit

theorem missing_one (n : String) (s : Nat) (got : Array Method) (h : (got.any fun m => m.name == n && m.sig == s) = false) : ∃ m, Instr.missingMethod #[(n, s)] got = some m := by
  unfold Instr.missingMethod
  simp [h, List.partition, List.partition.loop]
  generalize decide (_ ∈ n.toList) = c
  cases c <;> simp [Instr.least]

section
variable (x : Value) (w : World)
theorem taS_int : (Instr.typeAssert (.iface 3 x) 20 9 true).run Try.prog w = .ok (.tuple #[.string ByteArray.empty, .bool false]) w := by kernel_rfl
theorem taS_errno : (Instr.typeAssert (.iface 25 x) 20 9 true).run Try.prog w = .ok (.tuple #[.string ByteArray.empty, .bool false]) w := by kernel_rfl
theorem taS_list : (Instr.typeAssert (.iface 22 x) 20 9 true).run Try.prog w = .ok (.tuple #[.string ByteArray.empty, .bool false]) w := by kernel_rfl
theorem taX_int : (Instr.typeAssert (.iface 3 x) 20 48 true).run Try.prog w = .ok (.tuple #[.nilIface, .bool false]) w := by
  obtain ⟨m, hm⟩ := missing_one "Error" 54 Try.t3.methods (by kernel_rfl)
  simp [Instr.typeAssert, go_sem, hm]
theorem taX_str : (Instr.typeAssert (.iface 9 x) 20 48 true).run Try.prog w = .ok (.tuple #[.nilIface, .bool false]) w := by
  obtain ⟨m, hm⟩ := missing_one "Error" 54 Try.t9.methods (by kernel_rfl)
  simp [Instr.typeAssert, go_sem, hm]
theorem taX_list : (Instr.typeAssert (.iface 22 x) 20 48 true).run Try.prog w = .ok (.tuple #[.nilIface, .bool false]) w := by
  obtain ⟨m, hm⟩ := missing_one "Error" 54 Try.t22.methods (by kernel_rfl)
  simp [Instr.typeAssert, go_sem, hm]
theorem taX_errno : (Instr.typeAssert (.iface 25 x) 20 48 true).run Try.prog w = .ok (.tuple #[.iface 25 x, .bool true]) w := by kernel_rfl
end
set_option maxHeartbeats 800000 in
theorem onlyS_raw {f : Value} {w : World} {R : How → World → Prop} (K : Calls Try.prog 17 #[f] w fun e w' => ∃ h, e = .returned (.tuple #[h.v, .bool h.is]) ∧ R h w') (hk : ∀ h w', R h w' → h.known) :
    Calls Try.prog 11 #[f] w fun e w' => ∃ h, h.only 9 (.string ByteArray.empty) e ∧ R h w' := by
  have HK := hide K; clear K
  have a1 := taS_int; have a2 := taS_str; have a3 := taS_errno; have a4 := taS_list
  go_enter Try.func11, Try.ntmps11
  go_wp2_with fail
  refine (unhide HK).mono ?_
  rintro e w1 ⟨h, rfl, hR⟩
  have hK := hk _ _ hR
  have HR := hide hR; clear hR HK hk
  cases h using How.byCases with
  | well =>
    simp only [How.v, How.is]
    go_wp2
    go_ret2
    exact ⟨.well, rfl, unhide HR⟩
  | bad t x =>
    simp only [How.v, How.is]
    rcases hK with rfl | rfl | rfl | rfl
    · go_wp2
      exact ⟨rfl, .bad _ x, .inr ⟨by decide, rfl⟩, unhide HR⟩
    · go_wp2
      go_ret2
      exact ⟨.bad _ x, .inl ⟨rfl, rfl⟩, unhide HR⟩
    · go_wp2
      exact ⟨rfl, .bad _ x, .inr ⟨by decide, rfl⟩, unhide HR⟩
    · go_wp2
      exact ⟨rfl, .bad _ x, .inr ⟨by decide, rfl⟩, unhide HR⟩

/-- How Only of the interface error ends. -/
def How.onlyX (h : How) (e : Ending) : Prop :=
  match h.o with
  | none => e = .returned (.tuple #[.nilIface, .bool false])
  | some (t, x) => (t = 25 ∧ e = .returned (.tuple #[.iface 25 x, .bool true])) ∨ (t ≠ 25 ∧ e = .panicked [{ v := .iface t x, recovered := false }])

set_option maxHeartbeats 800000 in
theorem onlyX_raw {f : Value} {w : World} {R : How → World → Prop} (K : Calls Try.prog 17 #[f] w fun e w' => ∃ h, e = .returned (.tuple #[h.v, .bool h.is]) ∧ R h w') (hk : ∀ h w', R h w' → h.known) :
    Calls Try.prog 29 #[f] w fun e w' => ∃ h, h.onlyX e ∧ R h w' := by
  have HK := hide K; clear K
  have a1 := taX_int; have a2 := taX_str; have a3 := taX_errno; have a4 := taX_list
  go_enter Try.func29, Try.ntmps29
  go_wp2_with fail
  refine (unhide HK).mono ?_
  rintro e w1 ⟨h, rfl, hR⟩
  have hK := hk _ _ hR
  have HR := hide hR; clear hR HK hk
  cases h using How.byCases with
  | well =>
    simp only [How.v, How.is]
    go_wp2
    go_ret2
    exact ⟨.well, rfl, unhide HR⟩
  | bad t x =>
    simp only [How.v, How.is]
    rcases hK with rfl | rfl | rfl | rfl
    · go_wp2
      exact ⟨rfl, .bad _ x, .inr ⟨by decide, rfl⟩, unhide HR⟩
    · go_wp2
      exact ⟨rfl, .bad _ x, .inr ⟨by decide, rfl⟩, unhide HR⟩
    · go_wp2
      go_ret2
      exact ⟨.bad _ x, .inl ⟨rfl, rfl⟩, unhide HR⟩
    · go_wp2
      exact ⟨rfl, .bad _ x, .inr ⟨by decide, rfl⟩, unhide HR⟩
end Go.Proofs.Ytebfocfofoajkaa
