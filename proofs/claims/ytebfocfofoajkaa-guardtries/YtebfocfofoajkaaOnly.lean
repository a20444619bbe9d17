/- Only and Errno: what is theirs is told, what is not goes on. -/
import Derived.Test.YtebfocfofoajkaaTry
namespace Go.Proofs.Ytebfocfofoajkaa
open Go.RowKit

/-- The kinds of values that the laws panic with: a number, a text, an error of ours, a list. -/
def How.known (h : How) : Prop :=
  match h.o with
  | none => True
  | some (t, _) => t = 3 ∨ t = 9 ∨ t = 25 ∨ t = 22

/-- How Only of the type T, whose nought is z, ends. -/
def How.only (T : Nat) (z : Value) (h : How) (e : Ending) : Prop :=
  match h.o with
  | none => e = .returned (.tuple #[z, .bool false])
  | some (t, x) => (t = T ∧ e = .returned (.tuple #[x, .bool true])) ∨ (t ≠ T ∧ e = .panicked [{ v := .iface t x, recovered := false }])

section
variable (x : Value) (w : World)
theorem taE_int : (Instr.typeAssert (.iface 3 x) 20 25 true).run Try.prog w = .ok (.tuple #[.int .i64 0, .bool false]) w := by kernel_rfl
theorem taE_str : (Instr.typeAssert (.iface 9 x) 20 25 true).run Try.prog w = .ok (.tuple #[.int .i64 0, .bool false]) w := by kernel_rfl
theorem taE_errno : (Instr.typeAssert (.iface 25 x) 20 25 true).run Try.prog w = .ok (.tuple #[x, .bool true]) w := by kernel_rfl
theorem taE_list : (Instr.typeAssert (.iface 22 x) 20 25 true).run Try.prog w = .ok (.tuple #[.int .i64 0, .bool false]) w := by kernel_rfl
theorem taI_int : (Instr.typeAssert (.iface 3 x) 20 3 true).run Try.prog w = .ok (.tuple #[x, .bool true]) w := by kernel_rfl
theorem taI_str : (Instr.typeAssert (.iface 9 x) 20 3 true).run Try.prog w = .ok (.tuple #[.int .i64 0, .bool false]) w := by kernel_rfl
theorem taI_errno : (Instr.typeAssert (.iface 25 x) 20 3 true).run Try.prog w = .ok (.tuple #[.int .i64 0, .bool false]) w := by kernel_rfl
theorem taI_list : (Instr.typeAssert (.iface 22 x) 20 3 true).run Try.prog w = .ok (.tuple #[.int .i64 0, .bool false]) w := by kernel_rfl
end

set_option maxHeartbeats 800000 in
theorem onlyE_raw {f : Value} {w : World} {R : How → World → Prop} (K : Calls Try.prog 17 #[f] w fun e w' => ∃ h, e = .returned (.tuple #[h.v, .bool h.is]) ∧ R h w') (hk : ∀ h w', R h w' → h.known) :
    Calls Try.prog 33 #[f] w fun e w' => ∃ h, h.only 25 (.int .i64 0) e ∧ R h w' := by
  have HK := hide K; clear K
  have a1 := taE_int; have a2 := taE_str; have a3 := taE_errno; have a4 := taE_list
  go_enter Try.func33, Try.ntmps33
  go_wp2_with fail
  refine (unhide HK).mono ?_
  rintro e w1 ⟨h, rfl, hR⟩
  have hK := hk _ _ hR
  have HR := hide hR; clear hR HK hk
  cases h using How.byCases with
  | well =>
    simp only [How.v, How.is]
    go_wp2
    go_ret2
    exact ⟨.well, rfl, unhide HR⟩
  | bad t x =>
    simp only [How.v, How.is]
    rcases hK with rfl | rfl | rfl | rfl
    · go_wp2
      exact ⟨rfl, .bad _ x, .inr ⟨by decide, rfl⟩, unhide HR⟩
    · go_wp2
      exact ⟨rfl, .bad _ x, .inr ⟨by decide, rfl⟩, unhide HR⟩
    · go_wp2
      go_ret2
      exact ⟨.bad _ x, .inl ⟨rfl, rfl⟩, unhide HR⟩
    · go_wp2
      exact ⟨rfl, .bad _ x, .inr ⟨by decide, rfl⟩, unhide HR⟩

set_option maxHeartbeats 800000 in
theorem onlyI_raw {f : Value} {w : World} {R : How → World → Prop} (K : Calls Try.prog 17 #[f] w fun e w' => ∃ h, e = .returned (.tuple #[h.v, .bool h.is]) ∧ R h w') (hk : ∀ h w', R h w' → h.known) :
    Calls Try.prog 26 #[f] w fun e w' => ∃ h, h.only 3 (.int .i64 0) e ∧ R h w' := by
  have HK := hide K; clear K
  have a1 := taI_int; have a2 := taI_str; have a3 := taI_errno; have a4 := taI_list
  go_enter Try.func26, Try.ntmps26
  go_wp2_with fail
  refine (unhide HK).mono ?_
  rintro e w1 ⟨h, rfl, hR⟩
  have hK := hk _ _ hR
  have HR := hide hR; clear hR HK hk
  cases h using How.byCases with
  | well =>
    simp only [How.v, How.is]
    go_wp2
    go_ret2
    exact ⟨.well, rfl, unhide HR⟩
  | bad t x =>
    simp only [How.v, How.is]
    rcases hK with rfl | rfl | rfl | rfl
    · go_wp2
      go_ret2
      exact ⟨.bad _ x, .inl ⟨rfl, rfl⟩, unhide HR⟩
    · go_wp2
      exact ⟨rfl, .bad _ x, .inr ⟨by decide, rfl⟩, unhide HR⟩
    · go_wp2
      exact ⟨rfl, .bad _ x, .inr ⟨by decide, rfl⟩, unhide HR⟩
    · go_wp2
      exact ⟨rfl, .bad _ x, .inr ⟨by decide, rfl⟩, unhide HR⟩

/-- How Errno ends. -/
def How.errno (h : How) (e : Ending) : Prop :=
  match h.o with
  | none => e = .returned (.int .i64 0)
  | some (t, x) => (t = 25 ∧ e = .returned x) ∨ (t ≠ 25 ∧ e = .panicked [{ v := .iface t x, recovered := false }])

set_option maxHeartbeats 800000 in
theorem errno_raw {f : Value} {w : World} {R : How → World → Prop} (K : Calls Try.prog 17 #[f] w fun e w' => ∃ h, e = .returned (.tuple #[h.v, .bool h.is]) ∧ R h w') (hk : ∀ h w', R h w' → h.known) :
    Calls Try.prog 13 #[f] w fun e w' => ∃ h, h.errno e ∧ R h w' := by
  have K1 := onlyE_raw K hk
  have HK := hide K1; clear K K1 hk
  go_enter Try.func13, Try.ntmps13
  go_wp2_with fail
  refine (unhide HK).mono ?_
  rintro e w1 ⟨h, he, hR⟩
  have HR := hide hR; clear hR HK
  cases h using How.byCases with
  | well =>
    cases he
    go_wp2
    go_ret
    exact ⟨.well, rfl, unhide HR⟩
  | bad t x =>
    rcases he with ⟨rfl, rfl⟩ | ⟨ht, rfl⟩
    · go_wp2
      go_ret
      exact ⟨.bad _ x, .inl ⟨rfl, rfl⟩, unhide HR⟩
    · exact ⟨rfl, .bad t x, .inr ⟨ht, rfl⟩, unhide HR⟩

/-- Try where f turns only blocks of F. -/
theorem try_fr {f : Value} {w : World} {F : Nat → Prop} {S : How → World → Prop} (hF : ∀ k, F k → k < w.heap.size)
    (hf : Runs f (w.alloc box) fun h w1 => Fr F (w.alloc box) w1 ∧ ∀ w2, Fr (fun k => k = w.heap.size) w1 w2 → S h w2) :
    Calls Try.prog 17 #[f] w fun e w' => ∃ h, e = .returned (.tuple #[h.v, .bool h.is]) ∧ Fr F w w' ∧ S h w' := by
  refine try_raw (R := fun h w' => Fr F w w' ∧ S h w') (hf.mono fun h w1 ⟨fr, hS⟩ => ⟨?_, fun w2 f2 => ⟨?_, hS w2 f2⟩⟩)
  · exact fr.obj (obj_alloc_new w box) fun h => Nat.lt_irrefl _ (hF _ h)
  · exact (((Fr.refl F w).alloc box).trans fr).trans' f2 fun k hk => .inr (by omega)
end Go.Proofs.Ytebfocfofoajkaa
