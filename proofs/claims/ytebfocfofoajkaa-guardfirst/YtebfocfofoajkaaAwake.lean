/- awake: what the document fixes of the guards. -/
import Derived.Test.YtebfocfofoajkaaOnly
namespace Go.Proofs.Ytebfocfofoajkaa
open Go.RowKit

theorem enters36 : Enters 36 := fun _ _ => by kernel_rfl
theorem enters37 : Enters 37 := fun _ _ => by kernel_rfl
theorem enters38 : Enters 38 := fun _ _ => by kernel_rfl
theorem enters39 : Enters 39 := fun _ _ => by kernel_rfl

set_option maxHeartbeats 400000 in
theorem a1_ok (w : World) : Calls Try.prog 36 #[] w fun e w' => ∃ h : How, h.ended e ∧ h = .bad 3 (.int .i64 5) ∧ Still w w' := by
  go_enter Try.func36, Try.ntmps36
  go_wp2
  exact ⟨rfl, .bad _ _, How.ended_one _ _, rfl, Fr.refl _ w⟩
set_option maxHeartbeats 400000 in
theorem a2_ok (w : World) : Calls Try.prog 37 #[] w fun e w' => ∃ h : How, h.ended e ∧ h = .well ∧ Still w w' := by
  go_enter Try.func37, Try.ntmps37
  go_wp2
  go_end0
  exact ⟨.well, rfl, rfl, Fr.refl _ w⟩
set_option maxHeartbeats 400000 in
theorem a3_ok (w : World) : Calls Try.prog 38 #[] w fun e w' => ∃ h : How, h.ended e ∧ h = .bad 25 (.int .i64 60) ∧ Still w w' := by
  go_enter Try.func38, Try.ntmps38
  go_wp2
  exact ⟨rfl, .bad _ _, How.ended_one _ _, rfl, Fr.refl _ w⟩
set_option maxHeartbeats 400000 in
theorem a4_ok (w : World) : Calls Try.prog 39 #[] w fun e w' => ∃ h : How, h.ended e ∧ h = .well ∧ Still w w' := by
  go_enter Try.func39, Try.ntmps39
  go_wp2
  go_end0
  exact ⟨.well, rfl, rfl, Fr.refl _ w⟩

/-- Try of what always ends one way and turns nothing. -/
theorem try_same {g : Nat} (hg : Enters g) {first cap : Array Value} {h0 : How} {w : World} (hf : ∀ w, Calls Try.prog g (first ++ cap) w fun e w' => ∃ h : How, h.ended e ∧ h = h0 ∧ Still w w') :
    Calls Try.prog 17 #[.func (.func g) first cap] w fun e w' => ∃ h, e = .returned (.tuple #[h.v, .bool h.is]) ∧ Still w w' ∧ h = h0 :=
  try_fr (F := fun _ => False) (S := fun h _ => h = h0) (fun _ h => h.elim) (runs_of hg ((hf _).mono fun _ _ ⟨h, h1, h2, h3⟩ => ⟨h, h1, h3, fun _ _ => h2⟩))

set_option maxHeartbeats 1000000 in
theorem awake_ok (w : World) : Calls Try.prog 18 #[] w fun e w' => e = .returned (.bool true) ∧ Still w w' := by
  have K1 := try_same (w := w) enters36 (first := #[]) (cap := #[]) a1_ok
  have t1 := taI_int
  have HK1 := hide K1; clear K1
  go_enter Try.func18, Try.ntmps18
  go_wp2_with fail
  refine (unhide HK1).mono ?_
  rintro e w1 ⟨h, rfl, f1, rfl⟩
  simp only [How.v, How.is]
  have F1 := hide f1
  have HK2 := hide (try_same (w := w1) enters37 (first := #[]) (cap := #[]) a2_ok)
  clear HK1 f1
  go_wp2_with fail
  refine (unhide HK2).mono ?_
  rintro e w2 ⟨h, rfl, f2, rfl⟩
  simp only [How.v, How.is]
  have F2 := hide f2
  have HK3 := hide (errno_raw (try_same (w := w2) enters38 (first := #[]) (cap := #[]) a3_ok) (by rintro h w' ⟨_, rfl⟩; simp [How.known]))
  clear HK2 f2
  go_wp2_with fail
  refine (unhide HK3).mono ?_
  rintro e w3 ⟨h, he, f3, rfl⟩
  have F3 := hide f3
  have HK4 := hide (errno_raw (try_same (w := w3) enters39 (first := #[]) (cap := #[]) a4_ok) (by rintro h w' ⟨_, rfl⟩; simp [How.known]))
  clear HK3 f3
  rcases he with ⟨_, rfl⟩ | ⟨h, _⟩
  · go_wp2_with fail
    refine (unhide HK4).mono ?_
    rintro e w4 ⟨h, he, f4, rfl⟩
    have F4 := hide f4
    cases he
    clear HK4 f4
    go_wp2
    go_ret
    exact ⟨rfl, (((unhide F1).trans (unhide F2)).trans (unhide F3)).trans (unhide F4)⟩
  · exact absurd rfl h
end Go.Proofs.Ytebfocfofoajkaa
