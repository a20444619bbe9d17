/- Try: what a function value panicked with, told. -/
import Derived.Test.YtebfocfofoajkaaGuard
namespace Go.Proofs.Ytebfocfofoajkaa
open Go.RowKit

set_option maxHeartbeats 400000 in
theorem try1_idle (p : Addr) (v : Value) (w : World) (hc : w.cell? p = some v) (hz : w.frozen? p = false) :
    CallsD Try.prog 35 #[.pointer (some p)] .returning w fun e u' w' => e = .returned (.tuple #[]) ∧ u' = .returning ∧ w' = w.setCell p .nilIface := by
  refine callsD_of_wpS Try.func35 rfl fun c₀ cs hu => ?_
  apply wpS_region
  simp [wpOpsS, go_sem, recoverD, hu, Try.ntmps35, hc, hz, Oper.upon]
  cases c₀
  simp_all [bodyPostS, results, Try.results35]

set_option maxHeartbeats 400000 in
theorem try1_bad (p : Addr) (v : Value) (t : Nat) (x : Value) (older : List PanicEntry) (w : World) (hc : w.cell? p = some v) (hz : w.frozen? p = false) :
    CallsD Try.prog 35 #[.pointer (some p)] (.panicking ({ v := .iface t x, recovered := false } :: older)) w fun e u' w' =>
      e = .returned (.tuple #[]) ∧ u' = .panicking ({ v := .iface t x, recovered := true } :: older) ∧ w' = w.setCell p (.iface t x) := by
  refine callsD_of_wpS Try.func35 rfl fun c₀ cs hu => ?_
  apply wpS_region
  simp [wpOpsS, go_sem, recoverD, hu, Try.ntmps35, hc, hz, Oper.upon]
  cases c₀
  simp_all [bodyPostS, results, Try.results35]

/-- The box of the told value. -/
abbrev box : Obj := .cells #[.nilIface] 20

set_option maxHeartbeats 400000 in
theorem try_raw {f : Value} {w : World} {R : How → World → Prop}
    (hf : Runs f (w.alloc box) fun h w1 => w1.heap[w.heap.size]? = some box ∧ ∀ w2, Fr (fun k => k = w.heap.size) w1 w2 → R h w2) :
    Calls Try.prog 17 #[f] w fun e w' => ∃ h, e = .returned (.tuple #[h.v, .bool h.is]) ∧ R h w' := by
  have K := call_runs hf
  clear hf
  have h1 := mf
  have HK := hide K; clear K
  go_enter_defers Try.func17, Try.ntmps17
  go_wp2_with fail
  refine (unhide HK).mono ?_
  rintro e w1 ⟨h, he, hb, hR⟩
  have HR := hide hR; clear hR HK
  have hc := cell_of_obj hb 0
  have hz := frozen_of_obj hb 0
  cases h using How.byCases with
  | well =>
    cases he
    go_wp2
    have hc1 := World.cell?_setCell_same w1 ⟨w.heap.size, 0, none⟩ .nilIface hc
    refine leaves_cons (f := 35) (args := #[ptr w.heap.size]) (by simp) (by simp [go_sem]) ?_
    refine (try1_idle ⟨w.heap.size, 0, none⟩ _ _ hc1 (by simpa using hz)).mono ?_
    rintro e u' w' ⟨rfl, rfl, rfl⟩
    have hc2 := World.cell?_setCell_same _ ⟨w.heap.size, 0, none⟩ .nilIface hc1
    refine ⟨.tuple #[.nilIface, .bool false], ?_, .well, rfl, ?_⟩
    · simp [results, Try.results17, go_sem, hc2]
    · exact unhide HR _ (((Fr.refl (fun k => k = w.heap.size) w1).setCell (.inl rfl) _).setCell (.inl rfl) _)
  | bad t x =>
    obtain ⟨older, ho, rfl⟩ := he
    go_wp2
    refine leaves_cons (f := 35) (args := #[ptr w.heap.size]) (by simp) (by simp [go_sem]) ?_
    refine (try1_bad ⟨w.heap.size, 0, none⟩ _ t x older _ hc hz).mono ?_
    rintro e u' w' ⟨rfl, rfl, rfl⟩
    have hc2 := World.cell?_setCell_same _ ⟨w.heap.size, 0, none⟩ (.iface t x) hc
    simp only [settle_bad ho]
    refine ⟨.tuple #[.iface t x, .bool true], ?_, .bad t x, rfl, ?_⟩
    · simp [results, Try.results17, go_sem, hc2]
    · exact unhide HR _ ((Fr.refl (fun k => k = w.heap.size) w1).setCell (.inl rfl) _)
end Go.Proofs.Ytebfocfofoajkaa
