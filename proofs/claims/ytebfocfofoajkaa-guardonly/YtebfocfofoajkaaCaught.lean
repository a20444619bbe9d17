/- caught: the law's own way to tell what a function panicked with. -/
import Derived.Test.YtebfocfofoajkaaOnly2
namespace Go.Proofs.Ytebfocfofoajkaa
open Go.RowKit

set_option maxHeartbeats 400000 in
theorem caught1_idle (p : Addr) (v : Value) (w : World) (hc : w.cell? p = some v) (hz : w.frozen? p = false) :
    CallsD Try.prog 41 #[.pointer (some p)] .returning w fun e u' w' => e = .returned (.tuple #[]) ∧ u' = .returning ∧ w' = w.setCell p .nilIface := by
  refine callsD_of_wpS Try.func41 rfl fun c₀ cs hu => ?_
  apply wpS_region
  simp [wpOpsS, go_sem, recoverD, hu, Try.ntmps41, hc, hz, Oper.upon]
  cases c₀
  simp_all [bodyPostS, results, Try.results41]

set_option maxHeartbeats 400000 in
theorem caught1_bad (p : Addr) (v : Value) (t : Nat) (x : Value) (older : List PanicEntry) (w : World) (hc : w.cell? p = some v) (hz : w.frozen? p = false) :
    CallsD Try.prog 41 #[.pointer (some p)] (.panicking ({ v := .iface t x, recovered := false } :: older)) w fun e u' w' =>
      e = .returned (.tuple #[]) ∧ u' = .panicking ({ v := .iface t x, recovered := true } :: older) ∧ w' = w.setCell p (.iface t x) := by
  refine callsD_of_wpS Try.func41 rfl fun c₀ cs hu => ?_
  apply wpS_region
  simp [wpOpsS, go_sem, recoverD, hu, Try.ntmps41, hc, hz, Oper.upon]
  cases c₀
  simp_all [bodyPostS, results, Try.results41]

set_option maxHeartbeats 400000 in
theorem caught_raw {g : Nat} (hg : Enters g) {first cap : Array Value} {w : World} {R : How → World → Prop}
    (hf : Calls Try.prog g (first ++ cap) (w.alloc box) fun e w1 => ∃ h : How, h.ended e ∧ w1.heap[w.heap.size]? = some box ∧ ∀ w2, Fr (fun k => k = w.heap.size) w1 w2 → R h w2) :
    Calls Try.prog 24 #[.func (.func g) first cap] w fun e w' => ∃ h : How, e = .returned h.v ∧ R h w' := by
  have h1 := mf
  have HK := hide hf; clear hf
  unfold Enters at hg
  go_enter_defers Try.func24, Try.ntmps24
  go_wp2_with fail
  refine (unhide HK).mono ?_
  rintro e w1 ⟨h, he, hb, hR⟩
  have HR := hide hR; clear hR HK
  have hc := cell_of_obj hb 0
  have hz := frozen_of_obj hb 0
  cases h using How.byCases with
  | well =>
    cases he
    go_wp2
    have hc1 := World.cell?_setCell_same w1 ⟨w.heap.size, 0, none⟩ .nilIface hc
    refine leaves_cons (f := 41) (args := #[ptr w.heap.size]) (by simp) (by simp [go_sem]) ?_
    refine (caught1_idle ⟨w.heap.size, 0, none⟩ _ _ hc1 (by simpa using hz)).mono ?_
    rintro e u' w' ⟨rfl, rfl, rfl⟩
    have hc2 := World.cell?_setCell_same _ ⟨w.heap.size, 0, none⟩ .nilIface hc1
    refine ⟨.nilIface, ?_, .well, rfl, ?_⟩
    · simp [results, Try.results24, go_sem, hc2]
    · exact unhide HR _ (((Fr.refl (fun k => k = w.heap.size) w1).setCell (.inl rfl) _).setCell (.inl rfl) _)
  | bad t x =>
    obtain ⟨older, ho, rfl⟩ := he
    go_wp2
    refine leaves_cons (f := 41) (args := #[ptr w.heap.size]) (by simp) (by simp [go_sem]) ?_
    refine (caught1_bad ⟨w.heap.size, 0, none⟩ _ t x older _ hc hz).mono ?_
    rintro e u' w' ⟨rfl, rfl, rfl⟩
    have hc2 := World.cell?_setCell_same _ ⟨w.heap.size, 0, none⟩ (.iface t x) hc
    simp only [settle_bad ho]
    refine ⟨.iface t x, ?_, .bad t x, rfl, ?_⟩
    · simp [results, Try.results24, go_sem, hc2]
    · exact unhide HR _ ((Fr.refl (fun k => k = w.heap.size) w1).setCell (.inl rfl) _)

/-- caught where f turns only blocks of F. -/
theorem caught_fr {g : Nat} (hg : Enters g) {first cap : Array Value} {w : World} {F : Nat → Prop} {S : How → World → Prop} (hF : ∀ k, F k → k < w.heap.size)
    (hf : Calls Try.prog g (first ++ cap) (w.alloc box) fun e w1 => ∃ h : How, h.ended e ∧ Fr F (w.alloc box) w1 ∧ ∀ w2, Fr (fun k => k = w.heap.size) w1 w2 → S h w2) :
    Calls Try.prog 24 #[.func (.func g) first cap] w fun e w' => ∃ h : How, e = .returned h.v ∧ Fr F w w' ∧ S h w' := by
  refine caught_raw (R := fun h w' => Fr F w w' ∧ S h w') hg (hf.mono fun _ w1 ⟨h, he, fr, hS⟩ => ⟨h, he, ?_, fun w2 f2 => ⟨?_, hS w2 f2⟩⟩)
  · exact fr.obj (obj_alloc_new w box) fun h => Nat.lt_irrefl _ (hF _ h)
  · exact (((Fr.refl F w).alloc box).trans fr).trans' f2 fun k hk => .inr (by omega)
end Go.Proofs.Ytebfocfofoajkaa
