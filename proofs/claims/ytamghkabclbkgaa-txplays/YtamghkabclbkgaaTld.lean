/- Told about what ends well, by an error of ours or by a text. -/
import Derived.Test.YtamghkabclbkgaaLw
namespace Go.Proofs.Ytamghkabclbkgaa
open Go.RowKit

theorem ta_no (t : Nat) (ht : t = 36 ∨ t = 9) (x : Value) (w : World) : (Instr.typeAssert (.iface t x) 20 56 true).run Try.prog w = .ok (.tuple #[.agg #[], .bool false]) w ∧ (Instr.typeAssert (.iface t x) 20 83 true).run Try.prog w = .ok (.tuple #[.agg #[.int .i64 0], .bool false]) w := by
  rcases ht with rfl | rfl
  · exact ⟨by kernel_rfl, by kernel_rfl⟩
  · exact ⟨by kernel_rfl, by kernel_rfl⟩

set_option maxHeartbeats 400000 in
theorem told_other (p q : Addr) (t : Nat) (ht : t = 36 ∨ t = 9) (y : Value) (x : Int) (older : List PanicEntry) (w : World) (hc : w.cell? p = some (.int .i64 x)) (hz : w.frozen? p = false) :
    CallsD Try.prog 58 #[.pointer (some p), .pointer (some q)] (.panicking ({ v := .iface t y, recovered := false } :: older)) w fun e u' w' =>
      e = .returned (.tuple #[]) ∧ u' = .panicking ({ v := .iface t y, recovered := true } :: older) ∧ w' = w.setCell p (.int .i64 3) := by
  refine callsD_of_wpS Try.func58 rfl fun c₀ cs hu => ?_
  apply wpS_seq
  apply wpS_region
  simp [wpOpsS, go_sem, recoverD, hu, Try.ntmps58, Exit.thenS]
  rw [tmps_told]
  refine wpS_of_wp ?_
  generalize hQ : (fun (e : Exit) (a' : Act) (w' : World) => bodyPostS Try.prog Try.f58 c₀ cs (fun e u' w' => e = Ending.returned (Value.tuple #[]) ∧ u' = FrameMode.panicking ({ v := Value.iface t y, recovered := true } :: older) ∧ w' = w.setCell p (Value.int IntKind.i64 3)) e a' ({ c₀ with mode := FrameMode.panicking ({ v := Value.iface t y, recovered := true } :: older) } :: cs) w') = Q
  have HQ := hide hQ; clear hQ
  have t1 := fun w => (ta_no t ht y w).1
  have t2 := fun w => (ta_no t ht y w).2
  clear ht
  go_wp2
  rw [← unhide HQ]
  cases c₀
  simp_all [bodyPostS, results, Try.results58]

/-- What Told tells of an end. -/
def How.told (h : How) : Int := match h.o with | none => 0 | some _ => 3

set_option maxHeartbeats 800000 in
theorem Told_how (word : Int) (g : Nat) (hg : Enters g) (first cap : Array Value) (w : World) (R : How → World → Prop)
    (hf : Calls Try.prog g (first ++ cap) (boxed w word) fun e w' => ∃ h : How, h.ended e ∧ (h = .well ∨ (∃ i, h = .errno i) ∨ ∃ y, h = .bad 9 y) ∧ w'.cell? ⟨w.heap.size + 1, 0, none⟩ = some (.int .i64 0) ∧ w'.frozen? ⟨w.heap.size + 1, 0, none⟩ = false ∧ R h w') :
    Calls Try.prog 25 #[.int .i64 word, .func (.func g) first cap] w fun e w' => ∃ (h : How) (w1 : World), e = .returned (.int .i64 h.told) ∧ R h w1 ∧ Fr (fun k => k = w.heap.size + 1) w1 w' := by
  have hmf : ∀ (fn : Fn) (first cap : Array Value) (w : World), (Instr.makeFunc fn first cap).run Try.prog w = .ok (.func fn first cap) w := fun _ _ _ _ => rfl
  have HF := hide hf; clear hf
  unfold Enters at hg
  go_enter_defers Try.func25, Try.ntmps25
  go_wp2_with fail
  refine (unhide HF).mono ?_
  rintro e w1 ⟨h, he, hk, hc, hz, hR⟩
  have HR := hide hR; clear hR HF
  cases h using How.byCases with
  | well =>
    cases he
    clear hk
    go_wp2
    refine leaves_cons (f := 58) (args := #[.pointer (some ⟨w.heap.size + 1, 0, none⟩), .pointer (some ⟨w.heap.size, 0, none⟩)]) (by simp) (by simp [go_sem]) ?_
    refine (told_idle ⟨w.heap.size + 1, 0, none⟩ ⟨w.heap.size, 0, none⟩ _).mono ?_
    rintro e u' w'' ⟨rfl, rfl, rfl⟩
    have hc2 := World.cell?_setCell_same w1 ⟨w.heap.size + 1, 0, none⟩ (Value.int .i64 0) hc
    have HR' := unhide HR
    refine ⟨.int .i64 0, ?_, .well, w1, rfl, HR', (Fr.refl (fun k => k = w.heap.size + 1) w1).setCell (.inl rfl) _⟩
    simp [results, Try.results25, go_sem, hc2]
  | bad t y =>
    obtain ⟨older, ho, rfl⟩ := he
    have ht : t = 36 ∨ t = 9 := by
      rcases hk with e | ⟨i, e⟩ | ⟨z, e⟩
      · injection e with e; cases e
      · left; injection e with e; injection e with e; injection e
      · right; injection e with e; injection e with e; injection e
    clear hk
    go_wp2
    refine leaves_cons (f := 58) (args := #[.pointer (some ⟨w.heap.size + 1, 0, none⟩), .pointer (some ⟨w.heap.size, 0, none⟩)]) (by simp) (by simp [go_sem]) ?_
    refine (told_other ⟨w.heap.size + 1, 0, none⟩ ⟨w.heap.size, 0, none⟩ t ht y 0 older _ hc hz).mono ?_
    rintro e u' w'' ⟨rfl, rfl, rfl⟩
    have hc2 := World.cell?_setCell_same w1 ⟨w.heap.size + 1, 0, none⟩ (Value.int .i64 3) hc
    have HR' := unhide HR
    simp only [settle_bad ho]
    refine ⟨.int .i64 3, ?_, .bad t y, w1, rfl, HR', (Fr.refl (fun k => k = w.heap.size + 1) w1).setCell (.inl rfl) _⟩
    simp [results, Try.results25, go_sem, hc2]

/-- Told about what turns only blocks of F, all old. -/
theorem Told_fr {F : Nat → Prop} (word : Int) (g : Nat) (hg : Enters g) (first cap : Array Value) (w : World) (R : How → World → Prop) (hF : ∀ k, F k → k < w.heap.size)
    (hf : Calls Try.prog g (first ++ cap) (boxed w word) fun e w' => ∃ h : How, h.ended e ∧ (h = .well ∨ (∃ i, h = .errno i) ∨ ∃ y, h = .bad 9 y) ∧ Fr F (boxed w word) w' ∧ ∀ w2, Fr (fun k => k = w.heap.size + 1) w' w2 → R h w2) :
    Calls Try.prog 25 #[.int .i64 word, .func (.func g) first cap] w fun e w' => ∃ h : How, e = .returned (.int .i64 h.told) ∧ R h w' := by
  refine (Told_how word g hg first cap w (fun h w' => ∀ w2, Fr (fun k => k = w.heap.size + 1) w' w2 → R h w2) (hf.mono ?_)).mono ?_
  · rintro e w' ⟨h, h1, h2, h3, h4⟩
    have hb := h3.block (w.heap.size + 1) (by simp [boxed]) (fun x => by have := hF _ x; omega)
    rw [boxed_how] at hb
    exact ⟨h, h1, h2, by simp [World.cell?, hb], by simp [World.frozen?, hb], h4⟩
  · rintro e w' ⟨h, w1, h1, h2, h3⟩
    exact ⟨h, h1, h2 w' h3⟩
end Go.Proofs.Ytamghkabclbkgaa
