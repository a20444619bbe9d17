/- Told: how a call ended, by its deferred closure. -/
import Derived.Test.YtamghkabclbkgaaLeaf
import Derived.Defers
import Derived.Recover
namespace Go.Proofs.Ytamghkabclbkgaa
open Go.RowKit

theorem tmps_told (x y v : Value) : (#[x, y] ++ (Array.replicate 16 undef).setIfInBounds 4 v) = #[x, y, undef, undef, undef, undef, v, undef, undef, undef, undef, undef, undef, undef, undef, undef, undef, undef] := by kernel_rfl

theorem ta53 (w : World) : (Instr.typeAssert (.iface 56 (.agg #[])) 20 56 true).run Try.prog w = .ok (.tuple #[.agg #[], .bool true]) w := by kernel_rfl
theorem ta53no (i : Int) (w : World) : (Instr.typeAssert (.iface 83 (.agg #[.int .i64 i])) 20 56 true).run Try.prog w = .ok (.tuple #[.agg #[], .bool false]) w := by kernel_rfl
theorem ta55 (i : Int) (w : World) : (Instr.typeAssert (.iface 83 (.agg #[.int .i64 i])) 20 83 true).run Try.prog w = .ok (.tuple #[.agg #[.int .i64 i], .bool true]) w := by kernel_rfl

set_option maxHeartbeats 400000 in
theorem told_idle (p q : Addr) (w : World) :
    CallsD Try.prog 58 #[.pointer (some p), .pointer (some q)] .returning w fun e u' w' => e = .returned (.tuple #[]) ∧ u' = .returning ∧ w' = w := by
  refine callsD_of_wpS Try.func58 rfl fun c₀ cs hu => ?_
  apply wpS_seq
  apply wpS_region
  simp [wpOpsS, go_sem, recoverD, hu, Try.ntmps58, Exit.thenS]
  rw [tmps_told]
  refine wpS_of_wp ?_
  generalize hQ : (fun (e : Exit) (a' : Act) (w' : World) => bodyPostS Try.prog Try.f58 c₀ cs (fun e u' w' => e = Ending.returned (Value.tuple #[]) ∧ u' = FrameMode.returning ∧ w' = w) e a' (c₀ :: cs) w') = Q
  have HQ := hide hQ; clear hQ
  go_wp2
  rw [← unhide HQ]
  cases c₀
  simp_all [bodyPostS, results, Try.results58]

set_option maxHeartbeats 400000 in
theorem told_lost (p q : Addr) (x : Int) (older : List PanicEntry) (w : World) (hc : w.cell? p = some (.int .i64 x)) (hz : w.frozen? p = false) (hp : p.block < w.heap.size) :
    CallsD Try.prog 58 #[.pointer (some p), .pointer (some q)] (.panicking ({ v := .iface 56 (.agg #[]), recovered := false } :: older)) w fun e u' w' =>
      e = .returned (.tuple #[]) ∧ u' = .panicking ({ v := .iface 56 (.agg #[]), recovered := true } :: older) ∧ w' = (w.alloc (.cells #[] 56)).setCell p (.int .i64 1) := by
  refine callsD_of_wpS Try.func58 rfl fun c₀ cs hu => ?_
  apply wpS_seq
  apply wpS_region
  simp [wpOpsS, go_sem, recoverD, hu, Try.ntmps58, Exit.thenS]
  rw [tmps_told]
  refine wpS_of_wp ?_
  generalize hQ : (fun (e : Exit) (a' : Act) (w' : World) => bodyPostS Try.prog Try.f58 c₀ cs (fun e u' w' => e = Ending.returned (Value.tuple #[]) ∧ u' = FrameMode.panicking ({ v := Value.iface 56 (Value.agg #[]), recovered := true } :: older) ∧ w' = (w.alloc (Obj.cells #[] 56)).setCell p (Value.int IntKind.i64 1)) e a' ({ c₀ with mode := FrameMode.panicking ({ v := Value.iface 56 (Value.agg #[]), recovered := true } :: older) } :: cs) w') = Q
  have HQ := hide hQ; clear hQ
  have hz' : (w.alloc (.cells #[] 56)).frozen? p = false := by rw [World.frozen?_alloc_old _ _ _ (by omega)]; exact hz
  have hc' : (w.alloc (.cells #[] 56)).cell? p = some (.int .i64 x) := by rw [World.cell?_alloc_old _ _ _ (by omega)]; exact hc
  have t1 := ta53
  go_wp2
  rw [← unhide HQ]
  cases c₀
  simp_all [bodyPostS, results, Try.results58]

set_option maxHeartbeats 400000 in
theorem told_wrong (p q : Addr) (x i : Int) (older : List PanicEntry) (w : World) (hc : w.cell? p = some (.int .i64 x)) (hz : w.frozen? p = false) (hp : p.block < w.heap.size)
    (hq : w.cell? q = some (.int .i64 i)) (hqb : q.block < w.heap.size) (hpq : p.block ≠ q.block) :
    CallsD Try.prog 58 #[.pointer (some p), .pointer (some q)] (.panicking ({ v := .iface 83 (.agg #[.int .i64 i]), recovered := false } :: older)) w fun e u' w' =>
      e = .returned (.tuple #[]) ∧ u' = .panicking ({ v := .iface 83 (.agg #[.int .i64 i]), recovered := true } :: older) ∧ w' = ((w.alloc (.cells #[.int .i64 i] 83)).setCell p (.int .i64 3)).setCell p (.int .i64 2) := by
  refine callsD_of_wpS Try.func58 rfl fun c₀ cs hu => ?_
  apply wpS_seq
  apply wpS_region
  simp [wpOpsS, go_sem, recoverD, hu, Try.ntmps58, Exit.thenS]
  rw [tmps_told]
  refine wpS_of_wp ?_
  generalize hQ : (fun (e : Exit) (a' : Act) (w' : World) => bodyPostS Try.prog Try.f58 c₀ cs (fun e u' w' => e = Ending.returned (Value.tuple #[]) ∧ u' = FrameMode.panicking ({ v := Value.iface 83 (Value.agg #[Value.int IntKind.i64 i]), recovered := true } :: older) ∧ w' = ((w.alloc (Obj.cells #[Value.int IntKind.i64 i] 83)).setCell p (Value.int IntKind.i64 3)).setCell p (Value.int IntKind.i64 2)) e a' ({ c₀ with mode := FrameMode.panicking ({ v := Value.iface 83 (Value.agg #[Value.int IntKind.i64 i]), recovered := true } :: older) } :: cs) w') = Q
  have HQ := hide hQ; clear hQ
  have hz' : (w.alloc (.cells #[.int .i64 i] 83)).frozen? p = false := by rw [World.frozen?_alloc_old _ _ _ (by omega)]; exact hz
  have hc' : (w.alloc (.cells #[.int .i64 i] 83)).cell? p = some (.int .i64 x) := by rw [World.cell?_alloc_old _ _ _ (by omega)]; exact hc
  have hc2 : ((w.alloc (.cells #[.int .i64 i] 83)).setCell p (.int .i64 3)).cell? p = some (.int .i64 3) := World.cell?_setCell_same _ _ _ hc'
  have hq' : ((w.alloc (.cells #[.int .i64 i] 83)).setCell p (.int .i64 3)).cell? q = some (.int .i64 i) := by
    rw [World.cell?_setCell_other _ _ _ _ (fun e => hpq (by rw [e])), World.cell?_alloc_old _ _ _ (by omega)]; exact hq
  have hn' : ((w.alloc (.cells #[.int .i64 i] 83)).setCell p (.int .i64 3)).cell? ⟨w.heap.size, 0, none⟩ = some (.int .i64 i) := by
    rw [World.cell?_setCell_other _ _ _ _ (fun e => by rw [e] at hp; simp at hp)]; simp
  have t1 := ta53no; have t2 := ta55
  go_wp2
  rw [← unhide HQ]
  cases c₀
  simp_all [bodyPostS, results, Try.results58]

/-- Function g has a body: a call of it enters it. -/
def Enters (g : Nat) : Prop := ∀ (args : Array Value) (w : World), (callFunc g args).run Try.prog w = .ok (.enter g args) w

set_option maxHeartbeats 400000 in
theorem Told_ret (word : Int) (g : Nat) (hg : Enters g) (first cap : Array Value) (w : World) (R : World → Prop)
    (hf : Calls Try.prog g (first ++ cap) ((w.alloc (.cells #[.int .i64 word] 3)).alloc (.cells #[.int .i64 0] 3)) fun e w' => (∃ v, e = .returned v) ∧ R w' ∧ w'.cell? ⟨w.heap.size + 1, 0, none⟩ = some (.int .i64 0) ∧ w'.frozen? ⟨w.heap.size + 1, 0, none⟩ = false) :
    Calls Try.prog 25 #[.int .i64 word, .func (.func g) first cap] w fun e w' => e = .returned (.int .i64 0) ∧ ∃ w1, R w1 ∧ w' = w1.setCell ⟨w.heap.size + 1, 0, none⟩ (.int .i64 0) := by
  have hmf : ∀ (fn : Fn) (first cap : Array Value) (w : World), (Instr.makeFunc fn first cap).run Try.prog w = .ok (.func fn first cap) w := fun _ _ _ _ => rfl
  have HF := hide hf; clear hf
  unfold Enters at hg
  go_enter_defers Try.func25, Try.ntmps25
  go_wp2_with fail
  refine (unhide HF).mono ?_
  rintro e w1 ⟨⟨v, rfl⟩, hR, hc, hz⟩
  have HR := hide hR; clear hR HF
  go_wp2
  refine leaves_cons (f := 58) (args := #[.pointer (some ⟨w.heap.size + 1, 0, none⟩), .pointer (some ⟨w.heap.size, 0, none⟩)]) (by simp) (by simp [go_sem]) ?_
  refine (told_idle ⟨w.heap.size + 1, 0, none⟩ ⟨w.heap.size, 0, none⟩ _).mono ?_
  rintro e u' w'' ⟨rfl, rfl, rfl⟩
  have hc2 := World.cell?_setCell_same w1 ⟨w.heap.size + 1, 0, none⟩ (Value.int .i64 0) hc
  have HR' := unhide HR
  refine ⟨.int .i64 0, ?_, ?_⟩
  · simp [results, Try.results25, go_sem, hc2]
  · exact ⟨rfl, w1, HR', rfl⟩

set_option maxHeartbeats 400000 in
theorem Told_lost (word : Int) (g : Nat) (hg : Enters g) (first cap : Array Value) (w : World) (R : World → Prop)
    (hf : Calls Try.prog g (first ++ cap) ((w.alloc (.cells #[.int .i64 word] 3)).alloc (.cells #[.int .i64 0] 3)) fun e w' => e = .panicked lost ∧ R w' ∧ w'.cell? ⟨w.heap.size + 1, 0, none⟩ = some (.int .i64 0) ∧ w'.frozen? ⟨w.heap.size + 1, 0, none⟩ = false) :
    Calls Try.prog 25 #[.int .i64 word, .func (.func g) first cap] w fun e w' => e = .returned (.int .i64 1) ∧ ∃ w1, R w1 ∧ w' = (w1.alloc (.cells #[] 56)).setCell ⟨w.heap.size + 1, 0, none⟩ (.int .i64 1) := by
  have hmf : ∀ (fn : Fn) (first cap : Array Value) (w : World), (Instr.makeFunc fn first cap).run Try.prog w = .ok (.func fn first cap) w := fun _ _ _ _ => rfl
  have HF := hide hf; clear hf
  unfold Enters at hg
  go_enter_defers Try.func25, Try.ntmps25
  go_wp2_with fail
  refine (unhide HF).mono ?_
  rintro e w1 ⟨rfl, hR, hc, hz⟩
  have HR := hide hR; clear hR HF
  go_wp2
  refine leaves_cons (f := 58) (args := #[.pointer (some ⟨w.heap.size + 1, 0, none⟩), .pointer (some ⟨w.heap.size, 0, none⟩)]) (by simp) (by simp [go_sem]) ?_
  refine (told_lost ⟨w.heap.size + 1, 0, none⟩ ⟨w.heap.size, 0, none⟩ 0 [] _ hc hz (World.block_lt_of_cell? _ _ hc)).mono ?_
  rintro e u' w'' ⟨rfl, rfl, rfl⟩
  have hb := World.block_lt_of_cell? _ _ hc
  have hc2 : ((w1.alloc (.cells #[] 56)).setCell ⟨w.heap.size + 1, 0, none⟩ (.int .i64 1)).cell? ⟨w.heap.size + 1, 0, none⟩ = some (.int .i64 1) :=
    World.cell?_setCell_same _ _ _ ((World.cell?_alloc_lt _ _ _ hb).trans hc)
  have HR' := unhide HR
  simp [Leaves, settle, results, Try.results25, go_sem, hc2]
  exact ⟨w1, HR', rfl⟩

set_option maxHeartbeats 400000 in
theorem Told_wrong (word : Int) (g : Nat) (hg : Enters g) (first cap : Array Value) (w : World) (R : World → Prop)
    (hf : Calls Try.prog g (first ++ cap) ((w.alloc (.cells #[.int .i64 word] 3)).alloc (.cells #[.int .i64 0] 3)) fun e w' => e = .panicked (wrong word) ∧ R w' ∧ w'.cell? ⟨w.heap.size + 1, 0, none⟩ = some (.int .i64 0) ∧ w'.frozen? ⟨w.heap.size + 1, 0, none⟩ = false ∧ w'.cell? ⟨w.heap.size, 0, none⟩ = some (.int .i64 word)) :
    Calls Try.prog 25 #[.int .i64 word, .func (.func g) first cap] w fun e w' => e = .returned (.int .i64 2) ∧ ∃ w1, R w1 ∧ w' = ((w1.alloc (.cells #[.int .i64 word] 83)).setCell ⟨w.heap.size + 1, 0, none⟩ (.int .i64 3)).setCell ⟨w.heap.size + 1, 0, none⟩ (.int .i64 2) := by
  have hmf : ∀ (fn : Fn) (first cap : Array Value) (w : World), (Instr.makeFunc fn first cap).run Try.prog w = .ok (.func fn first cap) w := fun _ _ _ _ => rfl
  have HF := hide hf; clear hf
  unfold Enters at hg
  go_enter_defers Try.func25, Try.ntmps25
  go_wp2_with fail
  refine (unhide HF).mono ?_
  rintro e w1 ⟨rfl, hR, hc, hz, hq⟩
  have HR := hide hR; clear hR HF
  go_wp2
  refine leaves_cons (f := 58) (args := #[.pointer (some ⟨w.heap.size + 1, 0, none⟩), .pointer (some ⟨w.heap.size, 0, none⟩)]) (by simp) (by simp [go_sem]) ?_
  refine (told_wrong ⟨w.heap.size + 1, 0, none⟩ ⟨w.heap.size, 0, none⟩ 0 word [] _ hc hz (World.block_lt_of_cell? _ _ hc) hq (World.block_lt_of_cell? _ _ hq) (by simp)).mono ?_
  rintro e u' w'' ⟨rfl, rfl, rfl⟩
  have hb := World.block_lt_of_cell? _ _ hc
  have hc2 : (((w1.alloc (.cells #[.int .i64 word] 83)).setCell ⟨w.heap.size + 1, 0, none⟩ (.int .i64 3)).setCell ⟨w.heap.size + 1, 0, none⟩ (.int .i64 2)).cell? ⟨w.heap.size + 1, 0, none⟩ = some (.int .i64 2) :=
    World.cell?_setCell_same _ _ _ (World.cell?_setCell_same _ _ _ ((World.cell?_alloc_lt _ _ _ hb).trans hc))
  have HR' := unhide HR
  simp [Leaves, settle, results, Try.results25, go_sem, hc2]
  exact ⟨w1, HR', rfl⟩

/-- The two boxes that Told lays ahead of the call. -/
abbrev boxed (w : World) (word : Int) : World := (w.alloc (.cells #[.int .i64 word] 3)).alloc (.cells #[.int .i64 0] 3)
theorem boxed_fr (w : World) (word : Int) : Fr (fun _ => False) w (boxed w word) := ((Fr.refl _ w).alloc _).alloc _
theorem boxed_size (w : World) (word : Int) : (boxed w word).heap.size = w.heap.size + 2 := by simp [boxed]
theorem boxed_how (w : World) (word : Int) : (boxed w word).heap[w.heap.size + 1]? = some (.cells #[.int .i64 0] 3) := by
  have := heap_alloc_new (w.alloc (.cells #[.int .i64 word] 3)) (.cells #[.int .i64 0] 3); simpa [boxed] using this
theorem boxed_word (w : World) (word : Int) : (boxed w word).heap[w.heap.size]? = some (.cells #[.int .i64 word] 3) := by
  rw [boxed, Below.heap_alloc _ _ _ (by simp)]; exact heap_alloc_new w _

section
variable {word : Int} {g : Nat} {first cap : Array Value} {w : World} {F : Nat → Prop} {R : World → Prop}

theorem told_ok (hg : Enters g) (hF : ∀ k, F k → k < w.heap.size) (hst : ∀ w1 w', R w1 → w.heap.size + 2 ≤ w1.heap.size → Fr (fun k => k = w.heap.size + 1) w1 w' → R w')
    (hf : Calls Try.prog g (first ++ cap) (boxed w word) fun e w' => (∃ v, e = .returned v) ∧ R w' ∧ Fr F (boxed w word) w') :
    Calls Try.prog 25 #[.int .i64 word, .func (.func g) first cap] w fun e w' => e = .returned (.int .i64 0) ∧ R w' ∧ Fr F w w' := by
  refine (Told_ret word g hg first cap w (fun w' => R w' ∧ Fr F (boxed w word) w') (hf.mono ?_)).mono ?_
  · rintro e w' ⟨he, hR, hfr⟩
    have hb := hfr.block (w.heap.size + 1) (by simp [boxed]) (fun h => by have := hF _ h; omega)
    rw [boxed_how] at hb
    exact ⟨he, ⟨hR, hfr⟩, by simp [World.cell?, hb], by simp [World.frozen?, hb]⟩
  · rintro e w' ⟨rfl, w1, ⟨hR, hfr⟩, rfl⟩
    have h1 : Fr (fun k => k = w.heap.size + 1) w1 (w1.setCell ⟨w.heap.size + 1, 0, none⟩ (.int .i64 0)) := (Fr.refl (fun k => k = w.heap.size + 1) w1).setCell (.inl rfl) _
    refine ⟨rfl, hst _ _ hR (by have := hfr.size; simp only [boxed_size] at this; exact this) h1, ?_⟩
    exact ((((Fr.refl F w).alloc _).alloc _).trans hfr).setCell (.inr (by simp)) _

theorem told_lst (hg : Enters g) (hF : ∀ k, F k → k < w.heap.size) (hst : ∀ w1 w', R w1 → w.heap.size + 2 ≤ w1.heap.size → Fr (fun k => k = w.heap.size + 1) w1 w' → R w')
    (hf : Calls Try.prog g (first ++ cap) (boxed w word) fun e w' => e = .panicked lost ∧ R w' ∧ Fr F (boxed w word) w') :
    Calls Try.prog 25 #[.int .i64 word, .func (.func g) first cap] w fun e w' => e = .returned (.int .i64 1) ∧ R w' ∧ Fr F w w' := by
  refine (Told_lost word g hg first cap w (fun w' => R w' ∧ Fr F (boxed w word) w') (hf.mono ?_)).mono ?_
  · rintro e w' ⟨he, hR, hfr⟩
    have hb := hfr.block (w.heap.size + 1) (by simp [boxed]) (fun h => by have := hF _ h; omega)
    rw [boxed_how] at hb
    exact ⟨he, ⟨hR, hfr⟩, by simp [World.cell?, hb], by simp [World.frozen?, hb]⟩
  · rintro e w' ⟨rfl, w1, ⟨hR, hfr⟩, rfl⟩
    have h1 : Fr (fun k => k = w.heap.size + 1) w1 ((w1.alloc (.cells #[] 56)).setCell ⟨w.heap.size + 1, 0, none⟩ (.int .i64 1)) := ((Fr.refl (fun k => k = w.heap.size + 1) w1).alloc _).setCell (.inl rfl) _
    refine ⟨rfl, hst _ _ hR (by have := hfr.size; simp only [boxed_size] at this; exact this) h1, ?_⟩
    exact (((((Fr.refl F w).alloc _).alloc _).trans hfr).alloc _).setCell (.inr (by simp)) _

theorem told_wrg (hg : Enters g) (hF : ∀ k, F k → k < w.heap.size) (hst : ∀ w1 w', R w1 → w.heap.size + 2 ≤ w1.heap.size → Fr (fun k => k = w.heap.size + 1) w1 w' → R w')
    (hf : Calls Try.prog g (first ++ cap) (boxed w word) fun e w' => e = .panicked (wrong word) ∧ R w' ∧ Fr F (boxed w word) w') :
    Calls Try.prog 25 #[.int .i64 word, .func (.func g) first cap] w fun e w' => e = .returned (.int .i64 2) ∧ R w' ∧ Fr F w w' := by
  refine (Told_wrong word g hg first cap w (fun w' => R w' ∧ Fr F (boxed w word) w') (hf.mono ?_)).mono ?_
  · rintro e w' ⟨he, hR, hfr⟩
    have hb := hfr.block (w.heap.size + 1) (by simp [boxed]) (fun h => by have := hF _ h; omega)
    have hq := hfr.block (w.heap.size) (by rw [boxed_size]; omega) (fun h => by have := hF _ h; omega)
    rw [boxed_how] at hb
    rw [boxed_word] at hq
    exact ⟨he, ⟨hR, hfr⟩, by simp [World.cell?, hb], by simp [World.frozen?, hb], by simp [World.cell?, hq]⟩
  · rintro e w' ⟨rfl, w1, ⟨hR, hfr⟩, rfl⟩
    have h1 : Fr (fun k => k = w.heap.size + 1) w1 (((w1.alloc (.cells #[.int .i64 word] 83)).setCell ⟨w.heap.size + 1, 0, none⟩ (.int .i64 3)).setCell ⟨w.heap.size + 1, 0, none⟩ (.int .i64 2)) := (((Fr.refl (fun k => k = w.heap.size + 1) w1).alloc _).setCell (.inl rfl) _).setCell (.inl rfl) _
    refine ⟨rfl, hst _ _ hR (by have := hfr.size; simp only [boxed_size] at this; exact this) h1, ?_⟩
    exact ((((((Fr.refl F w).alloc _).alloc _).trans hfr).alloc _).setCell (.inr (by simp)) _).setCell (.inr (by simp)) _
end
end Go.Proofs.Ytamghkabclbkgaa
