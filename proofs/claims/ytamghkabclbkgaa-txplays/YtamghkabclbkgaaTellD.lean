/- Told about a call that ends well or finds the power gone. -/
import Derived.Test.YtamghkabclbkgaaWrs
namespace Go.Proofs.Ytamghkabclbkgaa
open Go.RowKit

set_option maxHeartbeats 400000 in
theorem Told_both (word : Int) (g : Nat) (hg : Enters g) (first cap : Array Value) (w : World) (R0 R1 : World → Prop)
    (hf : Calls Try.prog g (first ++ cap) (boxed w word) fun e w' => (((∃ v, e = .returned v) ∧ R0 w') ∨ (e = .panicked lost ∧ R1 w')) ∧ w'.cell? ⟨w.heap.size + 1, 0, none⟩ = some (.int .i64 0) ∧ w'.frozen? ⟨w.heap.size + 1, 0, none⟩ = false) :
    Calls Try.prog 25 #[.int .i64 word, .func (.func g) first cap] w fun e w' =>
      (e = .returned (.int .i64 0) ∧ ∃ w1, R0 w1 ∧ w' = w1.setCell ⟨w.heap.size + 1, 0, none⟩ (.int .i64 0)) ∨
      (e = .returned (.int .i64 1) ∧ ∃ w1, R1 w1 ∧ w' = (w1.alloc (.cells #[] 56)).setCell ⟨w.heap.size + 1, 0, none⟩ (.int .i64 1)) := by
  have hmf : ∀ (fn : Fn) (first cap : Array Value) (w : World), (Instr.makeFunc fn first cap).run Try.prog w = .ok (.func fn first cap) w := fun _ _ _ _ => rfl
  have HF := hide hf; clear hf
  unfold Enters at hg
  go_enter_defers Try.func25, Try.ntmps25
  go_wp2_with fail
  refine (unhide HF).mono ?_
  rintro e w1 ⟨⟨⟨v, rfl⟩, hR⟩ | ⟨rfl, hR⟩, hc, hz⟩
  · have HR := hide hR; clear hR HF
    go_wp2
    refine leaves_cons (f := 58) (args := #[.pointer (some ⟨w.heap.size + 1, 0, none⟩), .pointer (some ⟨w.heap.size, 0, none⟩)]) (by simp) (by simp [go_sem]) ?_
    refine (told_idle ⟨w.heap.size + 1, 0, none⟩ ⟨w.heap.size, 0, none⟩ _).mono ?_
    rintro e u' w'' ⟨rfl, rfl, rfl⟩
    have hc2 := World.cell?_setCell_same w1 ⟨w.heap.size + 1, 0, none⟩ (Value.int .i64 0) hc
    have HR' := unhide HR
    refine ⟨.int .i64 0, ?_, ?_⟩
    · simp [results, Try.results25, go_sem, hc2]
    · exact .inl ⟨rfl, w1, HR', rfl⟩
  · have HR := hide hR; clear hR HF
    go_wp2
    refine leaves_cons (f := 58) (args := #[.pointer (some ⟨w.heap.size + 1, 0, none⟩), .pointer (some ⟨w.heap.size, 0, none⟩)]) (by simp) (by simp [go_sem]) ?_
    refine (told_lost ⟨w.heap.size + 1, 0, none⟩ ⟨w.heap.size, 0, none⟩ 0 [] _ hc hz (World.block_lt_of_cell? _ _ hc)).mono ?_
    rintro e u' w'' ⟨rfl, rfl, rfl⟩
    have hb := World.block_lt_of_cell? _ _ hc
    have hc2 : ((w1.alloc (.cells #[] 56)).setCell ⟨w.heap.size + 1, 0, none⟩ (.int .i64 1)).cell? ⟨w.heap.size + 1, 0, none⟩ = some (.int .i64 1) :=
      World.cell?_setCell_same _ _ _ ((World.cell?_alloc_lt _ _ _ hb).trans hc)
    have HR' := unhide HR
    simp [Leaves, settle, results, Try.results25, go_sem, hc2]
    exact ⟨w1, HR', rfl⟩

/-- A call about a device, told: it ended well, or the power went. -/
theorem told_dm {w : World} {b : Nat} {L : Lay} {A : Ab} {word : Int} {g : Nat} {first cap : Array Value} {P0 P1 : Ab → Prop} (hg : Enters g) (d : DevL w b L A)
    (hf : Calls Try.prog g (first ++ cap) (boxed w word) fun e w' => ((∃ v, e = .returned v) ∧ DM (boxed w word) b L w' P0) ∨ (e = .panicked lost ∧ DM (boxed w word) b L w' P1)) :
    Calls Try.prog 25 #[.int .i64 word, .func (.func g) first cap] w fun e w' => (e = .returned (.int .i64 0) ∧ DM w b L w' P0) ∨ (e = .returned (.int .i64 1) ∧ DM w b L w' P1) := by
  have nf : ∀ k, w.heap.size ≤ k → ¬ foot b L k := fun k hk h => by have := d.lt k h; omega
  have lift : ∀ (P : Ab → Prop) (w1 w' : World), DM (boxed w word) b L w1 P → Fr (fun k => k = w.heap.size + 1) w1 w' → DM w b L w' P := by
    intro P w1 w' hd h1
    obtain ⟨L', A', d', p, f', s'⟩ := hd
    refine ⟨L', A', d'.kept h1 (fun k hk e => ?_), p, (((boxed_fr w word).mono (G := foot b L) (fun _ h => h.elim)).trans f').trans' h1 (fun k e => .inr (by omega)), fun k hk => (s' k hk).imp id (fun x => by rw [boxed_size] at x; omega)⟩
    rcases s' k hk with h | h
    · exact nf k (by omega) h
    · rw [boxed_size] at h; omega
  refine (Told_both word g hg first cap w (fun w' => DM (boxed w word) b L w' P0) (fun w' => DM (boxed w word) b L w' P1) (hf.mono ?_)).mono ?_
  · intro e w' h
    have hfr : Fr (foot b L) (boxed w word) w' := by rcases h with ⟨_, _, _, _, _, f, _⟩ | ⟨_, _, _, _, _, f, _⟩ <;> exact f
    have hb := hfr.block (w.heap.size + 1) (by simp [boxed]) (nf _ (by omega))
    rw [boxed_how] at hb
    exact ⟨h, by simp [World.cell?, hb], by simp [World.frozen?, hb]⟩
  · rintro e w' (⟨rfl, w1, hd, rfl⟩ | ⟨rfl, w1, hd, rfl⟩)
    · exact .inl ⟨rfl, lift P0 w1 _ hd ((Fr.refl (fun k => k = w.heap.size + 1) w1).setCell (.inl rfl) _)⟩
    · exact .inr ⟨rfl, lift P1 w1 _ hd (((Fr.refl (fun k => k = w.heap.size + 1) w1).alloc _).setCell (.inl rfl) _)⟩
end Go.Proofs.Ytamghkabclbkgaa
