/- NvmLasts: the walk. -/
import Derived.Test.YtmhlbhbakfcdeaaLastsM
import Derived.Test.YtmhlbhbakfcdeaaAwake
namespace Go.Proofs.Ytmhlbhbakfcdeaa
open Go.RowKit

/-- The world in which NvmLasts asks: its boxes, its device, its two arrays, its truth. -/
abbrev lastsV (w1 : World) (b : Nat) : World :=
  (((w1.alloc (.cells #[ptr b] 23)).alloc (.cells (arr 32 fun _ => 0) 45)).alloc (.cells (arr 32 fun _ => 0) 45)).alloc (.cells #[.bool true] 4)
theorem lastsV_fr (w1 : World) (b : Nat) : Fr (fun _ => False) w1 (lastsV w1 b) := ((((Fr.refl _ w1).alloc _).alloc _).alloc _).alloc _
theorem lastsV_size (w1 : World) (b : Nat) : (lastsV w1 b).heap.size = w1.heap.size + 4 := by simp [lastsV]

theorem enters26 : Enters 26 := fun _ _ => by kernel_rfl

/-- Nothing waits. -/
theorem at_waits0 {w0 w : World} {b : Nat} {F : Nat → Prop} {G : Nat → Option Obj} {A : Ab} (h : At w0 b F G w A) (he : ∀ j, A.now j = A.lasts j) :
    Calls Try.prog 20 #[ptr b] w fun e w' => (∃ va cap, e = .returned (.slice va 0 cap)) ∧ At w0 b F G w' A := by
  obtain ⟨L, d, hL⟩ := h.ex
  refine (waiting_ok d).mono ?_
  rintro e w' ⟨v, rfl, ho, hf⟩
  have hn : ∀ m, waitL A.now A.lasts m = [] := fun m => by
    induction m with
    | zero => rfl
    | succ m ih => simp only [waitL, if_pos (he m)]; exact ih
  rw [hn] at ho
  obtain ⟨va, cap, rfl, _⟩ := owns_open (W := []) ho
  exact ⟨⟨va, cap, rfl⟩, h.more hf⟩

set_option maxHeartbeats 1000000 in
theorem lasts_walk (a1 : Option Addr) (len1 cap1 : Nat) (z1 : Nat → Int) (a2 : Option Addr) (len2 cap2 : Nat) (z2 : Nat → Int) (flip : Bool) (a3 : Option Addr) (len3 cap3 : Nat) (z3 : Nat → Int) (w : World)
    (n1 : Nums w a1 len1 z1) (n2 : Nums w a2 len2 z2) (n3 : Nums w a3 len3 z3) (l1 : len1 ≤ maxLen) (l2 : len2 ≤ maxLen) (l3 : len3 ≤ maxLen) :
    Calls Try.prog 7 #[.slice a1 len1 cap1, .slice a2 len2 cap2, .bool flip, .slice a3 len3 cap3] w fun e w' => e = .returned (.bool true) ∧ Fr (fun _ => False) w w' := by
  have hmf : ∀ (fn : Fn) (first cap : Array Value) (w : World), (Instr.makeFunc fn first cap).run Try.prog w = .ok (.func fn first cap) w := fun _ _ _ _ => rfl
  have K1 := new_four ((((w.alloc (.cells #[.slice a1 len1 cap1] 22)).alloc (.cells #[.slice a2 len2 cap2] 22)).alloc (.cells #[.bool flip] 4)).alloc (.cells #[.slice a3 len3 cap3] 22))
  have HN := hide (And.intro (And.intro n1 l1) (And.intro (And.intro n2 l2) (And.intro n3 l3)))
  clear n1 n2 n3 l1 l2 l3
  go_enter Try.func7, Try.ntmps7
  go_wp2_with fail
  refine K1.mono ?_
  rintro e w1 ⟨rfl, L, d1, f1, s1⟩
  simp only [World.size_alloc] at d1 s1
  have hs1 := f1.size
  simp only [World.size_alloc] at hs1
  have D1 := hide d1; have F1 := hide f1; have S1 := hide s1
  clear d1 f1 s1 K1
  go_wp2_with fail
  simp only [arr32_lit]
  have d1 := unhide D1
  have f1 := unhide F1
  have s1 := unhide S1
  have nb : ∀ k, foot (w.heap.size + 1 + 1 + 1 + 1 + 3) L k → k < w1.heap.size := d1.lt
  have dV : DevL (lastsV w1 (w.heap.size + 1 + 1 + 1 + 1 + 3)) (w.heap.size + 1 + 1 + 1 + 1 + 3) L (Ab.fresh 4) := d1.keptF (lastsV_fr w1 _)
  have hsz := lastsV_size w1 (w.heap.size + 1 + 1 + 1 + 1 + 3)
  obtain ⟨v0, v1, v2, v3⟩ := four w1 (.cells #[ptr (w.heap.size + 1 + 1 + 1 + 1 + 3)] 23) (.cells (arr 32 fun _ => 0) 45) (.cells (arr 32 fun _ => 0) 45) (.cells #[.bool true] 4)
  have f0 : Fr (fun _ => False) w w1 := (((((Fr.refl _ w).alloc _).alloc _).alloc _).alloc _).trans f1
  have fV : Fr (fun _ => False) w (lastsV w1 (w.heap.size + 1 + 1 + 1 + 1 + 3)) := f0.trans (lastsV_fr w1 _)
  obtain ⟨q0, q1, q2, q3⟩ := four w (.cells #[.slice a1 len1 cap1] 22) (.cells #[.slice a2 len2 cap2] 22) (.cells #[.bool flip] 4) (.cells #[.slice a3 len3 cap3] 22)
  have fb := boxed_fr (lastsV w1 (w.heap.size + 1 + 1 + 1 + 1 + 3)) 0
  have fX := (f1.trans (lastsV_fr w1 (w.heap.size + 1 + 1 + 1 + 1 + 3))).trans fb
  have cB := fX.cell' (p := ⟨w.heap.size, 0, none⟩) (cell_of_row _ _ 0 _ _ _ q0) (fun h => h)
  have cH := fX.cell' (p := ⟨w.heap.size + 1, 0, none⟩) (cell_of_row _ _ 0 _ _ _ q1) (fun h => h)
  have cF := fX.cell' (p := ⟨w.heap.size + 1 + 1, 0, none⟩) (cell_of_row _ _ 0 _ _ _ q2) (fun h => h)
  have cL := fX.cell' (p := ⟨w.heap.size + 1 + 1 + 1, 0, none⟩) (cell_of_row _ _ 0 _ _ _ q3) (fun h => h)
  have cD := fb.cell' (p := ⟨w1.heap.size, 0, none⟩) (cell_of_row _ _ 0 _ _ _ v0) (fun h => h)
  have K2 := tell_ok (word := 0) (first := #[]) (cap := #[ptr w.heap.size, ptr w1.heap.size, ptr (w1.heap.size + 1), ptr (w1.heap.size + 1 + 1), ptr (w.heap.size + 1), ptr (w.heap.size + 1 + 1), ptr (w.heap.size + 1 + 1 + 1), ptr (w1.heap.size + 1 + 1 + 1)]) enters26 dV
    (G := g3 (w1.heap.size + 1) (w1.heap.size + 1 + 1) (w1.heap.size + 1 + 1 + 1) 45 32 (fun _ => 0) (fun _ => 0) true) (fun A' G' => (∀ j, A'.now j = A'.lasts j) ∧ ∃ f s, G' = g3 (w1.heap.size + 1) (w1.heap.size + 1 + 1) (w1.heap.size + 1 + 1 + 1) 45 32 f s true)
    (fun k o e => by
      by_cases e3 : k = w1.heap.size + 1 + 1 + 1
      · subst e3; rw [g3_O] at e; cases e; exact ⟨v3, fun h => by have := nb _ h; omega⟩
      · by_cases e2 : k = w1.heap.size + 1 + 1
        · subst e2; rw [g3_S (by omega)] at e; cases e; exact ⟨v2, fun h => by have := nb _ h; omega⟩
        · by_cases e1 : k = w1.heap.size + 1
          · subst e1; rw [g3_N (by omega) (by omega)] at e; cases e; exact ⟨v1, fun h => by have := nb _ h; omega⟩
          · rw [g3_other e1 e2 e3] at e; cases e)
    (fun A' G' p k => by obtain ⟨_, f, s, rfl⟩ := p; exact g3_dom f s true k)
    (fun a => (lasts1 (pB := w.heap.size) (pd := w1.heap.size) (pH := w.heap.size + 1) (pF := w.heap.size + 1 + 1) (pL := w.heap.size + 1 + 1 + 1) (flip := flip) a (by omega) (by omega) (by omega)
      cD (fun h => by have := nb _ h; omega) ⟨by omega, by omega, by omega⟩ cF (fun h => by have := s1 _ h; omega) ⟨by omega, by omega, by omega⟩
      ((unhide HN).1.1.sees (unhide HN).1.2 (fV.trans fb) cB (fun h => by have := s1 _ h; omega) (g3_other (by omega) (by omega) (by omega)) (fun k hk h => by have := s1 _ h; omega) (fun k hk => g3_other (by omega) (by omega) (by omega)))
      ((unhide HN).2.1.1.sees (unhide HN).2.1.2 (fV.trans fb) cH (fun h => by have := s1 _ h; omega) (g3_other (by omega) (by omega) (by omega)) (fun k hk h => by have := s1 _ h; omega) (fun k hk => g3_other (by omega) (by omega) (by omega)))
      ((unhide HN).2.2.1.sees (unhide HN).2.2.2 (fV.trans fb) cL (fun h => by have := s1 _ h; omega) (g3_other (by omega) (by omega) (by omega)) (fun k hk h => by have := s1 _ h; omega) (fun k hk => g3_other (by omega) (by omega) (by omega)))).mono (by
      rintro e w' ⟨rfl, f, s, A', a', heq⟩
      exact ⟨⟨_, rfl⟩, A', _, ⟨heq, f, s, rfl⟩, a'⟩))
  refine K2.mono ?_
  rintro e w2 ⟨rfl, A', G', ⟨heq, f, s, rfl⟩, a2⟩
  have o2 : w2.cell? ⟨w1.heap.size + 1 + 1 + 1, 0, none⟩ = some (.bool true) := a2.gcell g3_O 0
  have cd2 : w2.cell? ⟨w1.heap.size, 0, none⟩ = some (ptr (w.heap.size + 1 + 1 + 1 + 1 + 3)) := a2.cell (p := ⟨w1.heap.size, 0, none⟩) (cell_of_row _ _ 0 _ _ _ v0) (fun h => by have : w1.heap.size < w1.heap.size := nb _ h; omega) (g3_other (by show w1.heap.size ≠ _; omega) (by show w1.heap.size ≠ _; omega) (by show w1.heap.size ≠ _; omega))
  have K3 := at_waits0 a2 heq
  have HF : Hid (∀ w3 A', At (lastsV w1 (w.heap.size + 1 + 1 + 1 + 1 + 3)) (w.heap.size + 1 + 1 + 1 + 1 + 3) (foot (w.heap.size + 1 + 1 + 1 + 1 + 3) L) (g3 (w1.heap.size + 1) (w1.heap.size + 1 + 1) (w1.heap.size + 1 + 1 + 1) 45 32 f s true) w3 A' → Fr (fun _ => False) w w3) := fun w3 A' a => fV.trans' a.fr (fun k hk => by
    rcases hk with h | h
    · exact .inr (by have := s1 k h; omega)
    · by_cases hk : k < w.heap.size
      · rw [g3_other (by omega) (by omega) (by omega)] at h; cases h
      · exact .inr (by omega))
  clear K2 a2 dV d1 f1 s1 nb hsz v0 v1 v2 v3 q0 q1 q2 q3 f0 fV cB cH cF cL cD fb fX HN D1 F1 S1 heq
  go_wp2_with fail
  refine K3.mono ?_
  rintro e w3 ⟨⟨va, cap, rfl⟩, a3'⟩
  have F2 := hide (unhide HF _ _ a3')
  have K4 := awake_ok w3
  clear K3 a3' HF
  go_wp2_with fail
  refine K4.mono ?_
  rintro e w4 ⟨rfl, f4⟩
  have F4 := hide f4
  clear f4 K4
  go_wp2
  go_ret
  exact ⟨rfl, (unhide F2).trans (unhide F4)⟩
end Go.Proofs.Ytmhlbhbakfcdeaa
