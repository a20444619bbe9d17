/- NvmLines: the walk. -/
import Derived.Test.YtmhlbhbakfcdeaaLinesM
import Derived.Test.YtmhlbhbakfcdeaaAwake
namespace Go.Proofs.Ytmhlbhbakfcdeaa
open Go.RowKit

/-- The world in which NvmLines asks: its boxes, its device, its two arrays, its truth. -/
abbrev linesV (w1 : World) (s b at_ : Nat) : World :=
  ((((w1.setCell ⟨s, 0, none⟩ (.int .i64 at_)).alloc (.cells #[ptr b] 23)).alloc (.cells (arr 64 fun _ => 0) 28)).alloc (.cells (arr 64 fun _ => 0) 28)).alloc (.cells #[.bool true] 4)

theorem linesV_fr (w1 : World) (s b at_ : Nat) : Fr (fun k => k = s) w1 (linesV w1 s b at_) := ((((((Fr.refl (fun k => k = s) w1).setCell (.inl rfl) _).alloc _).alloc _).alloc _).alloc _)
theorem linesV_size (w1 : World) (s b at_ : Nat) : (linesV w1 s b at_).heap.size = w1.heap.size + 4 := by simp [linesV]
theorem linesV_heap (w1 : World) (s b at_ : Nat) : (linesV w1 s b at_).heap[w1.heap.size]? = some (.cells #[ptr b] 23) ∧ (linesV w1 s b at_).heap[w1.heap.size + 1]? = some (.cells (arr 64 fun _ => 0) 28) ∧ (linesV w1 s b at_).heap[w1.heap.size + 1 + 1]? = some (.cells (arr 64 fun _ => 0) 28) ∧ (linesV w1 s b at_).heap[w1.heap.size + 1 + 1 + 1]? = some (.cells #[.bool true] 4) := by
  have := four (w1.setCell ⟨s, 0, none⟩ (.int .i64 at_)) (.cells #[ptr b] 23) (.cells (arr 64 fun _ => 0) 28) (.cells (arr 64 fun _ => 0) 28) (.cells #[.bool true] 4)
  rw [World.size_setCell] at this
  exact this

theorem enters11 : Enters 11 := fun _ _ => by kernel_rfl

set_option maxHeartbeats 1000000 in
theorem lines_walk (a0 : Int) (a1 : Option Addr) (len1 cap1 : Nat) (z1 : Nat → Int) (a2 : Option Addr) (len2 cap2 : Nat) (z2 : Nat → Int) (w : World)
    (n1 : Nums w a1 len1 z1) (n2 : Nums w a2 len2 z2) (l1 : len1 ≤ maxLen) (l2 : len2 ≤ maxLen) :
    Calls Try.prog 3 #[.int .i64 a0, .slice a1 len1 cap1, .slice a2 len2 cap2] w fun e w' => e = .returned (.bool true) ∧ Fr (fun _ => False) w w' := by
  have hmf : ∀ (fn : Fn) (first cap : Array Value) (w : World), (Instr.makeFunc fn first cap).run Try.prog w = .ok (.func fn first cap) w := fun _ _ _ _ => rfl
  have K1 := new_eight (((w.alloc (.cells #[.int .i64 a0] 3)).alloc (.cells #[.slice a1 len1 cap1] 22)).alloc (.cells #[.slice a2 len2 cap2] 22))
  have hal := alloc28
  have hm := mask63 a0
  have hml := msk_le a0 63
  generalize msk a0 63 = at_ at hm hml
  have HN := hide (And.intro n1 (And.intro n2 (And.intro l1 l2)))
  clear n1 n2 l1 l2
  go_enter Try.func3, Try.ntmps3
  go_wp2_with fail
  refine K1.mono ?_
  rintro e w1 ⟨rfl, L, d1, f1, s1⟩
  simp only [World.size_alloc] at d1 s1
  have hs1 := f1.size
  simp only [World.size_alloc] at hs1
  have cA : w1.cell? ⟨w.heap.size, 0, none⟩ = some (.int .i64 a0) := by
    rw [f1.cell (p := ⟨w.heap.size, 0, none⟩) (by simp <;> omega) (fun h => h), World.cell?_alloc_lt _ _ _ (by simp <;> omega), World.cell?_alloc_lt _ _ _ (by simp), World.cell?_alloc_new]; rfl
  have zA : w1.frozen? ⟨w.heap.size, 0, none⟩ = false := by
    rw [f1.frozen (p := ⟨w.heap.size, 0, none⟩) (by simp <;> omega) (fun h => h), World.frozen?_alloc_old _ _ _ (by simp <;> omega), World.frozen?_alloc_old _ _ _ (by simp), World.frozen?_alloc_new]
  have hlt : w.heap.size < w1.heap.size := by omega
  have cA' : (w1.alloc (.cells #[ptr (w.heap.size + 1 + 1 + 1 + 3)] 23)).cell? ⟨w.heap.size, 0, none⟩ = some (.int .i64 a0) := (World.cell?_alloc_lt _ _ _ hlt).trans cA
  have zA' : (w1.alloc (.cells #[ptr (w.heap.size + 1 + 1 + 1 + 3)] 23)).frozen? ⟨w.heap.size, 0, none⟩ = false := (World.frozen?_alloc_old _ _ _ (by simp <;> omega)).trans zA
  have D1 := hide d1; have F1 := hide f1; have S1 := hide s1
  clear d1 f1 s1 K1
  go_wp2_with fail
  simp only [arr64_lit]
  have d1 := unhide D1
  have f1 := unhide F1
  have s1 := unhide S1
  have nb : ∀ k, foot (w.heap.size + 1 + 1 + 1 + 3) L k → k < w1.heap.size := d1.lt
  have dV : DevL (linesV w1 w.heap.size (w.heap.size + 1 + 1 + 1 + 3) at_) (w.heap.size + 1 + 1 + 1 + 3) L (Ab.fresh 8) := d1.kept (linesV_fr w1 w.heap.size _ at_) (fun k hk e => by have := s1 k hk; omega)
  have hsz := linesV_size w1 w.heap.size (w.heap.size + 1 + 1 + 1 + 3) at_
  obtain ⟨v0, v1, v2, v3⟩ := linesV_heap w1 w.heap.size (w.heap.size + 1 + 1 + 1 + 3) at_
  have f0 : Fr (fun _ => False) w w1 := ((((Fr.refl _ w).alloc _).alloc _).alloc _).trans f1
  have fV : Fr (fun _ => False) w (linesV w1 w.heap.size (w.heap.size + 1 + 1 + 1 + 3) at_) := f0.trans' (linesV_fr w1 w.heap.size _ at_) (fun k hk => .inr (by omega))
  have cAV : (linesV w1 w.heap.size (w.heap.size + 1 + 1 + 1 + 3) at_).cell? ⟨w.heap.size, 0, none⟩ = some (.int .i64 at_) := by
    rw [World.cell?_alloc_lt _ _ _ (by simp <;> omega), World.cell?_alloc_lt _ _ _ (by simp <;> omega), World.cell?_alloc_lt _ _ _ (by simp <;> omega), World.cell?_alloc_lt _ _ _ (by simp <;> omega)]
    exact World.cell?_setCell_same _ _ _ cA
  have cB1 : w1.cell? ⟨w.heap.size + 1, 0, none⟩ = some (.slice a1 len1 cap1) := by
    rw [f1.cell (p := ⟨w.heap.size + 1, 0, none⟩) (by simp <;> omega) (fun h => h), World.cell?_alloc_lt _ _ _ (by simp <;> omega)]
    have := World.cell?_alloc_new (w.alloc (.cells #[.int .i64 a0] 3)) #[.slice a1 len1 cap1] 22 0
    rw [World.size_alloc] at this; exact this
  have cH1 : w1.cell? ⟨w.heap.size + 1 + 1, 0, none⟩ = some (.slice a2 len2 cap2) := by
    rw [f1.cell (p := ⟨w.heap.size + 1 + 1, 0, none⟩) (by simp <;> omega) (fun h => h)]
    have := World.cell?_alloc_new ((w.alloc (.cells #[.int .i64 a0] 3)).alloc (.cells #[.slice a1 len1 cap1] 22)) #[.slice a2 len2 cap2] 22 0
    rw [World.size_alloc, World.size_alloc] at this; exact this
  have cBV := (linesV_fr w1 w.heap.size (w.heap.size + 1 + 1 + 1 + 3) at_).cell' cB1 (by simp)
  have cHV := (linesV_fr w1 w.heap.size (w.heap.size + 1 + 1 + 1 + 3) at_).cell' cH1 (by simp <;> omega)
  have cDV : (linesV w1 w.heap.size (w.heap.size + 1 + 1 + 1 + 3) at_).cell? ⟨w1.heap.size, 0, none⟩ = some (ptr (w.heap.size + 1 + 1 + 1 + 3)) := by rw [cell_of_row _ _ _ _ _ _ v0]; rfl
  have fb := boxed_fr (linesV w1 w.heap.size (w.heap.size + 1 + 1 + 1 + 3) at_) 0
  have hb2 := boxed_size (linesV w1 w.heap.size (w.heap.size + 1 + 1 + 1 + 3) at_) 0
  have K2 := tell_ok (word := 0) (first := #[]) (cap := #[ptr (w.heap.size + 1), ptr w1.heap.size, ptr (w1.heap.size + 1 + 1), ptr w.heap.size, ptr (w1.heap.size + 1), ptr (w.heap.size + 1 + 1), ptr (w1.heap.size + 1 + 1 + 1)]) enters11 dV
    (G := g3 (w1.heap.size + 1 + 1) (w1.heap.size + 1) (w1.heap.size + 1 + 1 + 1) 28 64 (fun _ => 0) (fun _ => 0) true) (fun A' G' => ∃ f s, G' = g3 (w1.heap.size + 1 + 1) (w1.heap.size + 1) (w1.heap.size + 1 + 1 + 1) 28 64 f s true)
    (fun k o e => by
      by_cases e3 : k = w1.heap.size + 1 + 1 + 1
      · subst e3; rw [g3_O] at e; cases e; exact ⟨v3, fun h => by have := nb _ h; omega⟩
      · by_cases e2 : k = w1.heap.size + 1
        · subst e2; rw [g3_S (by omega)] at e; cases e; exact ⟨v1, fun h => by have := nb _ h; omega⟩
        · by_cases e1 : k = w1.heap.size + 1 + 1
          · subst e1; rw [g3_N (by omega) (by omega)] at e; cases e; exact ⟨v2, fun h => by have := nb _ h; omega⟩
          · rw [g3_other e1 e2 e3] at e; cases e)
    (fun A' G' p k => by obtain ⟨f, s, rfl⟩ := p; exact g3_dom f s true k)
    (fun a => (lines1 (pB := w.heap.size + 1) (pd := w1.heap.size) (pA := w.heap.size) (pH := w.heap.size + 1 + 1) (at_ := at_) (by omega) a (by omega) (by omega) (by omega)
      (fb.cell' cDV (fun h => h)) (fun h => by have := nb _ h; omega) ⟨by omega, by omega, by omega⟩ (fb.cell' cAV (fun h => h)) (fun h => by have := s1 _ h; omega) ⟨by omega, by omega, by omega⟩
      ((unhide HN).1.sees (unhide HN).2.2.1 (fV.trans fb) (fb.cell' cBV (fun h => h)) (fun h => by have := s1 _ h; omega) (g3_other (by omega) (by omega) (by omega)) (fun k hk h => by have := s1 _ h; omega) (fun k hk => g3_other (by omega) (by omega) (by omega)))
      ((unhide HN).2.1.sees (unhide HN).2.2.2 (fV.trans fb) (fb.cell' cHV (fun h => h)) (fun h => by have := s1 _ h; omega) (g3_other (by omega) (by omega) (by omega)) (fun k hk h => by have := s1 _ h; omega) (fun k hk => g3_other (by omega) (by omega) (by omega)))).mono (by
      rintro e w' ⟨rfl, f, s, A', a'⟩
      exact ⟨⟨_, rfl⟩, A', _, ⟨f, s, rfl⟩, a'⟩))
  refine K2.mono ?_
  rintro e w2 ⟨rfl, A', G', ⟨f, s, rfl⟩, a2⟩
  have o2 : w2.cell? ⟨w1.heap.size + 1 + 1 + 1, 0, none⟩ = some (.bool true) := a2.gcell g3_O 0
  have f2 : Fr (fun _ => False) w w2 := fV.trans' a2.fr (fun k hk => by
    rcases hk with h | h
    · exact .inr (by have := s1 k h; omega)
    · by_cases hk : k < w.heap.size
      · rw [g3_other (by omega) (by omega) (by omega)] at h; cases h
      · exact .inr (by omega))
  have K3 := awake_ok w2
  have F2 := hide f2
  clear K2 a2 f2 dV d1 f1 s1 nb hsz v0 v1 v2 v3 f0 fV cAV cB1 cH1 cBV cHV cDV fb hb2 HN D1 F1 S1 cA zA cA' zA'
  go_wp2_with fail
  refine K3.mono ?_
  rintro e w3 ⟨rfl, f3⟩
  have F3 := hide f3
  clear f3 K3
  go_wp2
  go_ret
  exact ⟨rfl, (unhide F2).trans (unhide F3)⟩
end Go.Proofs.Ytmhlbhbakfcdeaa
