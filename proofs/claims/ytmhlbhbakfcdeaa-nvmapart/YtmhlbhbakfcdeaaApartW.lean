/- NvmApart: the walk of the law's function. -/
import Derived.Test.YtmhlbhbakfcdeaaApartC
namespace Go.Proofs.Ytmhlbhbakfcdeaa
open Go.RowKit

theorem enters24 : Enters 24 := fun _ _ => by kernel_rfl

set_option maxHeartbeats 4000000 in
theorem apart_walk (a1 : Option Addr) (len1 cap1 : Nat) (z1 : Nat → Int) (a2 : Option Addr) (len2 cap2 : Nat) (z2 : Nat → Int) (a3 : Option Addr) (len3 cap3 : Nat) (z3 : Nat → Int) (w : World)
    (n1 : Nums w a1 len1 z1) (n2 : Nums w a2 len2 z2) (n3 : Nums w a3 len3 z3) (l1 : len1 ≤ maxLen) (l2 : len2 ≤ maxLen) (l3 : len3 ≤ maxLen) :
    Calls Try.prog 6 #[.slice a1 len1 cap1, .slice a2 len2 cap2, .slice a3 len3 cap3] w fun e w' => e = .returned (.bool true) ∧ Fr (fun _ => False) w w' := by
  have hmf : ∀ (fn : Fn) (first cap : Array Value) (w : World), (Instr.makeFunc fn first cap).run Try.prog w = .ok (.func fn first cap) w := fun _ _ _ _ => rfl
  have K1 := new_four (((w.alloc (.cells #[.slice a1 len1 cap1] 22)).alloc (.cells #[.slice a2 len2 cap2] 22)).alloc (.cells #[.slice a3 len3 cap3] 22))
  have HN := hide (And.intro (And.intro n1 l1) (And.intro (And.intro n2 l2) (And.intro n3 l3)))
  clear n1 n2 n3 l1 l2 l3
  go_enter Try.func6, Try.ntmps6
  go_wp2_with fail
  refine K1.mono ?_
  rintro e w1 ⟨rfl, L, d1, f1, s1⟩
  simp only [World.size_alloc] at d1 s1
  have hs1 := f1.size
  simp only [World.size_alloc] at hs1
  have D1 := hide d1; have F1 := hide f1; have S1 := hide s1
  clear d1 f1 s1 K1
  go_wp2_with fail
  have d1 := unhide D1
  have f1 := unhide F1
  have s1 := unhide S1
  generalize hbb : w.heap.size + 1 + 1 + 1 + 3 = b at d1 s1
  have nb : ∀ k, foot b L k → k < w1.heap.size := d1.lt
  have fV1 : Fr (fun _ => False) w1 ((w1.alloc (.cells #[ptr b] 23)).alloc (.cells #[.bool true] 4)) := ((Fr.refl _ w1).alloc _).alloc _
  have dV := d1.keptF fV1
  have v1 : ((w1.alloc (.cells #[ptr b] 23)).alloc (.cells #[.bool true] 4)).heap[w1.heap.size + 1]? = some (.cells #[.bool true] 4) := by
    have := heap_alloc_new (w1.alloc (.cells #[ptr b] 23)) (.cells #[.bool true] 4)
    rwa [World.size_alloc] at this
  have cDV : ((w1.alloc (.cells #[ptr b] 23)).alloc (.cells #[.bool true] 4)).cell? ⟨w1.heap.size, 0, none⟩ = some (ptr b) := by
    rw [World.cell?_alloc_lt _ _ _ (by simp), World.cell?_alloc_new]; rfl
  have f0 : Fr (fun _ => False) w w1 := ((((Fr.refl _ w).alloc _).alloc _).alloc _).trans f1
  have fV := f0.trans fV1
  have cA1 : w1.cell? ⟨w.heap.size, 0, none⟩ = some (.slice a1 len1 cap1) := by
    rw [f1.cell (p := ⟨w.heap.size, 0, none⟩) (by simp; omega) (fun h => h), World.cell?_alloc_lt _ _ _ (by simp; omega), World.cell?_alloc_lt _ _ _ (by simp), World.cell?_alloc_new]; rfl
  have cB1 : w1.cell? ⟨w.heap.size + 1, 0, none⟩ = some (.slice a2 len2 cap2) := by
    rw [f1.cell (p := ⟨w.heap.size + 1, 0, none⟩) (by simp) (fun h => h), World.cell?_alloc_lt _ _ _ (by simp)]
    have := cell_of_row ((w.alloc (.cells #[.slice a1 len1 cap1] 22)).alloc (.cells #[.slice a2 len2 cap2] 22)) (w.heap.size + 1) 0 #[.slice a2 len2 cap2] 22 (0, 0) (by have := heap_alloc_new (w.alloc (.cells #[.slice a1 len1 cap1] 22)) (.cells #[.slice a2 len2 cap2] 22); rwa [World.size_alloc] at this)
    rw [this]; rfl
  have cK1 : w1.cell? ⟨w.heap.size + 1 + 1, 0, none⟩ = some (.slice a3 len3 cap3) := by
    rw [f1.cell (p := ⟨w.heap.size + 1 + 1, 0, none⟩) (by simp) (fun h => h)]
    have := cell_of_row (((w.alloc (.cells #[.slice a1 len1 cap1] 22)).alloc (.cells #[.slice a2 len2 cap2] 22)).alloc (.cells #[.slice a3 len3 cap3] 22)) (w.heap.size + 1 + 1) 0 #[.slice a3 len3 cap3] 22 (0, 0) (by have := heap_alloc_new ((w.alloc (.cells #[.slice a1 len1 cap1] 22)).alloc (.cells #[.slice a2 len2 cap2] 22)) (.cells #[.slice a3 len3 cap3] 22); rwa [World.size_alloc, World.size_alloc] at this)
    rw [this]; rfl
  have cAV := fV1.cell' cA1 (fun h => h)
  have cBV := fV1.cell' cB1 (fun h => h)
  have cKV := fV1.cell' cK1 (fun h => h)
  have hszV : ((w1.alloc (.cells #[ptr b] 23)).alloc (.cells #[.bool true] 4)).heap.size = w1.heap.size + 2 := by simp
  generalize hVV : (w1.alloc (.cells #[ptr b] 23)).alloc (.cells #[.bool true] 4) = V at fV1 dV v1 cDV fV cAV cBV cKV hszV
  have fb := boxed_fr V 0
  have K2 := tell_ok (word := 0) (first := #[]) (cap := #[ptr w.heap.size, ptr w1.heap.size, ptr (w.heap.size + 1), ptr (w.heap.size + 1 + 1), ptr (w1.heap.size + 1)]) enters24 dV
    (G := boolG (w1.heap.size + 1) true) (fun A' G' => 1 ≤ A'.steps ∧ G' = boolG (w1.heap.size + 1) true)
    (fun k o e => by
      by_cases ek : k = w1.heap.size + 1
      · subst ek; rw [boolG_at] at e; cases e; exact ⟨v1, fun h => by have := nb _ h; omega⟩
      · rw [boolG_other _ _ ek] at e; cases e)
    (fun A' G' p k => by obtain ⟨_, rfl⟩ := p; rfl)
    (fun a => (apart1 (pA := w.heap.size) (pd := w1.heap.size) (pB := w.heap.size + 1) (pK := w.heap.size + 1 + 1) a (fb.cell' cDV (fun h => h)) (fun h => by have := nb _ h; omega) (by omega)
      ((unhide HN).1.1.sees (unhide HN).1.2 (fV.trans fb) (fb.cell' cAV (fun h => h)) (fun h => by have := s1 _ h; omega) (boolG_other _ _ (by omega)) (fun k hk h => by have := s1 _ h; omega) (fun k hk => boolG_other _ _ (by omega)))
      ((unhide HN).2.1.1.sees (unhide HN).2.1.2 (fV.trans fb) (fb.cell' cBV (fun h => h)) (fun h => by have := s1 _ h; omega) (boolG_other _ _ (by omega)) (fun k hk h => by have := s1 _ h; omega) (fun k hk => boolG_other _ _ (by omega)))
      ((unhide HN).2.2.1.sees (unhide HN).2.2.2 (fV.trans fb) (fb.cell' cKV (fun h => h)) (fun h => by have := s1 _ h; omega) (boolG_other _ _ (by omega)) (fun k hk h => by have := s1 _ h; omega) (fun k hk => boolG_other _ _ (by omega)))).mono (by
      rintro e w' ⟨rfl, A', a', hst⟩
      exact ⟨⟨_, rfl⟩, A', _, ⟨hst, rfl⟩, a'⟩))
  refine K2.mono ?_
  rintro e w2 ⟨rfl, A, G', ⟨hst, rfl⟩, aT⟩
  have HFR : Hid (Fr (fun _ => False) w w2) := fV.trans' aT.fr (fun k hk => by
    rcases hk with h | h
    · exact .inr (by have := s1 k h; omega)
    · by_cases ek : k = w1.heap.size + 1
      · exact .inr (by omega)
      · rw [boolG_other _ _ ek] at h; cases h)
  have co := aT.gcell (boolG_at (w1.heap.size + 1) true) 0
  have cd := aT.cell cDV (fun h => by have := nb w1.heap.size h; omega) (boolG_other _ _ (by show w1.heap.size ≠ _; omega))
  have K3 : Calls Try.prog 23 #[ptr b] w2 fun e w' => e = .returned (.int .i64 A.steps) ∧ w' = w2 := by
    obtain ⟨L', d', _⟩ := aT.ex
    exact steps_any b A.steps w2 d'.c4
  have hge : decide ((1 : Int) ≤ A.steps) = true := by simp; exact hst
  have H3 := hide K3
  clear K2 K3 aT dV d1 f1 s1 nb v1 f0 fV fV1 cA1 cB1 cK1 cAV cBV cKV fb HN D1 F1 S1 hVV cDV
  go_wp2_with fail
  refine (unhide H3).mono ?_
  rintro e w3 ⟨rfl, rfl⟩
  go_wp2_with fail
  refine (awake_ok w3).mono ?_
  rintro e w4 ⟨rfl, f4⟩
  have F4 := hide f4
  clear f4 H3
  go_wp2
  go_ret
  exact ⟨rfl, (unhide HFR).trans (unhide F4)⟩
end Go.Proofs.Ytmhlbhbakfcdeaa
