/- awake: what the document fixes. -/
import Derived.Test.YtmhlbhbakfcdeaaTell
namespace Go.Proofs.Ytmhlbhbakfcdeaa
open Go.RowKit

/-- One block of another's: a truth. -/
def boolG (po : Nat) (x : Bool) : Nat → Option Obj := upd noG po (some (.cells #[.bool x] 4))
theorem boolG_at (po : Nat) (x : Bool) : boolG po x po = some (.cells #[.bool x] 4 (0, 0)) := upd_same _ _ _
theorem boolG_other (po : Nat) (x : Bool) {k : Nat} (h : k ≠ po) : boolG po x k = none := upd_other _ _ h
theorem boolG_set (po : Nat) (x y : Bool) : upd (boolG po x) po (some (.cells (#[Value.bool x].setIfInBounds 0 (.bool y)) 4 (0, 0))) = boolG po y := by
  funext k
  by_cases e : k = po
  · subst e; rw [upd_same, boolG_at]; rfl
  · rw [upd_other _ _ e, boolG_other _ _ e, boolG_other _ _ e]

theorem At.setBool {w0 w : World} {b po : Nat} {F : Nat → Prop} {A : Ab} {x : Bool} (h : At w0 b F (boolG po x) w A) (y : Bool) : At w0 b F (boolG po y) (w.setCell ⟨po, 0, none⟩ (.bool y)) A := by
  have := h.setCell (boolG_at po x) 0 (.bool y)
  rwa [boolG_set] at this

/-- awake's devices, one behind the other. -/
def W1 : Ab := (Ab.fresh 1).tick.store 1 5
def W2 : Ab := W1.powered false (fun _ => false)
def W3 : Ab := W2.tick.store 1 5
def W4 : Ab := W3.tick.sendLine 0
def W5 : Ab := W4.tick.fenced
def W6 : Ab := W5.powered false (fun _ => false)
def W7 : Ab := W6.tick.store 1 6
def W8 : Ab := W7.powered false (nm (fun _ => 1) 1)

set_option maxHeartbeats 1000000 in
theorem awake1 {w : World} {b pd po : Nat} {F : Nat → Prop} {x : Bool} (h : At w b F (boolG po x) w (Ab.fresh 1)) (hd : w.cell? ⟨pd, 0, none⟩ = some (ptr b)) (nd : ¬ F pd) (hpo : pd ≠ po) :
    Calls Try.prog 38 #[ptr pd, ptr po] w fun e w' => e = .returned (.tuple #[]) ∧ At w b F (boolG po true) w' W8 := by
  have H0 := hide h
  have hb := World.block_lt_of_cell? _ _ hd
  have K1 : Calls Try.prog 12 #[ptr b, .int .i64 1, .int .u64 5] w fun e w' => e = .returned (.tuple #[]) ∧ At w b F (boolG po x) w' W1 := at_store h ⟨rfl, by decide, by decide, by decide⟩ 1 (by decide) 5
  clear h
  go_enter Try.func38, Try.ntmps38
  go_wp2_with fail
  refine K1.mono ?_
  rintro e w1 ⟨rfl, h1⟩
  have d1 := h1.cell hd nd (boolG_other _ _ hpo)
  have K2 : Calls Try.prog 16 #[ptr b, .bool false, .slice none 0 0] w1 fun e w' => e = .returned (.tuple #[]) ∧ At w b F (boolG po x) w' W2 := at_power_nil h1 (by decide) false
  have HH := hide h1; clear h1 K1 H0
  go_wp2_with fail
  refine K2.mono ?_
  rintro e w2 ⟨rfl, h2⟩
  have d2 := h2.cell hd nd (boolG_other _ _ hpo)
  have o2 : w2.cell? ⟨po, 0, none⟩ = some (.bool x) := h2.gcell (boolG_at po x) 0
  have z2 := h2.gfrozen (boolG_at po x) 0
  have K3 : Calls Try.prog 15 #[ptr b, .int .i64 1] w2 fun e w' => e = .returned (.int .u64 0) ∧ w' = w2 := at_load h2 rfl 1 (by decide)
  have H2 := hide h2; clear h2 K2 HH d1
  go_wp2_with fail
  refine K3.mono ?_
  rintro e w3 ⟨rfl, rfl⟩
  have h3 := (unhide H2).setBool true
  have d3 := h3.cell hd nd (boolG_other _ _ hpo)
  have K4 : Calls Try.prog 12 #[ptr b, .int .i64 1, .int .u64 5] _ fun e w' => e = .returned (.tuple #[]) ∧ At w b F (boolG po true) w' W3 := at_store h3 ⟨rfl, by decide, by decide, by decide⟩ 1 (by decide) 5
  clear h3 H2 K3
  go_wp2_with fail
  refine K4.mono ?_
  rintro e w4 ⟨rfl, h4⟩
  have d4 := h4.cell hd nd (boolG_other _ _ hpo)
  have K5 : Calls Try.prog 13 #[ptr b, .int .i64 0] w4 fun e w' => e = .returned (.tuple #[]) ∧ At w b F (boolG po true) w' W4 := at_flush h4 ⟨rfl, by decide, by decide, by decide⟩ (by decide) 0 (by decide)
  clear h4 K4 d3 d2 o2 z2
  go_wp2_with fail
  refine K5.mono ?_
  rintro e w5 ⟨rfl, h5⟩
  have d5 := h5.cell hd nd (boolG_other _ _ hpo)
  have K6 : Calls Try.prog 14 #[ptr b] w5 fun e w' => e = .returned (.tuple #[]) ∧ At w b F (boolG po true) w' W5 := at_fence h5 ⟨rfl, by decide, by decide, by decide⟩ (by decide)
  clear h5 K5 d4
  go_wp2_with fail
  refine K6.mono ?_
  rintro e w6 ⟨rfl, h6⟩
  have d6 := h6.cell hd nd (boolG_other _ _ hpo)
  have K7 : Calls Try.prog 16 #[ptr b, .bool false, .slice none 0 0] w6 fun e w' => e = .returned (.tuple #[]) ∧ At w b F (boolG po true) w' W6 := at_power_nil h6 (by decide) false
  clear h6 K6 d5
  go_wp2_with fail
  refine K7.mono ?_
  rintro e w7 ⟨rfl, h7⟩
  have d7 := h7.cell hd nd (boolG_other _ _ hpo)
  have o7 : w7.cell? ⟨po, 0, none⟩ = some (.bool true) := h7.gcell (boolG_at po true) 0
  have z7 := h7.gfrozen (boolG_at po true) 0
  have K8 : Calls Try.prog 15 #[ptr b, .int .i64 1] w7 fun e w' => e = .returned (.int .u64 5) ∧ w' = w7 := at_load h7 rfl 1 (by decide)
  have H7 := hide h7; clear h7 K7 d6
  go_wp2_with fail
  refine K8.mono ?_
  rintro e w8 ⟨rfl, rfl⟩
  have h8 := (unhide H7).setBool true
  have d8 := h8.cell hd nd (boolG_other _ _ hpo)
  have K9 : Calls Try.prog 12 #[ptr b, .int .i64 1, .int .u64 6] _ fun e w' => e = .returned (.tuple #[]) ∧ At w b F (boolG po true) w' W7 := at_store h8 ⟨rfl, by decide, by decide, by decide⟩ 1 (by decide) 6
  clear h8 H7 K8
  go_wp2_with fail
  refine K9.mono ?_
  rintro e w9 ⟨rfl, h9⟩
  have d9 := h9.cell hd nd (boolG_other _ _ hpo)
  have H9 := hide h9; clear h9 K9 d8 d7 o7 z7
  go_wp2_with fail
  have h10 := (unhide H9).alloc (.cells #[.int .i64 1] 3)
  have K10 : Calls Try.prog 16 #[ptr b, .bool false, .slice (some ⟨w9.heap.size, 0, none⟩) 1 1] (w9.alloc (.cells #[.int .i64 1] 3)) fun e w' => e = .returned (.tuple #[]) ∧ At w b F (boolG po true) w' W8 :=
    at_power h10 (by decide) false (some ⟨w9.heap.size, 0, none⟩) 1 1 (fun _ => 1) (by decide) (fun k hk => ⟨w9.heap.size, 0, rfl, by
      have hk0 : k = 0 := by omega
      subst hk0; rw [World.cell?_alloc_new]; rfl⟩)
  clear h10 H9
  refine K10.mono ?_
  rintro e w10 ⟨rfl, h10⟩
  have d10 := h10.cell hd nd (boolG_other _ _ hpo)
  have o10 : w10.cell? ⟨po, 0, none⟩ = some (.bool true) := h10.gcell (boolG_at po true) 0
  have z10 := h10.gfrozen (boolG_at po true) 0
  have K11 : Calls Try.prog 15 #[ptr b, .int .i64 1] w10 fun e w' => e = .returned (.int .u64 6) ∧ w' = w10 := at_load h10 rfl 1 (by decide)
  have H10 := hide h10; clear h10 K10 d9
  go_wp2_with fail
  refine K11.mono ?_
  rintro e w11 ⟨rfl, rfl⟩
  have h11 := (unhide H10).setBool true
  have H11 := hide h11; clear h11 H10 K11
  go_wp2
  go_end0
  exact ⟨rfl, unhide H11⟩

set_option maxHeartbeats 400000 in
theorem awake2 {w : World} {b pd : Nat} {F : Nat → Prop} {G : Nat → Option Obj} {A : Ab} {w0 : World} (h : At w0 b F G w A) (hn : A.n = 1) (hd : w.cell? ⟨pd, 0, none⟩ = some (ptr b)) :
    Calls Try.prog 39 #[ptr pd] w fun e w' => e = .panicked (wrong 9) ∧ w' = w := by
  have K := at_wrong h 9 (by rw [hn]; omega)
  clear h hn
  go_enter Try.func39, Try.ntmps39
  go_wp2_with fail
  refine K.mono ?_
  rintro e w' ⟨rfl, rfl⟩
  exact ⟨rfl, rfl, rfl⟩

theorem W8n : W8.n = 1 := rfl

set_option maxHeartbeats 1000000 in
theorem awake_ok (w : World) : Calls Try.prog 17 #[] w fun e w' => e = .returned (.bool true) ∧ Fr (fun _ => False) w w' := by
  have hmf : ∀ (fn : Fn) (first cap : Array Value) (w : World), (Instr.makeFunc fn first cap).run Try.prog w = .ok (.func fn first cap) w := fun _ _ _ _ => rfl
  have K1 := new_one w
  go_enter Try.func17, Try.ntmps17
  go_wp2_with fail
  refine K1.mono ?_
  rintro e w1 ⟨rfl, L, d1, f1, s1⟩
  have hs1 := f1.size
  have D1 := hide d1; have F1 := hide f1; have S1 := hide s1
  clear d1 f1 s1 K1
  go_wp2_with fail
  have d1 := unhide D1
  have dV := (d1.keptF ((Fr.refl _ w1).alloc (.cells #[ptr (w.heap.size + 3)] 23))).keptF ((Fr.refl _ _).alloc (.cells #[.bool true] 4))
  have nb : ∀ k, foot (w.heap.size + 3) L k → k < w1.heap.size := d1.lt
  have K2 := tell_ok (word := 0) (first := #[]) (cap := #[ptr w1.heap.size, ptr (w1.heap.size + 1)]) enters38 dV (G := boolG (w1.heap.size + 1) true) (fun A' G' => A' = W8 ∧ G' = boolG (w1.heap.size + 1) true)
    (fun k o e => by
      by_cases ek : k = w1.heap.size + 1
      · subst ek
        rw [boolG_at] at e
        cases e
        refine ⟨?_, fun h => by have := nb _ h; omega⟩
        have := heap_alloc_new (w1.alloc (.cells #[ptr (w.heap.size + 3)] 23)) (.cells #[.bool true] 4)
        rwa [World.size_alloc] at this
      · rw [boolG_other _ _ ek] at e; cases e)
    (fun A' G' p k => by rw [p.2])
    (fun a => (awake1 (pd := w1.heap.size) (po := w1.heap.size + 1) a (by
        rw [(boxed_fr _ 0).cell (p := ⟨w1.heap.size, 0, none⟩) (by simp <;> omega) (fun h => h), World.cell?_alloc_lt _ _ _ (by simp), World.cell?_alloc_new]; rfl) (fun h => by have := nb _ h; omega) (by omega)).mono (by
      rintro e w' ⟨rfl, a'⟩
      exact ⟨⟨_, rfl⟩, _, _, ⟨rfl, rfl⟩, a'⟩))
  clear dV d1
  refine K2.mono ?_
  rintro e w2 ⟨rfl, A', G', ⟨rfl, rfl⟩, a2⟩
  have hs2 := a2.fr.size
  simp only [World.size_alloc] at hs2
  have c2 : w2.cell? ⟨w1.heap.size, 0, none⟩ = some (ptr (w.heap.size + 3)) := a2.cell (by rw [World.cell?_alloc_lt _ _ _ (by simp), World.cell?_alloc_new]; rfl) (fun h => by have : w1.heap.size < w1.heap.size := nb _ h; omega) (boolG_other _ _ (by show w1.heap.size ≠ _; omega))
  have o2 : w2.cell? ⟨w1.heap.size + 1, 0, none⟩ = some (.bool true) := a2.gcell (boolG_at _ _) 0
  have K3 : Calls Try.prog 36 #[ptr (w.heap.size + 3)] w2 fun e w' => e = .returned (.int .i64 8) ∧ w' = w2 := at_words a2
  have A2 := hide a2; have NB := hide nb
  clear a2 K2 nb
  go_wp2_with fail
  refine K3.mono ?_
  rintro e w3 ⟨rfl, rfl⟩
  clear K3
  go_wp2_with fail
  obtain ⟨L2, d2, hL2⟩ := (unhide A2).ex
  have K4 := tell_wrong (word := 9) (first := #[]) (cap := #[ptr w1.heap.size]) enters39 d2 (G := noG) (fun A' G' => G' = noG) (fun k o e => by cases e) (fun A' G' p k => by rw [p])
    (fun a => (awake2 (pd := w1.heap.size) a W8n (by
      rw [(boxed_fr _ 9).cell (p := ⟨w1.heap.size, 0, none⟩) (by simp <;> omega) (fun h => h)]; exact c2)).mono (by
      rintro e w' ⟨rfl, rfl⟩
      exact ⟨rfl, _, _, rfl, a⟩))
  clear d2
  have HL2 := hide hL2; clear hL2
  refine K4.mono ?_
  rintro e w4 ⟨rfl, A', G', rfl, a4⟩
  have f4 := a4.fr
  have f2 := (unhide A2).fr
  have HF4 := hide f4; have HF2 := hide f2
  clear K4 a4 f4 f2 A2
  go_wp2
  go_ret
  refine ⟨rfl, ?_⟩
  have g1 : Fr (fun _ => False) w ((w1.alloc (.cells #[ptr (w.heap.size + 3)] 23)).alloc (.cells #[.bool true] 4)) := ((unhide F1).alloc _).alloc _
  have g2 : Fr (fun _ => False) w w3 := g1.trans' (unhide HF2) (fun k hk => by
    rcases hk with h | h
    · exact .inr (unhide S1 k h)
    · by_cases ek : k = w1.heap.size + 1
      · exact .inr (by omega)
      · rw [boolG_other _ _ ek] at h; cases h)
  exact g2.trans' (unhide HF4) (fun k hk => by
    rcases hk with h | h
    · rcases unhide HL2 k h with x | x
      · exact .inr (unhide S1 k x)
      · simp only [World.size_alloc] at x; exact .inr (by omega)
    · cases h)
end Go.Proofs.Ytmhlbhbakfcdeaa
