/- GuardSame, walked. -/
import Derived.Test.YtebfocfofoajkaaFinally
import Derived.Test.YtebfocfofoajkaaAwake
import Derived.Test.YtebfocfofoajkaaNums
import Derived.LoopTactic
import Derived.Laws.EntriesVeiled
import Derived.Deep.RegionWith
namespace Go.Proofs.Ytebfocfofoajkaa
open Go.RowKit

/-- The list that is panicked with. -/
abbrev own1 (o : Nat) : Value := .slice (some ⟨o, 0, none⟩) 1 1

/-- From w on the function value f panics with the list, and turns nothing that was there. -/
def Good (o : Nat) (f : Value) (w : World) : Prop := ∀ w', Still w w' → Runs f w' fun h w'' => Still w' w'' ∧ h = .bad 22 (own1 o)

theorem Good.keep {o : Nat} {f : Value} {w w1 : World} (g : Good o f w) (f1 : Still w w1) : Good o f w1 := fun w' h => g w' (f1.trans h)

theorem good_try {o : Nat} {f : Value} {w : World} (g : Good o f w) :
    Calls Try.prog 17 #[f] w fun e w' => ∃ h : How, e = .returned (.tuple #[h.v, .bool h.is]) ∧ Still w w' ∧ h = .bad 22 (own1 o) :=
  try_fr (F := fun _ => False) (S := fun h _ => h = .bad 22 (own1 o)) (fun _ h => h.elim) ((g _ ((Fr.refl _ w).alloc box)).mono fun _ _ ⟨h1, h2⟩ => ⟨h1, fun _ _ => h2⟩)

theorem enters9 : Enters 9 := fun _ _ => by kernel_rfl
theorem enters10 : Enters 10 := fun _ _ => by kernel_rfl
theorem enters12 : Enters 12 := fun _ _ => by kernel_rfl
theorem enters14 : Enters 14 := fun _ _ => by kernel_rfl
theorem enters16 : Enters 16 := fun _ _ => by kernel_rfl

set_option maxHeartbeats 400000 in
theorem same1_ok {q o : Nat} {w : World} (h : w.heap[q]? = some (.cells #[own1 o] 22)) :
    Calls Try.prog 9 #[ptr q] w fun e w' => ∃ h : How, h.ended e ∧ Still w w' ∧ h = .bad 22 (own1 o) := by
  have c0 := cell_of_obj h 0
  clear h
  go_enter Try.func9, Try.ntmps9
  go_wp2
  exact ⟨rfl, .bad _ _, How.ended_one _ _, Fr.refl _ w, rfl⟩
theorem same1_good {q o : Nat} {w : World} (h : w.heap[q]? = some (.cells #[own1 o] 22)) : Good o (.func (.func 9) #[] #[ptr q]) w :=
  fun _ f => runs_of enters9 (same1_ok (f.obj h (fun h => h)))

set_option maxHeartbeats 400000 in
theorem same2_ok {o p : Nat} {g : Value} {w : World} (G : Good o g w) (h : w.heap[p]? = some (.cells #[g] 1)) :
    Calls Try.prog 10 #[ptr p] w fun e w' => ∃ h : How, h.ended e ∧ Still w w' ∧ h = .bad 22 (own1 o) := by
  have c0 := cell_of_obj h 0
  have K := hide (onlyS_raw (good_try G) (by rintro h w' ⟨_, rfl⟩; simp [How.known]))
  clear h G
  go_enter Try.func10, Try.ntmps10
  go_wp2_with fail
  refine (unhide K).mono ?_
  rintro e w1 ⟨h, he, f1, rfl⟩
  rcases he with ⟨h, _⟩ | ⟨_, rfl⟩
  · exact absurd h (by decide)
  · exact ⟨rfl, .bad _ _, How.ended_one _ _, f1, rfl⟩
set_option maxHeartbeats 400000 in
theorem same3_ok {o p : Nat} {g : Value} {w : World} (G : Good o g w) (h : w.heap[p]? = some (.cells #[g] 1)) :
    Calls Try.prog 12 #[ptr p] w fun e w' => ∃ h : How, h.ended e ∧ Still w w' ∧ h = .bad 22 (own1 o) := by
  have c0 := cell_of_obj h 0
  have K := hide (errno_raw (good_try G) (by rintro h w' ⟨_, rfl⟩; simp [How.known]))
  clear h G
  go_enter Try.func12, Try.ntmps12
  go_wp2_with fail
  refine (unhide K).mono ?_
  rintro e w1 ⟨h, he, f1, rfl⟩
  rcases he with ⟨h, _⟩ | ⟨_, rfl⟩
  · exact absurd h (by decide)
  · exact ⟨rfl, .bad _ _, How.ended_one _ _, f1, rfl⟩
set_option maxHeartbeats 400000 in
theorem same5_ok (w : World) : Calls Try.prog 16 #[] w fun e w' => ∃ h : How, h.ended e ∧ Still w w' ∧ h = .well := by
  go_enter Try.func16, Try.ntmps16
  go_wp2
  go_end0
  exact ⟨.well, rfl, Fr.refl _ w, rfl⟩
set_option maxHeartbeats 400000 in
theorem same4_ok {o p : Nat} {g : Value} {w : World} (G : Good o g w) (h : w.heap[p]? = some (.cells #[g] 1)) :
    Calls Try.prog 14 #[ptr p] w fun e w' => ∃ h : How, h.ended e ∧ Still w w' ∧ h = .bad 22 (own1 o) := by
  have c0 := cell_of_obj h 0
  have K := hide (finally_raw (g := .func (.func 16) #[] #[]) (R2 := fun h1 h2 w' => Still w w' ∧ h1 = .bad 22 (own1 o) ∧ h2 = .well) (G w (Fr.refl _ w))
    (fun h1 w1 ⟨f1, e1⟩ => runs_of enters16 ((same5_ok w1).mono fun _ _ ⟨h, he, f2, e2⟩ => ⟨h, he, f1.trans f2, e1, e2⟩)))
  clear h G
  go_enter Try.func14, Try.ntmps14
  go_wp2_with fail
  refine (unhide K).mono ?_
  rintro e w1 ⟨h1, h2, he, f1, rfl, rfl⟩
  obtain ⟨older, ho, rfl⟩ := he
  exact ⟨rfl, .bad _ _, ⟨older, ho, rfl⟩, f1, rfl⟩

theorem same_next {o p k : Nat} {g : Value} {w : World} (G : Good o g w) (h : w.heap[p]? = some (.cells #[g] 1)) (hk : k = 10 ∨ k = 12 ∨ k = 14) : Good o (.func (.func k) #[] #[ptr p]) w := by
  intro w' f
  have G' := G.keep f
  have h' := f.obj h (fun h => h)
  rcases hk with rfl | rfl | rfl
  · exact runs_of enters10 (same2_ok G' h')
  · exact runs_of enters12 (same3_ok G' h')
  · exact runs_of enters14 (same4_ok G' h')

theorem laid_own (v : Int) (w : World) : Still w ((w.alloc (.cells #[.int .i64 v] 3)).alloc (.cells #[own1 w.heap.size] 22)) ∧ ((w.alloc (.cells #[.int .i64 v] 3)).alloc (.cells #[own1 w.heap.size] 22)).heap[w.heap.size]? = some (.cells #[.int .i64 v] 3) ∧
    ((w.alloc (.cells #[.int .i64 v] 3)).alloc (.cells #[own1 w.heap.size] 22)).heap[w.heap.size + 1]? = some (.cells #[own1 w.heap.size] 22) := by
  have f2 : Still (w.alloc (.cells #[.int .i64 v] 3)) ((w.alloc (.cells #[.int .i64 v] 3)).alloc (.cells #[own1 w.heap.size] 22)) := (Fr.refl _ _).alloc _
  refine ⟨((Fr.refl _ w).alloc _).trans f2, f2.obj (obj_alloc_new w _) (fun h => h), ?_⟩
  have := obj_alloc_new (w.alloc (.cells #[.int .i64 v] 3)) (.cells #[own1 w.heap.size] 22)
  rwa [World.size_alloc] at this

theorem taL2 (x : Value) (w : World) : (Instr.typeAssert (.iface 22 x) 20 22 true).run Try.prog w = .ok (.tuple #[x, .bool true]) w := by kernel_rfl

set_option maxHeartbeats 4000000 in
theorem same_walk (a0 a1 : Int) (w : World) : Calls Try.prog 3 #[.int .i64 a0, .int .i64 a1] w fun e w' => e = .returned (.bool true) ∧ Still w w' := by
  have h1 := mf
  have t1 := taL2
  have hm := mask15 a0
  have hml := msk_le a0 15
  generalize msk a0 15 = n at hm hml
  obtain ⟨f0, o0, q0⟩ := laid_own a1 w
  have G0 := hide (same1_good q0)
  have F0 := hide f0; have O0 := hide o0; have Q0 := hide q0
  clear f0 o0 q0
  go_enter Try.func3, Try.ntmps3
  go_wp2
  go_loopw [6, 7] (fun f i wr => ∃ k j q : Nat, k ≤ n ∧ i = .int .i64 k ∧ f = .func (.func j) #[] #[ptr q] ∧ Good w.heap.size (.func (.func j) #[] #[ptr q]) wr ∧ Still ((w.alloc (.cells #[.int .i64 a1] 3)).alloc (.cells #[own1 w.heap.size] 22)) wr) (fun f i wr => n - (intOf i).toNat)
  case atStart => exact ⟨0, 9, w.heap.size + 1, Nat.zero_le _, rfl, rfl, unhide G0, Fr.refl _ _⟩
  case round =>
    obtain ⟨k, j, q, hk, rfl, rfl, hG, hF⟩ := hrel
    by_cases hlt : k < n
    · have hlt' : (k : Int) < n := by omega
      have f1 : Still wr (wr.alloc (.cells #[.func (.func j) #[] #[ptr q]] 1)) := (Fr.refl _ wr).alloc _
      have G1 : ∀ i, i = 10 ∨ i = 12 ∨ i = 14 → Good w.heap.size (.func (.func i) #[] #[ptr wr.heap.size]) (wr.alloc (.cells #[.func (.func j) #[] #[ptr q]] 1)) := fun _ hj => same_next (hG.keep f1) (obj_alloc_new wr _) hj
      have END : Hid (Still ((w.alloc (.cells #[.int .i64 a1] 3)).alloc (.cells #[own1 w.heap.size] 22)) (wr.alloc (.cells #[.func (.func j) #[] #[ptr q]] 1))) := hide (hF.trans f1)
      have HG := hide G1
      clear hG hF f1 G1
      have hm3 : (k : Int).tmod 3 = ((k % 3 : Nat) : Int) := by
        have h : (0 : Int) ≤ k := by omega
        rw [Int.tmod_eq_emod_of_nonneg h]; omega
      rcases (by omega : k % 3 = 0 ∨ k % 3 = 1 ∨ k % 3 = 2) with hr | hr | hr
      · rw [hr] at hm3
        clear hr
        go_wp2
        go_roundw
        case rel => exact ⟨k + 1, 10, wr.heap.size, by omega, by go_num, rfl, unhide HG 10 (by simp), unhide END⟩
        case measure => simp [intOf]; omega
      · rw [hr] at hm3
        clear hr
        go_wp2
        go_roundw
        case rel => exact ⟨k + 1, 12, wr.heap.size, by omega, by go_num, rfl, unhide HG 12 (by simp), unhide END⟩
        case measure => simp [intOf]; omega
      · rw [hr] at hm3
        clear hr
        go_wp2
        go_roundw
        case rel => exact ⟨k + 1, 14, wr.heap.size, by omega, by go_num, rfl, unhide HG 14 (by simp), unhide END⟩
        case measure => simp [intOf]; omega
    · have hlt' : ¬ (k : Int) < n := by omega
      have K := hide (good_try hG)
      have o1 := hF.obj (unhide O0) (fun h => h)
      have q1 := hF.obj (unhide Q0) (fun h => h)
      have F1 := hide ((unhide F0).trans hF); have O1 := hide o1; have Q1 := hide q1
      clear hG hF o1 q1
      go_wp2_with fail
      refine (unhide K).mono ?_
      rintro e w1 ⟨h, rfl, f1, rfl⟩
      simp only [How.v, How.is]
      have o2 := f1.obj (unhide O1) (fun h => h)
      have q2 := f1.obj (unhide Q1) (fun h => h)
      have oc := cell_of_obj o2 0; have oz := frozen_of_obj o2 0; have qc := cell_of_obj q2 0
      have F2 := hide ((unhide F1).trans f1); have O2 := hide o2; have Q2 := hide q2
      have g3 : Fr (fun k => k = w.heap.size) w1 (w1.setCell ⟨w.heap.size, 0, none⟩ (.int .i64 (wrap64 (a1 + 1)))) := (Fr.refl (fun k => k = w.heap.size) w1).setCell (.inl rfl) _
      have o3 := cell_of_obj (set_one (.int .i64 (wrap64 (a1 + 1))) o2) 0
      have q3 := cell_of_obj (g3.obj q2 (by omega)) 0
      have F3 := hide ((unhide F2).trans' g3 (fun k e => .inr (by omega)))
      clear K F1 O1 Q1 f1 o2 q2 g3
      go_wp2
      go_region_with (go_at_call 18; refine (awake_ok _).mono ?_; rintro e w4 ⟨rfl, f4⟩; have F4 := hide f4; clear f4)
      all_goals
        go_wp2
        go_ret
        exact ⟨rfl, (unhide F3).trans (unhide F4).undrew⟩
end Go.Proofs.Ytebfocfofoajkaa
