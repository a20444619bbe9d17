/- What an act does, and what tells it: does, bad, is. -/
import Derived.Test.YtebfocfofoajkabOnly
import Derived.BigQuiet
namespace Go.Proofs.Ytebfocfofoajkab
open Go.RowKit

/-- An act, as the law has it. -/
structure Deed where
  kind : Int
  n : Int
  s : ByteArray

abbrev Deed.val (a : Deed) : Value := .agg #[.int .i64 a.kind, .int .i64 a.n, .string a.s]
abbrev Deed.obj (a : Deed) : Obj := .cells #[.int .i64 a.kind, .int .i64 a.n, .string a.s] 25
def Deed.bad (a : Deed) : Bool := decide (1 ≤ a.kind ∧ a.kind ≤ 4)

/-- How a call of the act ended: what it panicked with; a list lies at B or above. -/
def Deed.tells (a : Deed) (B : Nat) (h : How) (w : World) : Prop :=
  (a.kind = 1 ∧ h = .bad 3 (.int .i64 a.n)) ∨ (a.kind = 2 ∧ h = .bad 9 (.string a.s)) ∨ (a.kind = 3 ∧ h = .bad 36 (.int .i64 a.n)) ∨
  (a.kind = 4 ∧ ∃ b, B ≤ b ∧ h = .bad 42 (.slice (some ⟨b, 0, none⟩) 1 1) ∧ w.heap[b]? = some (.cells #[.int .i64 a.n] 3)) ∨
  (¬ (1 ≤ a.kind ∧ a.kind ≤ 4) ∧ h = .well)

theorem Deed.tells.keep {a : Deed} {B : Nat} {h : How} {w w' : World} {F : Nat → Prop} (t : a.tells B h w) (fr : Fr F w w') (hF : ∀ k, F k → k < B) : a.tells B h w' := by
  rcases t with t | t | t | ⟨hk, b, hb, rfl, ho⟩ | t
  · exact .inl t
  · exact .inr (.inl t)
  · exact .inr (.inr (.inl t))
  · exact .inr (.inr (.inr (.inl ⟨hk, b, hb, rfl, fr.obj ho fun f => by have := hF _ f; omega⟩)))
  · exact .inr (.inr (.inr (.inr t)))
theorem Deed.tells.mono {a : Deed} {B C : Nat} {h : How} {w : World} (t : a.tells B h w) (hB : C ≤ B) : a.tells C h w := by
  rcases t with t | t | t | ⟨hk, b, hb, rfl, ho⟩ | t
  · exact .inl t
  · exact .inr (.inl t)
  · exact .inr (.inr (.inl t))
  · exact .inr (.inr (.inr (.inl ⟨hk, b, by omega, rfl, ho⟩)))
  · exact .inr (.inr (.inr (.inr t)))
theorem Deed.tells.known {a : Deed} {B : Nat} {h : How} {w : World} (t : a.tells B h w) : h.known := by
  rcases t with ⟨_, rfl⟩ | ⟨_, rfl⟩ | ⟨_, rfl⟩ | ⟨_, b, _, rfl, _⟩ | ⟨_, rfl⟩ <;> simp [How.known]
theorem Deed.tells.is {a : Deed} {B : Nat} {h : How} {w : World} (t : a.tells B h w) : h.is = a.bad := by
  rcases t with ⟨hk, rfl⟩ | ⟨hk, rfl⟩ | ⟨hk, rfl⟩ | ⟨hk, b, _, rfl, _⟩ | ⟨hk, rfl⟩ <;> simp [How.is, Deed.bad, hk] <;> omega

set_option maxHeartbeats 800000 in
theorem does_ok (a : Deed) (c : Nat) (w : World) :
    Calls Try.prog 6 #[a.val, ptr c] w fun e w' => e = .returned (.func (.func 18) #[] #[ptr (w.heap.size + 1), ptr w.heap.size]) ∧ w' = (w.alloc a.obj).alloc (.cells #[ptr c] 27) := by
  have h1 := mf
  go_enter Try.func6, Try.ntmps6
  go_wp2
  go_ret
  exact ⟨rfl, rfl⟩

set_option maxHeartbeats 800000 in
theorem bad_ok (a : Deed) (w : World) :
    Calls Try.prog 7 #[a.val] w fun e w' => e = .returned (.bool a.bad) ∧ Still w w' := by
  have h4 : a.bad = (decide (1 ≤ a.kind) && decide (a.kind ≤ 4)) := by simp [Deed.bad]
  by_cases hk : 1 ≤ a.kind
  · have h5 : a.bad = decide (a.kind ≤ 4) := by simp [h4, hk]
    rw [h5]
    clear h4 h5
    go_enter Try.func7, Try.ntmps7
    go_wp2
    go_ret
    exact ⟨rfl, (Fr.refl _ w).alloc _⟩
  · have h5 : a.bad = false := by simp [h4, hk]
    rw [h5]
    clear h4 h5
    go_enter Try.func7, Try.ntmps7
    go_wp2
    go_ret
    exact ⟨rfl, (Fr.refl _ w).alloc _⟩

theorem set_one {w : World} {c : Nat} {v : Value} {t : Nat} (u : Value) (hc : w.heap[c]? = some (.cells #[v] t)) : (w.setCell ⟨c, 0, none⟩ u).heap[c]? = some (.cells #[u] t) := by
  have := heap_setCell_same w c 0 #[v] t u hc
  simpa using this

set_option maxHeartbeats 800000 in
theorem does1_ok (a : Deed) {pa pn c : Nat} {x : Int} {w : World} (ha : w.heap[pa]? = some a.obj) (hn : w.heap[pn]? = some (.cells #[ptr c] 27)) (hc : w.heap[c]? = some (.cells #[.int .i64 x] 3)) (hx : 0 ≤ x ∧ x < 1000000) (hac : pa ≠ c) :
    Calls Try.prog 18 #[ptr pn, ptr pa] w fun e w' => ∃ h, h.ended e ∧ Fr (fun k => k = c) w w' ∧ w'.heap[c]? = some (.cells #[.int .i64 (x + 1)] 3) ∧ a.tells w.heap.size h w' := by
  have a0 := cell_of_obj ha 0
  have a1 := cell_of_obj ha 1
  have a2 := cell_of_obj ha 2
  have n0 := cell_of_obj hn 0
  have c0 := cell_of_obj hc 0
  have z0 := frozen_of_obj hc 0
  have lt := lt_of_obj hc
  have F1 := hide ((Fr.refl (fun k => k = c) w).setCell (p := ⟨c, 0, none⟩) (.inl rfl) (.int .i64 (x + 1)))
  have F2 := hide (set_one (.int .i64 (x + 1)) hc)
  clear ha hn hc
  go_enter Try.func18, Try.ntmps18
  go_wp2
  · exact ⟨rfl, .bad _ _, How.ended_one _ _, unhide F1, unhide F2, .inl ⟨by simpa using (‹(a.kind == 1) = true›), rfl⟩⟩
  · exact ⟨rfl, .bad _ _, How.ended_one _ _, unhide F1, unhide F2, .inr (.inl ⟨by simpa using (‹(a.kind == 2) = true›), rfl⟩)⟩
  · exact ⟨rfl, .bad _ _, How.ended_one _ _, unhide F1, unhide F2, .inr (.inr (.inl ⟨by simpa using (‹(a.kind == 3) = true›), rfl⟩))⟩
  · refine ⟨rfl, .bad _ _, How.ended_one _ _, (unhide F1).alloc _, ?_, .inr (.inr (.inr (.inl ⟨by simpa using (‹(a.kind == 4) = true›), w.heap.size, Nat.le_refl _, rfl, ?_⟩)))⟩
    · exact ((Fr.refl (fun _ => False) _).alloc _).obj (unhide F2) (fun h => h)
    · have := obj_alloc_new (w.setCell ⟨c, 0, none⟩ (.int .i64 (x + 1))) (.cells #[.int .i64 a.n] 3)
      simpa using this
  · have h1 := ‹(a.kind == 1) = false›; have h2 := ‹(a.kind == 2) = false›; have h3 := ‹(a.kind == 3) = false›; have h4 := ‹(a.kind == 4) = false›
    go_end0
    refine ⟨.well, rfl, unhide F1, unhide F2, .inr (.inr (.inr (.inr ⟨?_, rfl⟩)))⟩
    simp at h1 h2 h3 h4
    omega

section
variable (x : Value) (w : World)
theorem taL_list : (Instr.typeAssert (.iface 42 x) 20 42 true).run Try.prog w = .ok (.tuple #[x, .bool true]) w := by kernel_rfl
theorem taS_str : (Instr.typeAssert (.iface 9 x) 20 9 true).run Try.prog w = .ok (.tuple #[x, .bool true]) w := by kernel_rfl
theorem nil_nil : (binOp .eql 20 .nilIface .nilIface).run Try.prog w = .ok (.bool true) w := by kernel_rfl
end

set_option maxHeartbeats 800000 in
theorem is_int (a : Deed) (w : World) (hk : a.kind = 1) : Calls Try.prog 9 #[a.val, .iface 3 (.int .i64 a.n)] w fun e w' => e = .returned (.bool true) ∧ Still w w' := by
  have t1 := taI_int
  go_enter Try.func9, Try.ntmps9
  go_wp2
  go_ret
  exact ⟨by simp, (Fr.refl _ w).alloc _⟩

set_option maxHeartbeats 800000 in
theorem is_str (a : Deed) (w : World) (hk : a.kind = 2) : Calls Try.prog 9 #[a.val, .iface 9 (.string a.s)] w fun e w' => e = .returned (.bool true) ∧ Still w w' := by
  have t1 := taS_str
  go_enter Try.func9, Try.ntmps9
  go_wp2
  go_ret
  exact ⟨by simp, (Fr.refl _ w).alloc _⟩

set_option maxHeartbeats 800000 in
theorem is_errno (a : Deed) (w : World) (hk : a.kind = 3) : Calls Try.prog 9 #[a.val, .iface 36 (.int .i64 a.n)] w fun e w' => e = .returned (.bool true) ∧ Still w w' := by
  have t1 := taE_errno
  go_enter Try.func9, Try.ntmps9
  go_wp2
  go_ret
  exact ⟨by simp, (Fr.refl _ w).alloc _⟩

set_option maxHeartbeats 800000 in
theorem is_list (a : Deed) (w : World) (hk : a.kind = 4) (b : Nat) (hb : w.heap[b]? = some (.cells #[.int .i64 a.n] 3)) : Calls Try.prog 9 #[a.val, .iface 42 (.slice (some ⟨b, 0, none⟩) 1 1)] w fun e w' => e = .returned (.bool true) ∧ Still w w' := by
  have t1 := taL_list
  have c0 := cell_of_obj hb 0
  have lt := lt_of_obj hb
  go_enter Try.func9, Try.ntmps9
  go_wp2_with fail
  go_quiet (fail)
  go_wp2
  go_ret
  exact ⟨by simp, ((Fr.refl _ w).alloc _).drewN _⟩

set_option maxHeartbeats 800000 in
theorem is_well (a : Deed) (w : World) (hk : ¬ (1 ≤ a.kind ∧ a.kind ≤ 4)) : Calls Try.prog 9 #[a.val, .nilIface] w fun e w' => e = .returned (.bool true) ∧ Still w w' := by
  have t1 := nil_nil
  have h1 : (a.kind == 1) = false := by simp; omega
  have h2 : (a.kind == 2) = false := by simp; omega
  have h3 : (a.kind == 3) = false := by simp; omega
  have h4 : (a.kind == 4) = false := by simp; omega
  clear hk
  go_enter Try.func9, Try.ntmps9
  go_wp2
  go_ret
  exact ⟨rfl, (Fr.refl _ w).alloc _⟩

theorem is_ok {a : Deed} {B : Nat} {h : How} {w : World} (t : a.tells B h w) : Calls Try.prog 9 #[a.val, h.v] w fun e w' => e = .returned (.bool true) ∧ Still w w' := by
  rcases t with ⟨hk, rfl⟩ | ⟨hk, rfl⟩ | ⟨hk, rfl⟩ | ⟨hk, b, _, rfl, ho⟩ | ⟨hk, rfl⟩
  · exact is_int a w hk
  · exact is_str a w hk
  · exact is_errno a w hk
  · exact is_list a w hk b ho
  · exact is_well a w hk
end Go.Proofs.Ytebfocfofoajkab
