/- GuardTries, walked. -/
import Derived.Test.YtebfocfofoajkaaDeedTry
namespace Go.Proofs.Ytebfocfofoajkaa
open Go.RowKit

theorem beq_bool (x y : Bool) (w : World) : (binOp .eql 4 (.bool x) (.bool y)).run Try.prog w = .ok (.bool (x == y)) w := by
  cases x <;> cases y <;> kernel_rfl

/-- The three cells of an act. -/
theorem deed_cells {a : Deed} {w : World} {p : Nat} (h : w.heap[p]? = some a.obj) :
    w.cell? ⟨p, 0, none⟩ = some (.int .i64 a.kind) ∧ w.cell? ⟨p, 1, none⟩ = some (.int .i64 a.n) ∧ w.cell? ⟨p, 2, none⟩ = some (.string a.s) :=
  ⟨cell_of_obj h 0, cell_of_obj h 1, cell_of_obj h 2⟩

/-- What the first rows of a law lay: its act, its counter. -/
theorem laid_two (a : Deed) (w : World) : Still w ((w.alloc a.obj).alloc (.cells #[.int .i64 0] 3)) ∧ ((w.alloc a.obj).alloc (.cells #[.int .i64 0] 3)).heap[w.heap.size]? = some a.obj ∧
    ((w.alloc a.obj).alloc (.cells #[.int .i64 0] 3)).heap[w.heap.size + 1]? = some (.cells #[.int .i64 0] 3) := by
  have f2 : Still (w.alloc a.obj) ((w.alloc a.obj).alloc (.cells #[.int .i64 0] 3)) := (Fr.refl _ _).alloc _
  refine ⟨((Fr.refl _ w).alloc _).trans f2, f2.obj (obj_alloc_new w a.obj) (fun h => h), ?_⟩
  have := obj_alloc_new (w.alloc a.obj) (.cells #[.int .i64 0] 3)
  rwa [World.size_alloc] at this

set_option maxHeartbeats 2000000 in
theorem tries_walk (a : Deed) (w : World) : Calls Try.prog 5 #[a.val] w fun e w' => e = .returned (.bool true) ∧ Still w w' := by
  have b1 := beq_bool
  have b2 := nil_nil
  obtain ⟨f0, oa, oc⟩ := laid_two a w
  have K1 := hide (does_lies a oc (by omega))
  have F0 := hide f0; have OA := hide oa
  clear f0 oa oc
  go_enter Try.func5, Try.ntmps5
  go_wp2_with fail
  refine (unhide K1).mono ?_
  rintro e w1 ⟨pn, pa, rfl, f1, l1, hpn, hpa⟩
  have oa1 := f1.obj (unhide OA) (fun h => h)
  have fr1 := (unhide F0).trans f1
  simp only [World.size_alloc] at hpn hpa
  have K2 := hide (try_deed l1)
  have FR1 := hide fr1; have OA1 := hide oa1
  clear K1 F0 OA f1 l1 fr1 oa1
  go_wp2_with fail
  refine (unhide K2).mono ?_
  rintro e w2 ⟨h, rfl, f2, c2, t2⟩
  rw [t2.is]
  generalize hv : h.v = v
  have oa2 := f2.obj (unhide OA1) (by omega)
  have fr2 : Still w w2 := (unhide FR1).trans' f2 (fun k e => .inr (by omega))
  have K3 := hide (try_nil w2)
  have FR2 := hide fr2; have OA2 := hide oa2; have C2 := hide c2; have T2 := hide t2; have HV := hide hv
  clear K2 FR1 OA1 f2 fr2 oa2 c2 t2 hv
  go_wp2_with fail
  refine (unhide K3).mono ?_
  rintro e w3 ⟨h3, rfl, f3, rfl⟩
  simp only [How.v, How.is]
  have oa3 := f3.obj (unhide OA2) (fun h => h)
  have fr3 := (unhide FR2).trans f3
  have c3 := f3.obj (unhide C2) (fun h => h)
  have t3 := (unhide T2).keep f3 (fun _ h => h.elim)
  obtain ⟨d0, d1, d2⟩ := deed_cells oa3
  have K4 := hide (bad_ok a w3)
  have FR3 := hide fr3; have OA3 := hide oa3; have C3 := hide c3; have T3 := hide t3
  clear K3 FR2 OA2 C2 T2 f3 fr3 oa3 c3 t3
  go_wp2_with fail
  refine (unhide K4).mono ?_
  rintro e w4 ⟨rfl, f4⟩
  have oa4 := f4.obj (unhide OA3) (fun h => h)
  have fr4 := (unhide FR3).trans f4
  have c4 := f4.obj (unhide C3) (fun h => h)
  have t4 := (unhide T3).keep f4 (fun _ h => h.elim)
  have K5 := is_ok t4
  rw [unhide HV] at K5
  obtain ⟨d0', d1', d2'⟩ := deed_cells oa4
  have HK5 := hide K5; have FR4 := hide fr4; have C4 := hide c4
  clear K4 FR3 OA3 C3 T3 f4 fr4 oa4 c4 t4 K5 d0 d1 d2
  go_wp2_with fail
  refine (unhide HK5).mono ?_
  rintro e w5 ⟨rfl, f5⟩
  have c5 := cell_of_obj (f5.obj (unhide C4) (fun h => h)) 0
  have fr5 := (unhide FR4).trans f5
  have K6 := hide (awake_ok w5)
  have FR5 := hide fr5
  clear HK5 FR4 C4 f5 fr5
  go_wp2_with fail
  refine (unhide K6).mono ?_
  rintro e w6 ⟨rfl, f6⟩
  have FR6 := hide ((unhide FR5).trans f6)
  clear K6 FR5 f6
  go_wp2
  go_ret
  exact ⟨rfl, unhide FR6⟩
end Go.Proofs.Ytebfocfofoajkaa
