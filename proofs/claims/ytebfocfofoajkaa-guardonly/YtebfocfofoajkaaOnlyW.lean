/- GuardOnly, walked. -/
import Derived.Test.YtebfocfofoajkaaOnlyC
import Derived.Test.YtebfocfofoajkaaErrnosX
namespace Go.Proofs.Ytebfocfofoajkaa
open Go.RowKit

theorem bneq (x y : Bool) (w : World) : (binOp .neq 4 (.bool x) (.bool y)).run Try.prog w = .ok (.bool (x != y)) w := by
  cases x <;> cases y <;> kernel_rfl
theorem nil_ne (w : World) : (binOp .neq 20 .nilIface .nilIface).run Try.prog w = .ok (.bool false) w := by kernel_rfl

/-- The law's six variables, from s on: the act, its counter, i, s, ok, is. -/
structure OSt (w : World) (s : Nat) (a : Deed) (x i : Int) (t : ByteArray) (o1 o2 : Bool) (ws : World) : Prop where
  fr : Still w ws
  sz : s + 6 ≤ ws.heap.size
  oa : ws.heap[s]? = some a.obj
  oc : ws.heap[s + 1]? = some (.cells #[.int .i64 x] 3)
  oi : ws.heap[s + 2]? = some (.cells #[.int .i64 i] 3)
  os : ws.heap[s + 3]? = some (.cells #[.string t] 9)
  oo : ws.heap[s + 4]? = some (.cells #[.bool o1] 4)
  op : ws.heap[s + 5]? = some (.cells #[.bool o2] 4)

abbrev six (a : Deed) (w : World) : World := (((((w.alloc a.obj).alloc (.cells #[.int .i64 0] 3)).alloc (.cells #[.int .i64 0] 3)).alloc (.cells #[.string ByteArray.empty] 9)).alloc (.cells #[.bool false] 4)).alloc (.cells #[.bool false] 4)

theorem laid_six (a : Deed) (w : World) : OSt w w.heap.size a 0 0 ByteArray.empty false false (six a w) := by
  obtain ⟨f0, oa, oc, oi⟩ := laid_three a w (.int .i64 0) 3
  generalize hw3 : ((w.alloc a.obj).alloc (.cells #[.int .i64 0] 3)).alloc (.cells #[.int .i64 0] 3) = w3 at f0 oa oc oi
  have z3 : w3.heap.size = w.heap.size + 3 := by rw [← hw3]; simp
  have e : six a w = ((w3.alloc (.cells #[.string ByteArray.empty] 9)).alloc (.cells #[.bool false] 4)).alloc (.cells #[.bool false] 4) := by rw [← hw3]
  rw [e]
  have f1 : Still w3 (w3.alloc (.cells #[.string ByteArray.empty] 9)) := (Fr.refl _ _).alloc _
  have f2 : Still (w3.alloc (.cells #[.string ByteArray.empty] 9)) ((w3.alloc (.cells #[.string ByteArray.empty] 9)).alloc (.cells #[.bool false] 4)) := (Fr.refl _ _).alloc _
  have f3 : Still ((w3.alloc (.cells #[.string ByteArray.empty] 9)).alloc (.cells #[.bool false] 4)) (((w3.alloc (.cells #[.string ByteArray.empty] 9)).alloc (.cells #[.bool false] 4)).alloc (.cells #[.bool false] 4)) := (Fr.refl _ _).alloc _
  have n1 := obj_alloc_new w3 (.cells #[.string ByteArray.empty] 9)
  have n2 := obj_alloc_new (w3.alloc (.cells #[.string ByteArray.empty] 9)) (.cells #[.bool false] 4)
  have n3 := obj_alloc_new ((w3.alloc (.cells #[.string ByteArray.empty] 9)).alloc (.cells #[.bool false] 4)) (.cells #[.bool false] 4)
  simp only [World.size_alloc, z3] at n1 n2 n3
  have ff := (f1.trans f2).trans f3
  exact ⟨f0.trans ff, by simp [z3], ff.obj oa (fun h => h), ff.obj oc (fun h => h), ff.obj oi (fun h => h), (f2.trans f3).obj n1 (fun h => h), f3.obj n2 (fun h => h), n3⟩

section
variable {w : World} {s : Nat} {a : Deed} {x i : Int} {t : ByteArray} {o1 o2 : Bool} {ws ws' : World}
theorem OSt.keep (h : OSt w s a x i t o1 o2 ws) (f : Still ws ws') : OSt w s a x i t o1 o2 ws' :=
  ⟨h.fr.trans f, Nat.le_trans h.sz f.size, f.obj h.oa (fun h => h), f.obj h.oc (fun h => h), f.obj h.oi (fun h => h), f.obj h.os (fun h => h), f.obj h.oo (fun h => h), f.obj h.op (fun h => h)⟩
theorem OSt.one (h : OSt w s a x i t o1 o2 ws) (hs : w.heap.size ≤ s) (f : Fr (fun k => k = s + 1 ∨ k = s + 2 ∨ k = s + 4) ws ws') {x' i' : Int} {o1' : Bool} (h1 : ws'.heap[s + 1]? = some (.cells #[.int .i64 x'] 3)) (h2 : ws'.heap[s + 2]? = some (.cells #[.int .i64 i'] 3)) (h3 : ws'.heap[s + 4]? = some (.cells #[.bool o1'] 4)) :
    OSt w s a x' i' t o1' o2 ws' :=
  ⟨h.fr.trans' f (fun k hk => .inr (by omega)), Nat.le_trans h.sz f.size, f.obj h.oa (by omega), h1, h2, f.obj h.os (by omega), h3, f.obj h.op (by omega)⟩
theorem OSt.two (h : OSt w s a x i t o1 o2 ws) (hs : w.heap.size ≤ s) (f : Fr (fun k => k = s + 1 ∨ k = s + 3 ∨ k = s + 5) ws ws') {x' : Int} {t' : ByteArray} {o2' : Bool} (h1 : ws'.heap[s + 1]? = some (.cells #[.int .i64 x'] 3)) (h2 : ws'.heap[s + 3]? = some (.cells #[.string t'] 9)) (h3 : ws'.heap[s + 5]? = some (.cells #[.bool o2'] 4)) :
    OSt w s a x' i t' o1 o2' ws' :=
  ⟨h.fr.trans' f (fun k hk => .inr (by omega)), Nat.le_trans h.sz f.size, f.obj h.oa (by omega), h1, f.obj h.oi (by omega), h2, f.obj h.oo (by omega), h3⟩
theorem OSt.three (h : OSt w s a x i t o1 o2 ws) (hs : w.heap.size ≤ s) (f : Fr (fun k => k = s + 1) ws ws') {x' : Int} (h1 : ws'.heap[s + 1]? = some (.cells #[.int .i64 x'] 3)) :
    OSt w s a x' i t o1 o2 ws' :=
  ⟨h.fr.trans' f (fun k hk => .inr (by omega)), Nat.le_trans h.sz f.size, f.obj h.oa (by omega), h1, f.obj h.oi (by omega), f.obj h.os (by omega), f.obj h.oo (by omega), f.obj h.op (by omega)⟩
end

set_option maxHeartbeats 8000000 in
theorem only_walk_int (n : Int) (s : ByteArray) (w : World) : Calls Try.prog 6 #[(⟨1, n, s⟩ : Deed).val] w fun e w' => e = .returned (.bool true) ∧ Still w w' := by
  have b1 := bneq
  have b2 := nil_nil
  have b3 := nil_ne
  have h1 := mf
  have S0 := hide (laid_six (⟨1, n, s⟩ : Deed) w)
  have K1 := hide (only25_caught_yes (unhide S0).oa (unhide S0).oc (unhide S0).oi (unhide S0).oo (by omega) (by omega) (by omega) (by omega) rfl)
  go_enter Try.func6, Try.ntmps6
  go_wp2_with fail
  refine (unhide K1).mono ?_
  rintro e w1 ⟨h1, rfl, f1, c1, i1, o1, t1⟩
  have sz0 := (unhide S0).sz
  have S1 := hide ((unhide S0).one (Nat.le_refl _) f1 c1 i1 o1)
  subst t1
  simp only [How.v]
  have K2 := hide (only27_caught_no (unhide S1).oa (unhide S1).oc (unhide S1).os (unhide S1).op (by omega) (by omega) (by omega) (by omega) (by simp))
  clear K1 S0 f1 c1 i1 o1 sz0
  go_wp2_with fail
  refine (unhide K2).mono ?_
  rintro e w2 ⟨h2, rfl, f2, c2, i2, o2, t2⟩
  have sz1 := (unhide S1).sz
  have S2 := hide ((unhide S1).two (Nat.le_refl _) f2 c2 i2 o2)
  have T2 := hide (t2.mono (C := w.heap.size + 6) (by omega))
  generalize hv2 : h2.v = v2
  have V2 := hide hv2
  clear t2 hv2
  have K3 := hide (only28_caught (unhide S2).oa (unhide S2).oc (by omega))
  clear K2 S1 f2 c2 i2 o2 sz1
  go_wp2_with fail
  refine (unhide K3).mono ?_
  rintro e w3 ⟨h3, rfl, f3, c3, t3, t3'⟩
  have sz2 := (unhide S2).sz
  have S3 := hide ((unhide S2).three (Nat.le_refl _) f3 c3)
  have R2 := hide (((unhide T2).keep f3 (fun k e => by omega)).mono (C := 0) (by omega))
  clear T2
  have R3 := hide ((t3' (by simp)).mono (C := 0) (by omega))
  generalize hv3 : h3.v = v3
  have V3 := hide hv3
  clear t3 t3' hv3
  clear K3 S2 f3 c3 sz2
  obtain ⟨d3a, d3b, d3c⟩ := deed_cells (unhide S3).oa
  have cc3 := cell_of_obj (unhide S3).oc 0
  have ii3 := cell_of_obj (unhide S3).oi 0
  have ss3 := cell_of_obj (unhide S3).os 0
  have oo3 := cell_of_obj (unhide S3).oo 0
  have pp3 := cell_of_obj (unhide S3).op 0
  have J2 := is_ok (unhide R2)
  rw [unhide V2] at J2
  have I2 := hide J2
  clear J2
  go_wp2_with fail
  refine (unhide I2).mono ?_
  rintro e w4 ⟨rfl, f4⟩
  have S4 := hide ((unhide S3).keep f4)
  have Q3 := hide ((unhide R3).keep f4 (fun _ h => h.elim))
  clear R3
  have R3 := Q3
  clear Q3
  clear I2 S3 f4 d3a d3b d3c cc3 ii3 ss3 oo3 pp3 R2 V2
  obtain ⟨d4a, d4b, d4c⟩ := deed_cells (unhide S4).oa
  have cc4 := cell_of_obj (unhide S4).oc 0
  have ii4 := cell_of_obj (unhide S4).oi 0
  have ss4 := cell_of_obj (unhide S4).os 0
  have oo4 := cell_of_obj (unhide S4).oo 0
  have pp4 := cell_of_obj (unhide S4).op 0
  have J3 := is_ok (unhide R3)
  rw [unhide V3] at J3
  have I3 := hide J3
  clear J3
  go_wp2_with fail
  refine (unhide I3).mono ?_
  rintro e w5 ⟨rfl, f5⟩
  have S5 := hide ((unhide S4).keep f5)
  clear I3 S4 f5 d4a d4b d4c cc4 ii4 ss4 oo4 pp4 R3 V3
  obtain ⟨d5a, d5b, d5c⟩ := deed_cells (unhide S5).oa
  have K9 := hide (awake_ok w5)
  go_wp2_with fail
  refine (unhide K9).mono ?_
  rintro e w9 ⟨rfl, f9⟩
  have F9 := hide ((unhide S5).fr.trans f9)
  clear K9 f9 S5 d5a d5b d5c
  go_wp2
  go_ret
  exact ⟨rfl, unhide F9⟩

set_option maxHeartbeats 8000000 in
theorem only_walk_str (n : Int) (s : ByteArray) (w : World) : Calls Try.prog 6 #[(⟨2, n, s⟩ : Deed).val] w fun e w' => e = .returned (.bool true) ∧ Still w w' := by
  have b1 := bneq
  have b2 := nil_nil
  have b3 := nil_ne
  have h1 := mf
  have S0 := hide (laid_six (⟨2, n, s⟩ : Deed) w)
  have K1 := hide (only25_caught_no (unhide S0).oa (unhide S0).oc (unhide S0).oi (unhide S0).oo (by omega) (by omega) (by omega) (by omega) (by simp))
  go_enter Try.func6, Try.ntmps6
  go_wp2_with fail
  refine (unhide K1).mono ?_
  rintro e w1 ⟨h1, rfl, f1, c1, i1, o1, t1⟩
  have sz0 := (unhide S0).sz
  have S1 := hide ((unhide S0).one (Nat.le_refl _) f1 c1 i1 o1)
  have T1 := hide (t1.mono (C := w.heap.size + 6) (by omega))
  generalize hv1 : h1.v = v1
  have V1 := hide hv1
  clear t1 hv1
  have K2 := hide (only27_caught_yes (unhide S1).oa (unhide S1).oc (unhide S1).os (unhide S1).op (by omega) (by omega) (by omega) (by omega) rfl)
  clear K1 S0 f1 c1 i1 o1 sz0
  go_wp2_with fail
  refine (unhide K2).mono ?_
  rintro e w2 ⟨h2, rfl, f2, c2, i2, o2, t2⟩
  have sz1 := (unhide S1).sz
  have S2 := hide ((unhide S1).two (Nat.le_refl _) f2 c2 i2 o2)
  have T1' := hide ((unhide T1).keep f2 (fun k e => by omega))
  clear T1
  subst t2
  simp only [How.v]
  have K3 := hide (only28_caught (unhide S2).oa (unhide S2).oc (by omega))
  clear K2 S1 f2 c2 i2 o2 sz1
  go_wp2_with fail
  refine (unhide K3).mono ?_
  rintro e w3 ⟨h3, rfl, f3, c3, t3, t3'⟩
  have sz2 := (unhide S2).sz
  have S3 := hide ((unhide S2).three (Nat.le_refl _) f3 c3)
  have R1 := hide (((unhide T1').keep f3 (fun k e => by omega)).mono (C := 0) (by omega))
  clear T1'
  have R3 := hide ((t3' (by simp)).mono (C := 0) (by omega))
  generalize hv3 : h3.v = v3
  have V3 := hide hv3
  clear t3 t3' hv3
  clear K3 S2 f3 c3 sz2
  obtain ⟨d3a, d3b, d3c⟩ := deed_cells (unhide S3).oa
  have cc3 := cell_of_obj (unhide S3).oc 0
  have ii3 := cell_of_obj (unhide S3).oi 0
  have ss3 := cell_of_obj (unhide S3).os 0
  have oo3 := cell_of_obj (unhide S3).oo 0
  have pp3 := cell_of_obj (unhide S3).op 0
  have J1 := is_ok (unhide R1)
  rw [unhide V1] at J1
  have I1 := hide J1
  clear J1
  go_wp2_with fail
  refine (unhide I1).mono ?_
  rintro e w4 ⟨rfl, f4⟩
  have S4 := hide ((unhide S3).keep f4)
  have Q3 := hide ((unhide R3).keep f4 (fun _ h => h.elim))
  clear R3
  have R3 := Q3
  clear Q3
  clear I1 S3 f4 d3a d3b d3c cc3 ii3 ss3 oo3 pp3 R1 V1
  obtain ⟨d4a, d4b, d4c⟩ := deed_cells (unhide S4).oa
  have cc4 := cell_of_obj (unhide S4).oc 0
  have ii4 := cell_of_obj (unhide S4).oi 0
  have ss4 := cell_of_obj (unhide S4).os 0
  have oo4 := cell_of_obj (unhide S4).oo 0
  have pp4 := cell_of_obj (unhide S4).op 0
  have J3 := is_ok (unhide R3)
  rw [unhide V3] at J3
  have I3 := hide J3
  clear J3
  go_wp2_with fail
  refine (unhide I3).mono ?_
  rintro e w5 ⟨rfl, f5⟩
  have S5 := hide ((unhide S4).keep f5)
  clear I3 S4 f5 d4a d4b d4c cc4 ii4 ss4 oo4 pp4 R3 V3
  obtain ⟨d5a, d5b, d5c⟩ := deed_cells (unhide S5).oa
  have K9 := hide (awake_ok w5)
  go_wp2_with fail
  refine (unhide K9).mono ?_
  rintro e w9 ⟨rfl, f9⟩
  have F9 := hide ((unhide S5).fr.trans f9)
  clear K9 f9 S5 d5a d5b d5c
  go_wp2
  go_ret
  exact ⟨rfl, unhide F9⟩

set_option maxHeartbeats 8000000 in
theorem only_walk_errno (n : Int) (s : ByteArray) (w : World) : Calls Try.prog 6 #[(⟨3, n, s⟩ : Deed).val] w fun e w' => e = .returned (.bool true) ∧ Still w w' := by
  have b1 := bneq
  have b2 := nil_nil
  have b3 := nil_ne
  have h1 := mf
  have S0 := hide (laid_six (⟨3, n, s⟩ : Deed) w)
  have K1 := hide (only25_caught_no (unhide S0).oa (unhide S0).oc (unhide S0).oi (unhide S0).oo (by omega) (by omega) (by omega) (by omega) (by simp))
  go_enter Try.func6, Try.ntmps6
  go_wp2_with fail
  refine (unhide K1).mono ?_
  rintro e w1 ⟨h1, rfl, f1, c1, i1, o1, t1⟩
  have sz0 := (unhide S0).sz
  have S1 := hide ((unhide S0).one (Nat.le_refl _) f1 c1 i1 o1)
  have T1 := hide (t1.mono (C := w.heap.size + 6) (by omega))
  generalize hv1 : h1.v = v1
  have V1 := hide hv1
  clear t1 hv1
  have K2 := hide (only27_caught_no (unhide S1).oa (unhide S1).oc (unhide S1).os (unhide S1).op (by omega) (by omega) (by omega) (by omega) (by simp))
  clear K1 S0 f1 c1 i1 o1 sz0
  go_wp2_with fail
  refine (unhide K2).mono ?_
  rintro e w2 ⟨h2, rfl, f2, c2, i2, o2, t2⟩
  have sz1 := (unhide S1).sz
  have S2 := hide ((unhide S1).two (Nat.le_refl _) f2 c2 i2 o2)
  have T1' := hide ((unhide T1).keep f2 (fun k e => by omega))
  clear T1
  have T2 := hide (t2.mono (C := w.heap.size + 6) (by omega))
  generalize hv2 : h2.v = v2
  have V2 := hide hv2
  clear t2 hv2
  have K3 := hide (only28_caught (unhide S2).oa (unhide S2).oc (by omega))
  clear K2 S1 f2 c2 i2 o2 sz1
  go_wp2_with fail
  refine (unhide K3).mono ?_
  rintro e w3 ⟨h3, rfl, f3, c3, t3, t3'⟩
  have sz2 := (unhide S2).sz
  have S3 := hide ((unhide S2).three (Nat.le_refl _) f3 c3)
  have R1 := hide (((unhide T1').keep f3 (fun k e => by omega)).mono (C := 0) (by omega))
  clear T1'
  have R2 := hide (((unhide T2).keep f3 (fun k e => by omega)).mono (C := 0) (by omega))
  clear T2
  obtain rfl := t3 (by simp)
  simp only [How.v]
  clear t3 t3'
  clear K3 S2 f3 c3 sz2
  obtain ⟨d3a, d3b, d3c⟩ := deed_cells (unhide S3).oa
  have cc3 := cell_of_obj (unhide S3).oc 0
  have ii3 := cell_of_obj (unhide S3).oi 0
  have ss3 := cell_of_obj (unhide S3).os 0
  have oo3 := cell_of_obj (unhide S3).oo 0
  have pp3 := cell_of_obj (unhide S3).op 0
  have J1 := is_ok (unhide R1)
  rw [unhide V1] at J1
  have I1 := hide J1
  clear J1
  go_wp2_with fail
  refine (unhide I1).mono ?_
  rintro e w4 ⟨rfl, f4⟩
  have S4 := hide ((unhide S3).keep f4)
  have Q2 := hide ((unhide R2).keep f4 (fun _ h => h.elim))
  clear R2
  have R2 := Q2
  clear Q2
  clear I1 S3 f4 d3a d3b d3c cc3 ii3 ss3 oo3 pp3 R1 V1
  obtain ⟨d4a, d4b, d4c⟩ := deed_cells (unhide S4).oa
  have cc4 := cell_of_obj (unhide S4).oc 0
  have ii4 := cell_of_obj (unhide S4).oi 0
  have ss4 := cell_of_obj (unhide S4).os 0
  have oo4 := cell_of_obj (unhide S4).oo 0
  have pp4 := cell_of_obj (unhide S4).op 0
  have J2 := is_ok (unhide R2)
  rw [unhide V2] at J2
  have I2 := hide J2
  clear J2
  go_wp2_with fail
  refine (unhide I2).mono ?_
  rintro e w5 ⟨rfl, f5⟩
  have S5 := hide ((unhide S4).keep f5)
  clear I2 S4 f5 d4a d4b d4c cc4 ii4 ss4 oo4 pp4 R2 V2
  obtain ⟨d5a, d5b, d5c⟩ := deed_cells (unhide S5).oa
  have K9 := hide (awake_ok w5)
  go_wp2_with fail
  refine (unhide K9).mono ?_
  rintro e w9 ⟨rfl, f9⟩
  have F9 := hide ((unhide S5).fr.trans f9)
  clear K9 f9 S5 d5a d5b d5c
  go_wp2
  go_ret
  exact ⟨rfl, unhide F9⟩

set_option maxHeartbeats 8000000 in
theorem only_walk_other (a : Deed) (k1 : a.kind ≠ 1) (k2 : a.kind ≠ 2) (k3 : a.kind ≠ 3) (w : World) : Calls Try.prog 6 #[a.val] w fun e w' => e = .returned (.bool true) ∧ Still w w' := by
  have b1 := bneq
  have b2 := nil_nil
  have b3 := nil_ne
  have h1 := mf
  have S0 := hide (laid_six a w)
  have N : Hid (a.kind ≠ 1 ∧ a.kind ≠ 2 ∧ a.kind ≠ 3) := hide ⟨k1, k2, k3⟩
  have k1' : (a.kind == 1) = false := by simpa using k1
  have k2' : (a.kind == 2) = false := by simpa using k2
  have k3' : (a.kind == 3) = false := by simpa using k3
  have k1'' : (a.kind != 1) = true := by simpa using k1
  have k2'' : (a.kind != 2) = true := by simpa using k2
  have k3'' : (a.kind != 3) = true := by simpa using k3
  clear k1 k2 k3
  have K1 := hide (only25_caught_no (unhide S0).oa (unhide S0).oc (unhide S0).oi (unhide S0).oo (by omega) (by omega) (by omega) (by omega) (unhide N).1)
  go_enter Try.func6, Try.ntmps6
  go_wp2_with fail
  refine (unhide K1).mono ?_
  rintro e w1 ⟨h1, rfl, f1, c1, i1, o1, t1⟩
  have sz0 := (unhide S0).sz
  have S1 := hide ((unhide S0).one (Nat.le_refl _) f1 c1 i1 o1)
  have T1 := hide (t1.mono (C := w.heap.size + 6) (by omega))
  generalize hv1 : h1.v = v1
  have V1 := hide hv1
  clear t1 hv1
  have K2 := hide (only27_caught_no (unhide S1).oa (unhide S1).oc (unhide S1).os (unhide S1).op (by omega) (by omega) (by omega) (by omega) (unhide N).2.1)
  clear K1 S0 f1 c1 i1 o1 sz0
  go_wp2_with fail
  refine (unhide K2).mono ?_
  rintro e w2 ⟨h2, rfl, f2, c2, i2, o2, t2⟩
  have sz1 := (unhide S1).sz
  have S2 := hide ((unhide S1).two (Nat.le_refl _) f2 c2 i2 o2)
  have T1' := hide ((unhide T1).keep f2 (fun k e => by omega))
  clear T1
  have T2 := hide (t2.mono (C := w.heap.size + 6) (by omega))
  generalize hv2 : h2.v = v2
  have V2 := hide hv2
  clear t2 hv2
  have K3 := hide (only28_caught (unhide S2).oa (unhide S2).oc (by omega))
  clear K2 S1 f2 c2 i2 o2 sz1
  go_wp2_with fail
  refine (unhide K3).mono ?_
  rintro e w3 ⟨h3, rfl, f3, c3, t3, t3'⟩
  have sz2 := (unhide S2).sz
  have S3 := hide ((unhide S2).three (Nat.le_refl _) f3 c3)
  have R1 := hide (((unhide T1').keep f3 (fun k e => by omega)).mono (C := 0) (by omega))
  clear T1'
  have R2 := hide (((unhide T2).keep f3 (fun k e => by omega)).mono (C := 0) (by omega))
  clear T2
  have R3 := hide ((t3' (unhide N).2.2).mono (C := 0) (by omega))
  generalize hv3 : h3.v = v3
  have V3 := hide hv3
  clear t3 t3' hv3
  clear K3 S2 f3 c3 sz2
  obtain ⟨d3a, d3b, d3c⟩ := deed_cells (unhide S3).oa
  have cc3 := cell_of_obj (unhide S3).oc 0
  have ii3 := cell_of_obj (unhide S3).oi 0
  have ss3 := cell_of_obj (unhide S3).os 0
  have oo3 := cell_of_obj (unhide S3).oo 0
  have pp3 := cell_of_obj (unhide S3).op 0
  have J1 := is_ok (unhide R1)
  rw [unhide V1] at J1
  have I1 := hide J1
  clear J1
  go_wp2_with fail
  refine (unhide I1).mono ?_
  rintro e w4 ⟨rfl, f4⟩
  have S4 := hide ((unhide S3).keep f4)
  have Q2 := hide ((unhide R2).keep f4 (fun _ h => h.elim))
  clear R2
  have R2 := Q2
  clear Q2
  have Q3 := hide ((unhide R3).keep f4 (fun _ h => h.elim))
  clear R3
  have R3 := Q3
  clear Q3
  clear I1 S3 f4 d3a d3b d3c cc3 ii3 ss3 oo3 pp3 R1 V1
  obtain ⟨d4a, d4b, d4c⟩ := deed_cells (unhide S4).oa
  have cc4 := cell_of_obj (unhide S4).oc 0
  have ii4 := cell_of_obj (unhide S4).oi 0
  have ss4 := cell_of_obj (unhide S4).os 0
  have oo4 := cell_of_obj (unhide S4).oo 0
  have pp4 := cell_of_obj (unhide S4).op 0
  have J2 := is_ok (unhide R2)
  rw [unhide V2] at J2
  have I2 := hide J2
  clear J2
  go_wp2_with fail
  refine (unhide I2).mono ?_
  rintro e w5 ⟨rfl, f5⟩
  have S5 := hide ((unhide S4).keep f5)
  have Q3 := hide ((unhide R3).keep f5 (fun _ h => h.elim))
  clear R3
  have R3 := Q3
  clear Q3
  clear I2 S4 f5 d4a d4b d4c cc4 ii4 ss4 oo4 pp4 R2 V2
  obtain ⟨d5a, d5b, d5c⟩ := deed_cells (unhide S5).oa
  have cc5 := cell_of_obj (unhide S5).oc 0
  have ii5 := cell_of_obj (unhide S5).oi 0
  have ss5 := cell_of_obj (unhide S5).os 0
  have oo5 := cell_of_obj (unhide S5).oo 0
  have pp5 := cell_of_obj (unhide S5).op 0
  have J3 := is_ok (unhide R3)
  rw [unhide V3] at J3
  have I3 := hide J3
  clear J3
  go_wp2_with fail
  refine (unhide I3).mono ?_
  rintro e w6 ⟨rfl, f6⟩
  have S6 := hide ((unhide S5).keep f6)
  clear I3 S5 f6 d5a d5b d5c cc5 ii5 ss5 oo5 pp5 R3 V3
  obtain ⟨d6a, d6b, d6c⟩ := deed_cells (unhide S6).oa
  have K9 := hide (awake_ok w6)
  go_wp2_with fail
  refine (unhide K9).mono ?_
  rintro e w9 ⟨rfl, f9⟩
  have F9 := hide ((unhide S6).fr.trans f9)
  clear K9 f9 S6 d6a d6b d6c
  go_wp2
  go_ret
  exact ⟨rfl, unhide F9⟩

theorem only_walk (a : Deed) (w : World) : Calls Try.prog 6 #[a.val] w fun e w' => e = .returned (.bool true) ∧ Still w w' := by
  by_cases k1 : a.kind = 1
  · obtain ⟨k, n, s⟩ := a; cases k1; exact only_walk_int n s w
  · by_cases k2 : a.kind = 2
    · obtain ⟨k, n, s⟩ := a; cases k2; exact only_walk_str n s w
    · by_cases k3 : a.kind = 3
      · obtain ⟨k, n, s⟩ := a; cases k3; exact only_walk_errno n s w
      · exact only_walk_other a k1 k2 k3 w
end Go.Proofs.Ytebfocfofoajkaa
