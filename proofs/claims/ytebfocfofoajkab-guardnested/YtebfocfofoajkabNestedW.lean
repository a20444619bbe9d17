/- GuardNested, walked. -/
import Derived.Test.YtebfocfofoajkabNestedT
namespace Go.Proofs.Ytebfocfofoajkab
open Go.RowKit

set_option maxHeartbeats 8000000 in
theorem nested_walk_a3 (n : Int) (t : ByteArray) (b : Deed) (w : World) : Calls Try.prog 5 #[(⟨3, n, t⟩ : Deed).val, b.val] w fun e w' => e = .returned (.bool true) ∧ Still w w' := by
  have b1 := beq_bool
  have h0 := mf
  obtain ⟨f0, s0⟩ := laid_seven (⟨3, n, t⟩ : Deed) b w
  have K : ∀ u, NSt w.heap.size (⟨3, n, t⟩ : Deed) b 0 0 0 0 0 u → Calls Try.prog 16 (cap16 w.heap.size) u fun e w' => ∃ g : How, g.ended e ∧ Fr (five w.heap.size) u w' ∧ NSt w.heap.size (⟨3, n, t⟩ : Deed) b 1 0 0 0 0 w' ∧ (⟨3, n, t⟩ : Deed).tells u.heap.size g w' := fun u h => nested2_bad h (by simp [Deed.bad]) (by simp)
  have K1 := hide (nested1_try s0 K)
  have F0 := hide f0
  clear f0 s0 K
  go_enter Try.func5, Try.ntmps5
  go_wp2_with fail
  refine (unhide K1).mono ?_
  rintro e w1 ⟨g, rfl, f1, y, s1, t1⟩
  have S1 := hide s1; have FR1 := hide ((unhide F0).trans' f1 (fun k hk => .inr (by have := hk.1; omega)))
  clear K1 F0 f1 s1
  rcases t1 with ⟨_, rfl, hy⟩ | ⟨hb, _⟩ | ⟨hk, _⟩
  rotate_left
  · simp [Deed.bad] at hb
  · exact absurd rfl hk
  replace hy : n = y := hy.symm
  subst hy
  simp only [How.v, How.is]
  obtain ⟨x1a, x1b, x1c⟩ := deed_cells (unhide S1).oa
  obtain ⟨y1a, y1b, y1c⟩ := deed_cells (unhide S1).ob
  have on1 := cell_of_obj (unhide S1).on 0
  have om1 := cell_of_obj (unhide S1).om 0
  have oh1 := cell_of_obj (unhide S1).oh 0
  have oi1 := cell_of_obj (unhide S1).oi 0
  have oo1 := cell_of_obj (unhide S1).oo 0
  have K1 := bad_ok (⟨3, n, t⟩ : Deed) w1
  rw [show (⟨3, n, t⟩ : Deed).bad = true from by simp [Deed.bad]] at K1
  have J1 := hide K1; clear K1
  go_wp2_with fail
  refine (unhide J1).mono ?_
  rintro e w2 ⟨rfl, f1⟩
  have S2 := hide ((unhide S1).keep f1 (fun _ h => h.elim)); have FR2 := hide ((unhide FR1).trans f1)
  clear J1 S1 FR1 f1 x1a x1b x1c y1a y1b y1c on1 om1 oh1 oi1 oo1
  obtain ⟨x2a, x2b, x2c⟩ := deed_cells (unhide S2).oa
  obtain ⟨y2a, y2b, y2c⟩ := deed_cells (unhide S2).ob
  have on2 := cell_of_obj (unhide S2).on 0
  have om2 := cell_of_obj (unhide S2).om 0
  have oh2 := cell_of_obj (unhide S2).oh 0
  have oi2 := cell_of_obj (unhide S2).oi 0
  have oo2 := cell_of_obj (unhide S2).oo 0
  have K2 := awake_ok w2
  have J2 := hide K2; clear K2
  go_wp2_with fail
  refine (unhide J2).mono ?_
  rintro e w3 ⟨rfl, f2⟩
  have S3 := hide ((unhide S2).keep f2 (fun _ h => h.elim)); have FR3 := hide ((unhide FR2).trans f2)
  clear J2 S2 FR2 f2 x2a x2b x2c y2a y2b y2c on2 om2 oh2 oi2 oo2
  go_wp2
  go_ret
  exact ⟨rfl, unhide FR3⟩

set_option maxHeartbeats 8000000 in
theorem nested_walk_ax (a : Deed) (b : Deed) (hab : a.bad = true) (ha1 : a.kind ≠ 1) (ha3 : a.kind ≠ 3) (w : World) : Calls Try.prog 5 #[a.val, b.val] w fun e w' => e = .returned (.bool true) ∧ Still w w' := by
  have b1 := beq_bool
  have h0 := mf
  obtain ⟨f0, s0⟩ := laid_seven a b w
  have K : ∀ u, NSt w.heap.size a b 0 0 0 0 0 u → Calls Try.prog 16 (cap16 w.heap.size) u fun e w' => ∃ g : How, g.ended e ∧ Fr (five w.heap.size) u w' ∧ NSt w.heap.size a b 1 0 0 0 0 w' ∧ a.tells u.heap.size g w' := fun u h => nested2_bad h hab ha1
  have K1 := hide (nested1_try s0 K)
  have F0 := hide f0
  have x1 : (a.kind == 1) = false := by simpa using ha1
  have x2 : (a.kind != 1) = true := by simpa using ha1
  have x3 : (a.kind == 3) = false := by simpa using ha3
  have x4 : (a.kind != 3) = true := by simpa using ha3
  have HA := hide hab; have H3 := hide ha3
  clear f0 s0 K hab ha1 ha3
  go_enter Try.func5, Try.ntmps5
  go_wp2_with fail
  refine (unhide K1).mono ?_
  rintro e w1 ⟨g, rfl, f1, y, s1, t1⟩
  have S1 := hide s1; have FR1 := hide ((unhide F0).trans' f1 (fun k hk => .inr (by have := hk.1; omega)))
  clear K1 F0 f1 s1
  rcases t1 with ⟨hk, _⟩ | ⟨hb, _⟩ | ⟨_, hb, t1, rfl⟩
  · exact absurd hk (unhide H3)
  · rw [unhide HA] at hb; cases hb
  rw [t1.is, hb]
  generalize hv : g.v = v
  have V := hide hv; have T1 := hide (t1.mono (C := 0) (Nat.zero_le _))
  clear t1 hv hb
  obtain ⟨x1a, x1b, x1c⟩ := deed_cells (unhide S1).oa
  obtain ⟨y1a, y1b, y1c⟩ := deed_cells (unhide S1).ob
  have on1 := cell_of_obj (unhide S1).on 0
  have om1 := cell_of_obj (unhide S1).om 0
  have oh1 := cell_of_obj (unhide S1).oh 0
  have oi1 := cell_of_obj (unhide S1).oi 0
  have oo1 := cell_of_obj (unhide S1).oo 0
  have K1 := bad_ok a w1
  rw [unhide HA] at K1
  have J1 := hide K1; clear K1
  go_wp2_with fail
  refine (unhide J1).mono ?_
  rintro e w2 ⟨rfl, f1⟩
  have S2 := hide ((unhide S1).keep f1 (fun _ h => h.elim)); have FR2 := hide ((unhide FR1).trans f1)
  have T2 := hide ((unhide T1).keep f1 (fun _ h => h.elim))
  clear J1 S1 FR1 f1 x1a x1b x1c y1a y1b y1c on1 om1 oh1 oi1 oo1 T1
  obtain ⟨x2a, x2b, x2c⟩ := deed_cells (unhide S2).oa
  obtain ⟨y2a, y2b, y2c⟩ := deed_cells (unhide S2).ob
  have on2 := cell_of_obj (unhide S2).on 0
  have om2 := cell_of_obj (unhide S2).om 0
  have oh2 := cell_of_obj (unhide S2).oh 0
  have oi2 := cell_of_obj (unhide S2).oi 0
  have oo2 := cell_of_obj (unhide S2).oo 0
  have K2 := is_ok (unhide T2)
  rw [unhide V] at K2
  have J2 := hide K2; clear K2
  go_wp2_with fail
  refine (unhide J2).mono ?_
  rintro e w3 ⟨rfl, f2⟩
  have S3 := hide ((unhide S2).keep f2 (fun _ h => h.elim)); have FR3 := hide ((unhide FR2).trans f2)
  have T3 := hide ((unhide T2).keep f2 (fun _ h => h.elim))
  clear J2 S2 FR2 f2 x2a x2b x2c y2a y2b y2c on2 om2 oh2 oi2 oo2 T2
  obtain ⟨x3a, x3b, x3c⟩ := deed_cells (unhide S3).oa
  obtain ⟨y3a, y3b, y3c⟩ := deed_cells (unhide S3).ob
  have on3 := cell_of_obj (unhide S3).on 0
  have om3 := cell_of_obj (unhide S3).om 0
  have oh3 := cell_of_obj (unhide S3).oh 0
  have oi3 := cell_of_obj (unhide S3).oi 0
  have oo3 := cell_of_obj (unhide S3).oo 0
  have K3 := awake_ok w3
  have J3 := hide K3; clear K3
  go_wp2_with fail
  refine (unhide J3).mono ?_
  rintro e w4 ⟨rfl, f3⟩
  have S4 := hide ((unhide S3).keep f3 (fun _ h => h.elim)); have FR4 := hide ((unhide FR3).trans f3)
  have T4 := hide ((unhide T3).keep f3 (fun _ h => h.elim))
  clear J3 S3 FR3 f3 x3a x3b x3c y3a y3b y3c on3 om3 oh3 oi3 oo3 T3
  go_wp2
  go_ret
  exact ⟨rfl, unhide FR4⟩

set_option maxHeartbeats 8000000 in
theorem nested_walk_one3 (n : Int) (t : ByteArray) (n' : Int) (t' : ByteArray) (w : World) : Calls Try.prog 5 #[(⟨1, n, t⟩ : Deed).val, (⟨3, n', t'⟩ : Deed).val] w fun e w' => e = .returned (.bool true) ∧ Still w w' := by
  have b1 := beq_bool
  have h0 := mf
  obtain ⟨f0, s0⟩ := laid_seven (⟨1, n, t⟩ : Deed) (⟨3, n', t'⟩ : Deed) w
  have hbh : (⟨3, n', t'⟩ : Deed).behind = 1 := by simp [Deed.behind, Deed.bad]
  have K : ∀ u, NSt w.heap.size (⟨1, n, t⟩ : Deed) (⟨3, n', t'⟩ : Deed) 0 0 0 0 0 u → Calls Try.prog 16 (cap16 w.heap.size) u fun e w' => ∃ g : How, g.ended e ∧ Fr (five w.heap.size) u w' ∧ NSt w.heap.size (⟨1, n, t⟩ : Deed) (⟨3, n', t'⟩ : Deed) 1 1 1 5 0 w' ∧ (⟨3, n', t'⟩ : Deed).tells u.heap.size g w' := fun u h => by have q := nested2_one h; rw [hbh] at q; exact q
  have K1 := hide (nested1_try s0 K)
  have F0 := hide f0
  clear f0 s0 K hbh
  go_enter Try.func5, Try.ntmps5
  go_wp2_with fail
  refine (unhide K1).mono ?_
  rintro e w1 ⟨g, rfl, f1, y, s1, t1⟩
  have S1 := hide s1; have FR1 := hide ((unhide F0).trans' f1 (fun k hk => .inr (by have := hk.1; omega)))
  clear K1 F0 f1 s1
  rcases t1 with ⟨_, rfl, hy⟩ | ⟨hb, _⟩ | ⟨hk, _⟩
  rotate_left
  · simp [Deed.bad] at hb
  · exact absurd rfl hk
  replace hy : n' = y := hy.symm
  subst hy
  simp only [How.v, How.is]
  obtain ⟨x1a, x1b, x1c⟩ := deed_cells (unhide S1).oa
  obtain ⟨y1a, y1b, y1c⟩ := deed_cells (unhide S1).ob
  have on1 := cell_of_obj (unhide S1).on 0
  have om1 := cell_of_obj (unhide S1).om 0
  have oh1 := cell_of_obj (unhide S1).oh 0
  have oi1 := cell_of_obj (unhide S1).oi 0
  have oo1 := cell_of_obj (unhide S1).oo 0
  have K1 := bad_ok (⟨1, n, t⟩ : Deed) w1
  rw [show (⟨1, n, t⟩ : Deed).bad = true from by simp [Deed.bad]] at K1
  have J1 := hide K1; clear K1
  go_wp2_with fail
  refine (unhide J1).mono ?_
  rintro e w2 ⟨rfl, f1⟩
  have S2 := hide ((unhide S1).keep f1 (fun _ h => h.elim)); have FR2 := hide ((unhide FR1).trans f1)
  clear J1 S1 FR1 f1 x1a x1b x1c y1a y1b y1c on1 om1 oh1 oi1 oo1
  obtain ⟨x2a, x2b, x2c⟩ := deed_cells (unhide S2).oa
  obtain ⟨y2a, y2b, y2c⟩ := deed_cells (unhide S2).ob
  have on2 := cell_of_obj (unhide S2).on 0
  have om2 := cell_of_obj (unhide S2).om 0
  have oh2 := cell_of_obj (unhide S2).oh 0
  have oi2 := cell_of_obj (unhide S2).oi 0
  have oo2 := cell_of_obj (unhide S2).oo 0
  have K2 := bad_ok (⟨3, n', t'⟩ : Deed) w2
  rw [show (⟨3, n', t'⟩ : Deed).bad = true from by simp [Deed.bad]] at K2
  have J2 := hide K2; clear K2
  go_wp2_with fail
  refine (unhide J2).mono ?_
  rintro e w3 ⟨rfl, f2⟩
  have S3 := hide ((unhide S2).keep f2 (fun _ h => h.elim)); have FR3 := hide ((unhide FR2).trans f2)
  clear J2 S2 FR2 f2 x2a x2b x2c y2a y2b y2c on2 om2 oh2 oi2 oo2
  obtain ⟨x3a, x3b, x3c⟩ := deed_cells (unhide S3).oa
  obtain ⟨y3a, y3b, y3c⟩ := deed_cells (unhide S3).ob
  have on3 := cell_of_obj (unhide S3).on 0
  have om3 := cell_of_obj (unhide S3).om 0
  have oh3 := cell_of_obj (unhide S3).oh 0
  have oi3 := cell_of_obj (unhide S3).oi 0
  have oo3 := cell_of_obj (unhide S3).oo 0
  have K3 := awake_ok w3
  have J3 := hide K3; clear K3
  go_wp2_with fail
  refine (unhide J3).mono ?_
  rintro e w4 ⟨rfl, f3⟩
  have S4 := hide ((unhide S3).keep f3 (fun _ h => h.elim)); have FR4 := hide ((unhide FR3).trans f3)
  clear J3 S3 FR3 f3 x3a x3b x3c y3a y3b y3c on3 om3 oh3 oi3 oo3
  go_wp2
  go_ret
  exact ⟨rfl, unhide FR4⟩

set_option maxHeartbeats 8000000 in
theorem nested_walk_onex (n : Int) (t : ByteArray) (b : Deed) (hbb : b.bad = true) (hb3 : b.kind ≠ 3) (w : World) : Calls Try.prog 5 #[(⟨1, n, t⟩ : Deed).val, b.val] w fun e w' => e = .returned (.bool true) ∧ Still w w' := by
  have b1 := beq_bool
  have h0 := mf
  obtain ⟨f0, s0⟩ := laid_seven (⟨1, n, t⟩ : Deed) b w
  have hbh : b.behind = 1 := by simp [Deed.behind, hbb]
  have K : ∀ u, NSt w.heap.size (⟨1, n, t⟩ : Deed) b 0 0 0 0 0 u → Calls Try.prog 16 (cap16 w.heap.size) u fun e w' => ∃ g : How, g.ended e ∧ Fr (five w.heap.size) u w' ∧ NSt w.heap.size (⟨1, n, t⟩ : Deed) b 1 1 1 5 0 w' ∧ b.tells u.heap.size g w' := fun u h => by have q := nested2_one h; rw [hbh] at q; exact q
  have K1 := hide (nested1_try s0 K)
  have F0 := hide f0
  have y3 : (b.kind == 3) = false := by simpa using hb3
  have y4 : (b.kind != 3) = true := by simpa using hb3
  have HB := hide hbb; have H3 := hide hb3
  clear f0 s0 K hbh hbb hb3
  go_enter Try.func5, Try.ntmps5
  go_wp2_with fail
  refine (unhide K1).mono ?_
  rintro e w1 ⟨g, rfl, f1, y, s1, t1⟩
  have S1 := hide s1; have FR1 := hide ((unhide F0).trans' f1 (fun k hk => .inr (by have := hk.1; omega)))
  clear K1 F0 f1 s1
  rcases t1 with ⟨hk, _⟩ | ⟨hb, _⟩ | ⟨_, hb, t1, rfl⟩
  · exact absurd hk (unhide H3)
  · rw [unhide HB] at hb; cases hb
  rw [t1.is, hb]
  generalize hv : g.v = v
  have V := hide hv; have T1 := hide (t1.mono (C := 0) (Nat.zero_le _))
  clear t1 hv hb
  obtain ⟨x1a, x1b, x1c⟩ := deed_cells (unhide S1).oa
  obtain ⟨y1a, y1b, y1c⟩ := deed_cells (unhide S1).ob
  have on1 := cell_of_obj (unhide S1).on 0
  have om1 := cell_of_obj (unhide S1).om 0
  have oh1 := cell_of_obj (unhide S1).oh 0
  have oi1 := cell_of_obj (unhide S1).oi 0
  have oo1 := cell_of_obj (unhide S1).oo 0
  have K1 := bad_ok (⟨1, n, t⟩ : Deed) w1
  rw [show (⟨1, n, t⟩ : Deed).bad = true from by simp [Deed.bad]] at K1
  have J1 := hide K1; clear K1
  go_wp2_with fail
  refine (unhide J1).mono ?_
  rintro e w2 ⟨rfl, f1⟩
  have S2 := hide ((unhide S1).keep f1 (fun _ h => h.elim)); have FR2 := hide ((unhide FR1).trans f1)
  have T2 := hide ((unhide T1).keep f1 (fun _ h => h.elim))
  clear J1 S1 FR1 f1 x1a x1b x1c y1a y1b y1c on1 om1 oh1 oi1 oo1 T1
  obtain ⟨x2a, x2b, x2c⟩ := deed_cells (unhide S2).oa
  obtain ⟨y2a, y2b, y2c⟩ := deed_cells (unhide S2).ob
  have on2 := cell_of_obj (unhide S2).on 0
  have om2 := cell_of_obj (unhide S2).om 0
  have oh2 := cell_of_obj (unhide S2).oh 0
  have oi2 := cell_of_obj (unhide S2).oi 0
  have oo2 := cell_of_obj (unhide S2).oo 0
  have K2 := bad_ok b w2
  rw [unhide HB] at K2
  have J2 := hide K2; clear K2
  go_wp2_with fail
  refine (unhide J2).mono ?_
  rintro e w3 ⟨rfl, f2⟩
  have S3 := hide ((unhide S2).keep f2 (fun _ h => h.elim)); have FR3 := hide ((unhide FR2).trans f2)
  have T3 := hide ((unhide T2).keep f2 (fun _ h => h.elim))
  clear J2 S2 FR2 f2 x2a x2b x2c y2a y2b y2c on2 om2 oh2 oi2 oo2 T2
  obtain ⟨x3a, x3b, x3c⟩ := deed_cells (unhide S3).oa
  obtain ⟨y3a, y3b, y3c⟩ := deed_cells (unhide S3).ob
  have on3 := cell_of_obj (unhide S3).on 0
  have om3 := cell_of_obj (unhide S3).om 0
  have oh3 := cell_of_obj (unhide S3).oh 0
  have oi3 := cell_of_obj (unhide S3).oi 0
  have oo3 := cell_of_obj (unhide S3).oo 0
  have K3 := is_ok (unhide T3)
  rw [unhide V] at K3
  have J3 := hide K3; clear K3
  go_wp2_with fail
  refine (unhide J3).mono ?_
  rintro e w4 ⟨rfl, f3⟩
  have S4 := hide ((unhide S3).keep f3 (fun _ h => h.elim)); have FR4 := hide ((unhide FR3).trans f3)
  have T4 := hide ((unhide T3).keep f3 (fun _ h => h.elim))
  clear J3 S3 FR3 f3 x3a x3b x3c y3a y3b y3c on3 om3 oh3 oi3 oo3 T3
  obtain ⟨x4a, x4b, x4c⟩ := deed_cells (unhide S4).oa
  obtain ⟨y4a, y4b, y4c⟩ := deed_cells (unhide S4).ob
  have on4 := cell_of_obj (unhide S4).on 0
  have om4 := cell_of_obj (unhide S4).om 0
  have oh4 := cell_of_obj (unhide S4).oh 0
  have oi4 := cell_of_obj (unhide S4).oi 0
  have oo4 := cell_of_obj (unhide S4).oo 0
  have K4 := awake_ok w4
  have J4 := hide K4; clear K4
  go_wp2_with fail
  refine (unhide J4).mono ?_
  rintro e w5 ⟨rfl, f4⟩
  have S5 := hide ((unhide S4).keep f4 (fun _ h => h.elim)); have FR5 := hide ((unhide FR4).trans f4)
  have T5 := hide ((unhide T4).keep f4 (fun _ h => h.elim))
  clear J4 S4 FR4 f4 x4a x4b x4c y4a y4b y4c on4 om4 oh4 oi4 oo4 T4
  go_wp2
  go_ret
  exact ⟨rfl, unhide FR5⟩

set_option maxHeartbeats 8000000 in
theorem nested_walk_onec (n : Int) (t : ByteArray) (b : Deed) (hbb : b.bad = false) (w : World) : Calls Try.prog 5 #[(⟨1, n, t⟩ : Deed).val, b.val] w fun e w' => e = .returned (.bool true) ∧ Still w w' := by
  have b1 := beq_bool
  have h0 := mf
  obtain ⟨f0, s0⟩ := laid_seven (⟨1, n, t⟩ : Deed) b w
  have hbh : b.behind = 2 := by simp [Deed.behind, hbb]
  have K : ∀ u, NSt w.heap.size (⟨1, n, t⟩ : Deed) b 0 0 0 0 0 u → Calls Try.prog 16 (cap16 w.heap.size) u fun e w' => ∃ g : How, g.ended e ∧ Fr (five w.heap.size) u w' ∧ NSt w.heap.size (⟨1, n, t⟩ : Deed) b 1 1 2 5 0 w' ∧ b.tells u.heap.size g w' := fun u h => by have q := nested2_one h; rw [hbh] at q; exact q
  have K1 := hide (nested1_try s0 K)
  have F0 := hide f0
  have HB := hide hbb
  clear f0 s0 K hbh hbb
  go_enter Try.func5, Try.ntmps5
  go_wp2_with fail
  refine (unhide K1).mono ?_
  rintro e w1 ⟨g, rfl, f1, y, s1, t1⟩
  have S1 := hide s1; have FR1 := hide ((unhide F0).trans' f1 (fun k hk => .inr (by have := hk.1; omega)))
  clear K1 F0 f1 s1
  rcases t1 with ⟨hk, _⟩ | ⟨_, rfl, rfl⟩ | ⟨_, hb, _⟩
  · have := unhide HB; simp [Deed.bad, hk] at this
  rotate_left
  · rw [unhide HB] at hb; cases hb
  simp only [How.v, How.is]
  obtain ⟨x1a, x1b, x1c⟩ := deed_cells (unhide S1).oa
  obtain ⟨y1a, y1b, y1c⟩ := deed_cells (unhide S1).ob
  have on1 := cell_of_obj (unhide S1).on 0
  have om1 := cell_of_obj (unhide S1).om 0
  have oh1 := cell_of_obj (unhide S1).oh 0
  have oi1 := cell_of_obj (unhide S1).oi 0
  have oo1 := cell_of_obj (unhide S1).oo 0
  have K1 := bad_ok (⟨1, n, t⟩ : Deed) w1
  rw [show (⟨1, n, t⟩ : Deed).bad = true from by simp [Deed.bad]] at K1
  have J1 := hide K1; clear K1
  go_wp2_with fail
  refine (unhide J1).mono ?_
  rintro e w2 ⟨rfl, f1⟩
  have S2 := hide ((unhide S1).keep f1 (fun _ h => h.elim)); have FR2 := hide ((unhide FR1).trans f1)
  clear J1 S1 FR1 f1 x1a x1b x1c y1a y1b y1c on1 om1 oh1 oi1 oo1
  obtain ⟨x2a, x2b, x2c⟩ := deed_cells (unhide S2).oa
  obtain ⟨y2a, y2b, y2c⟩ := deed_cells (unhide S2).ob
  have on2 := cell_of_obj (unhide S2).on 0
  have om2 := cell_of_obj (unhide S2).om 0
  have oh2 := cell_of_obj (unhide S2).oh 0
  have oi2 := cell_of_obj (unhide S2).oi 0
  have oo2 := cell_of_obj (unhide S2).oo 0
  have K2 := bad_ok b w2
  rw [unhide HB] at K2
  have J2 := hide K2; clear K2
  go_wp2_with fail
  refine (unhide J2).mono ?_
  rintro e w3 ⟨rfl, f2⟩
  have S3 := hide ((unhide S2).keep f2 (fun _ h => h.elim)); have FR3 := hide ((unhide FR2).trans f2)
  clear J2 S2 FR2 f2 x2a x2b x2c y2a y2b y2c on2 om2 oh2 oi2 oo2
  obtain ⟨x3a, x3b, x3c⟩ := deed_cells (unhide S3).oa
  obtain ⟨y3a, y3b, y3c⟩ := deed_cells (unhide S3).ob
  have on3 := cell_of_obj (unhide S3).on 0
  have om3 := cell_of_obj (unhide S3).om 0
  have oh3 := cell_of_obj (unhide S3).oh 0
  have oi3 := cell_of_obj (unhide S3).oi 0
  have oo3 := cell_of_obj (unhide S3).oo 0
  have K3 := awake_ok w3
  have J3 := hide K3; clear K3
  go_wp2_with fail
  refine (unhide J3).mono ?_
  rintro e w4 ⟨rfl, f3⟩
  have S4 := hide ((unhide S3).keep f3 (fun _ h => h.elim)); have FR4 := hide ((unhide FR3).trans f3)
  clear J3 S3 FR3 f3 x3a x3b x3c y3a y3b y3c on3 om3 oh3 oi3 oo3
  go_wp2
  go_ret
  exact ⟨rfl, unhide FR4⟩

set_option maxHeartbeats 8000000 in
theorem nested_walk_no3 (a : Deed) (n' : Int) (t' : ByteArray) (hab : a.bad = false) (w : World) : Calls Try.prog 5 #[a.val, (⟨3, n', t'⟩ : Deed).val] w fun e w' => e = .returned (.bool true) ∧ Still w w' := by
  have b1 := beq_bool
  have h0 := mf
  obtain ⟨f0, s0⟩ := laid_seven a (⟨3, n', t'⟩ : Deed) w
  have hbh : (⟨3, n', t'⟩ : Deed).behind = 1 := by simp [Deed.behind, Deed.bad]
  have K : ∀ u, NSt w.heap.size a (⟨3, n', t'⟩ : Deed) 0 0 0 0 0 u → Calls Try.prog 16 (cap16 w.heap.size) u fun e w' => ∃ g : How, g.ended e ∧ Fr (five w.heap.size) u w' ∧ NSt w.heap.size a (⟨3, n', t'⟩ : Deed) 1 1 1 0 0 w' ∧ (⟨3, n', t'⟩ : Deed).tells u.heap.size g w' := fun u h => by have q := nested2_none h hab; rw [hbh] at q; exact q
  have K1 := hide (nested1_try s0 K)
  have F0 := hide f0
  have ha1 : a.kind ≠ 1 := fun e => by simp [Deed.bad, e] at hab
  have x1 : (a.kind == 1) = false := by simpa using ha1
  have x2 : (a.kind != 1) = true := by simpa using ha1
  have HA := hide hab
  clear f0 s0 K hbh hab ha1
  go_enter Try.func5, Try.ntmps5
  go_wp2_with fail
  refine (unhide K1).mono ?_
  rintro e w1 ⟨g, rfl, f1, y, s1, t1⟩
  have S1 := hide s1; have FR1 := hide ((unhide F0).trans' f1 (fun k hk => .inr (by have := hk.1; omega)))
  clear K1 F0 f1 s1
  rcases t1 with ⟨_, rfl, hy⟩ | ⟨hb, _⟩ | ⟨hk, _⟩
  rotate_left
  · simp [Deed.bad] at hb
  · exact absurd rfl hk
  replace hy : n' = y := hy.symm
  subst hy
  simp only [How.v, How.is]
  obtain ⟨x1a, x1b, x1c⟩ := deed_cells (unhide S1).oa
  obtain ⟨y1a, y1b, y1c⟩ := deed_cells (unhide S1).ob
  have on1 := cell_of_obj (unhide S1).on 0
  have om1 := cell_of_obj (unhide S1).om 0
  have oh1 := cell_of_obj (unhide S1).oh 0
  have oi1 := cell_of_obj (unhide S1).oi 0
  have oo1 := cell_of_obj (unhide S1).oo 0
  have K1 := bad_ok a w1
  rw [unhide HA] at K1
  have J1 := hide K1; clear K1
  go_wp2_with fail
  refine (unhide J1).mono ?_
  rintro e w2 ⟨rfl, f1⟩
  have S2 := hide ((unhide S1).keep f1 (fun _ h => h.elim)); have FR2 := hide ((unhide FR1).trans f1)
  clear J1 S1 FR1 f1 x1a x1b x1c y1a y1b y1c on1 om1 oh1 oi1 oo1
  obtain ⟨x2a, x2b, x2c⟩ := deed_cells (unhide S2).oa
  obtain ⟨y2a, y2b, y2c⟩ := deed_cells (unhide S2).ob
  have on2 := cell_of_obj (unhide S2).on 0
  have om2 := cell_of_obj (unhide S2).om 0
  have oh2 := cell_of_obj (unhide S2).oh 0
  have oi2 := cell_of_obj (unhide S2).oi 0
  have oo2 := cell_of_obj (unhide S2).oo 0
  have K2 := bad_ok (⟨3, n', t'⟩ : Deed) w2
  rw [show (⟨3, n', t'⟩ : Deed).bad = true from by simp [Deed.bad]] at K2
  have J2 := hide K2; clear K2
  go_wp2_with fail
  refine (unhide J2).mono ?_
  rintro e w3 ⟨rfl, f2⟩
  have S3 := hide ((unhide S2).keep f2 (fun _ h => h.elim)); have FR3 := hide ((unhide FR2).trans f2)
  clear J2 S2 FR2 f2 x2a x2b x2c y2a y2b y2c on2 om2 oh2 oi2 oo2
  obtain ⟨x3a, x3b, x3c⟩ := deed_cells (unhide S3).oa
  obtain ⟨y3a, y3b, y3c⟩ := deed_cells (unhide S3).ob
  have on3 := cell_of_obj (unhide S3).on 0
  have om3 := cell_of_obj (unhide S3).om 0
  have oh3 := cell_of_obj (unhide S3).oh 0
  have oi3 := cell_of_obj (unhide S3).oi 0
  have oo3 := cell_of_obj (unhide S3).oo 0
  have K3 := awake_ok w3
  have J3 := hide K3; clear K3
  go_wp2_with fail
  refine (unhide J3).mono ?_
  rintro e w4 ⟨rfl, f3⟩
  have S4 := hide ((unhide S3).keep f3 (fun _ h => h.elim)); have FR4 := hide ((unhide FR3).trans f3)
  clear J3 S3 FR3 f3 x3a x3b x3c y3a y3b y3c on3 om3 oh3 oi3 oo3
  go_wp2
  go_ret
  exact ⟨rfl, unhide FR4⟩

set_option maxHeartbeats 8000000 in
theorem nested_walk_nox (a : Deed) (b : Deed) (hab : a.bad = false) (hbb : b.bad = true) (hb3 : b.kind ≠ 3) (w : World) : Calls Try.prog 5 #[a.val, b.val] w fun e w' => e = .returned (.bool true) ∧ Still w w' := by
  have b1 := beq_bool
  have h0 := mf
  obtain ⟨f0, s0⟩ := laid_seven a b w
  have hbh : b.behind = 1 := by simp [Deed.behind, hbb]
  have K : ∀ u, NSt w.heap.size a b 0 0 0 0 0 u → Calls Try.prog 16 (cap16 w.heap.size) u fun e w' => ∃ g : How, g.ended e ∧ Fr (five w.heap.size) u w' ∧ NSt w.heap.size a b 1 1 1 0 0 w' ∧ b.tells u.heap.size g w' := fun u h => by have q := nested2_none h hab; rw [hbh] at q; exact q
  have K1 := hide (nested1_try s0 K)
  have F0 := hide f0
  have ha1 : a.kind ≠ 1 := fun e => by simp [Deed.bad, e] at hab
  have x1 : (a.kind == 1) = false := by simpa using ha1
  have x2 : (a.kind != 1) = true := by simpa using ha1
  have HA := hide hab
  have y3 : (b.kind == 3) = false := by simpa using hb3
  have y4 : (b.kind != 3) = true := by simpa using hb3
  have HB := hide hbb; have H3 := hide hb3
  clear f0 s0 K hbh hab ha1 hbb hb3
  go_enter Try.func5, Try.ntmps5
  go_wp2_with fail
  refine (unhide K1).mono ?_
  rintro e w1 ⟨g, rfl, f1, y, s1, t1⟩
  have S1 := hide s1; have FR1 := hide ((unhide F0).trans' f1 (fun k hk => .inr (by have := hk.1; omega)))
  clear K1 F0 f1 s1
  rcases t1 with ⟨hk, _⟩ | ⟨hb, _⟩ | ⟨_, hb, t1, rfl⟩
  · exact absurd hk (unhide H3)
  · rw [unhide HB] at hb; cases hb
  rw [t1.is, hb]
  generalize hv : g.v = v
  have V := hide hv; have T1 := hide (t1.mono (C := 0) (Nat.zero_le _))
  clear t1 hv hb
  obtain ⟨x1a, x1b, x1c⟩ := deed_cells (unhide S1).oa
  obtain ⟨y1a, y1b, y1c⟩ := deed_cells (unhide S1).ob
  have on1 := cell_of_obj (unhide S1).on 0
  have om1 := cell_of_obj (unhide S1).om 0
  have oh1 := cell_of_obj (unhide S1).oh 0
  have oi1 := cell_of_obj (unhide S1).oi 0
  have oo1 := cell_of_obj (unhide S1).oo 0
  have K1 := bad_ok a w1
  rw [unhide HA] at K1
  have J1 := hide K1; clear K1
  go_wp2_with fail
  refine (unhide J1).mono ?_
  rintro e w2 ⟨rfl, f1⟩
  have S2 := hide ((unhide S1).keep f1 (fun _ h => h.elim)); have FR2 := hide ((unhide FR1).trans f1)
  have T2 := hide ((unhide T1).keep f1 (fun _ h => h.elim))
  clear J1 S1 FR1 f1 x1a x1b x1c y1a y1b y1c on1 om1 oh1 oi1 oo1 T1
  obtain ⟨x2a, x2b, x2c⟩ := deed_cells (unhide S2).oa
  obtain ⟨y2a, y2b, y2c⟩ := deed_cells (unhide S2).ob
  have on2 := cell_of_obj (unhide S2).on 0
  have om2 := cell_of_obj (unhide S2).om 0
  have oh2 := cell_of_obj (unhide S2).oh 0
  have oi2 := cell_of_obj (unhide S2).oi 0
  have oo2 := cell_of_obj (unhide S2).oo 0
  have K2 := bad_ok b w2
  rw [unhide HB] at K2
  have J2 := hide K2; clear K2
  go_wp2_with fail
  refine (unhide J2).mono ?_
  rintro e w3 ⟨rfl, f2⟩
  have S3 := hide ((unhide S2).keep f2 (fun _ h => h.elim)); have FR3 := hide ((unhide FR2).trans f2)
  have T3 := hide ((unhide T2).keep f2 (fun _ h => h.elim))
  clear J2 S2 FR2 f2 x2a x2b x2c y2a y2b y2c on2 om2 oh2 oi2 oo2 T2
  obtain ⟨x3a, x3b, x3c⟩ := deed_cells (unhide S3).oa
  obtain ⟨y3a, y3b, y3c⟩ := deed_cells (unhide S3).ob
  have on3 := cell_of_obj (unhide S3).on 0
  have om3 := cell_of_obj (unhide S3).om 0
  have oh3 := cell_of_obj (unhide S3).oh 0
  have oi3 := cell_of_obj (unhide S3).oi 0
  have oo3 := cell_of_obj (unhide S3).oo 0
  have K3 := is_ok (unhide T3)
  rw [unhide V] at K3
  have J3 := hide K3; clear K3
  go_wp2_with fail
  refine (unhide J3).mono ?_
  rintro e w4 ⟨rfl, f3⟩
  have S4 := hide ((unhide S3).keep f3 (fun _ h => h.elim)); have FR4 := hide ((unhide FR3).trans f3)
  have T4 := hide ((unhide T3).keep f3 (fun _ h => h.elim))
  clear J3 S3 FR3 f3 x3a x3b x3c y3a y3b y3c on3 om3 oh3 oi3 oo3 T3
  obtain ⟨x4a, x4b, x4c⟩ := deed_cells (unhide S4).oa
  obtain ⟨y4a, y4b, y4c⟩ := deed_cells (unhide S4).ob
  have on4 := cell_of_obj (unhide S4).on 0
  have om4 := cell_of_obj (unhide S4).om 0
  have oh4 := cell_of_obj (unhide S4).oh 0
  have oi4 := cell_of_obj (unhide S4).oi 0
  have oo4 := cell_of_obj (unhide S4).oo 0
  have K4 := awake_ok w4
  have J4 := hide K4; clear K4
  go_wp2_with fail
  refine (unhide J4).mono ?_
  rintro e w5 ⟨rfl, f4⟩
  have S5 := hide ((unhide S4).keep f4 (fun _ h => h.elim)); have FR5 := hide ((unhide FR4).trans f4)
  have T5 := hide ((unhide T4).keep f4 (fun _ h => h.elim))
  clear J4 S4 FR4 f4 x4a x4b x4c y4a y4b y4c on4 om4 oh4 oi4 oo4 T4
  go_wp2
  go_ret
  exact ⟨rfl, unhide FR5⟩

set_option maxHeartbeats 8000000 in
theorem nested_walk_noc (a : Deed) (b : Deed) (hab : a.bad = false) (hbb : b.bad = false) (w : World) : Calls Try.prog 5 #[a.val, b.val] w fun e w' => e = .returned (.bool true) ∧ Still w w' := by
  have b1 := beq_bool
  have h0 := mf
  obtain ⟨f0, s0⟩ := laid_seven a b w
  have hbh : b.behind = 2 := by simp [Deed.behind, hbb]
  have K : ∀ u, NSt w.heap.size a b 0 0 0 0 0 u → Calls Try.prog 16 (cap16 w.heap.size) u fun e w' => ∃ g : How, g.ended e ∧ Fr (five w.heap.size) u w' ∧ NSt w.heap.size a b 1 1 2 0 0 w' ∧ b.tells u.heap.size g w' := fun u h => by have q := nested2_none h hab; rw [hbh] at q; exact q
  have K1 := hide (nested1_try s0 K)
  have F0 := hide f0
  have ha1 : a.kind ≠ 1 := fun e => by simp [Deed.bad, e] at hab
  have x1 : (a.kind == 1) = false := by simpa using ha1
  have x2 : (a.kind != 1) = true := by simpa using ha1
  have HA := hide hab
  have HB := hide hbb
  clear f0 s0 K hbh hab ha1 hbb
  go_enter Try.func5, Try.ntmps5
  go_wp2_with fail
  refine (unhide K1).mono ?_
  rintro e w1 ⟨g, rfl, f1, y, s1, t1⟩
  have S1 := hide s1; have FR1 := hide ((unhide F0).trans' f1 (fun k hk => .inr (by have := hk.1; omega)))
  clear K1 F0 f1 s1
  rcases t1 with ⟨hk, _⟩ | ⟨_, rfl, rfl⟩ | ⟨_, hb, _⟩
  · have := unhide HB; simp [Deed.bad, hk] at this
  rotate_left
  · rw [unhide HB] at hb; cases hb
  simp only [How.v, How.is]
  obtain ⟨x1a, x1b, x1c⟩ := deed_cells (unhide S1).oa
  obtain ⟨y1a, y1b, y1c⟩ := deed_cells (unhide S1).ob
  have on1 := cell_of_obj (unhide S1).on 0
  have om1 := cell_of_obj (unhide S1).om 0
  have oh1 := cell_of_obj (unhide S1).oh 0
  have oi1 := cell_of_obj (unhide S1).oi 0
  have oo1 := cell_of_obj (unhide S1).oo 0
  have K1 := bad_ok a w1
  rw [unhide HA] at K1
  have J1 := hide K1; clear K1
  go_wp2_with fail
  refine (unhide J1).mono ?_
  rintro e w2 ⟨rfl, f1⟩
  have S2 := hide ((unhide S1).keep f1 (fun _ h => h.elim)); have FR2 := hide ((unhide FR1).trans f1)
  clear J1 S1 FR1 f1 x1a x1b x1c y1a y1b y1c on1 om1 oh1 oi1 oo1
  obtain ⟨x2a, x2b, x2c⟩ := deed_cells (unhide S2).oa
  obtain ⟨y2a, y2b, y2c⟩ := deed_cells (unhide S2).ob
  have on2 := cell_of_obj (unhide S2).on 0
  have om2 := cell_of_obj (unhide S2).om 0
  have oh2 := cell_of_obj (unhide S2).oh 0
  have oi2 := cell_of_obj (unhide S2).oi 0
  have oo2 := cell_of_obj (unhide S2).oo 0
  have K2 := bad_ok b w2
  rw [unhide HB] at K2
  have J2 := hide K2; clear K2
  go_wp2_with fail
  refine (unhide J2).mono ?_
  rintro e w3 ⟨rfl, f2⟩
  have S3 := hide ((unhide S2).keep f2 (fun _ h => h.elim)); have FR3 := hide ((unhide FR2).trans f2)
  clear J2 S2 FR2 f2 x2a x2b x2c y2a y2b y2c on2 om2 oh2 oi2 oo2
  obtain ⟨x3a, x3b, x3c⟩ := deed_cells (unhide S3).oa
  obtain ⟨y3a, y3b, y3c⟩ := deed_cells (unhide S3).ob
  have on3 := cell_of_obj (unhide S3).on 0
  have om3 := cell_of_obj (unhide S3).om 0
  have oh3 := cell_of_obj (unhide S3).oh 0
  have oi3 := cell_of_obj (unhide S3).oi 0
  have oo3 := cell_of_obj (unhide S3).oo 0
  have K3 := awake_ok w3
  have J3 := hide K3; clear K3
  go_wp2_with fail
  refine (unhide J3).mono ?_
  rintro e w4 ⟨rfl, f3⟩
  have S4 := hide ((unhide S3).keep f3 (fun _ h => h.elim)); have FR4 := hide ((unhide FR3).trans f3)
  clear J3 S3 FR3 f3 x3a x3b x3c y3a y3b y3c on3 om3 oh3 oi3 oo3
  go_wp2
  go_ret
  exact ⟨rfl, unhide FR4⟩

theorem nested_walk (a b : Deed) (w : World) : Calls Try.prog 5 #[a.val, b.val] w fun e w' => e = .returned (.bool true) ∧ Still w w' := by
  by_cases k1 : a.kind = 1
  · obtain ⟨k, n, t⟩ := a; cases k1
    by_cases k3 : b.kind = 3
    · obtain ⟨k, n', t'⟩ := b; cases k3; exact nested_walk_one3 n t n' t' w
    · cases hb : b.bad
      · exact nested_walk_onec n t b hb w
      · exact nested_walk_onex n t b hb k3 w
  · cases ha : a.bad
    · by_cases k3 : b.kind = 3
      · obtain ⟨k, n', t'⟩ := b; cases k3; exact nested_walk_no3 a n' t' ha w
      · cases hb : b.bad
        · exact nested_walk_noc a b ha hb w
        · exact nested_walk_nox a b ha hb k3 w
    · by_cases k3 : a.kind = 3
      · obtain ⟨k, n, t⟩ := a; cases k3; exact nested_walk_a3 n t b w
      · exact nested_walk_ax a b ha k1 k3 w
end Go.Proofs.Ytebfocfofoajkab
