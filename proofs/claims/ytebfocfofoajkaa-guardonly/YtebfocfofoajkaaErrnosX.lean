/- GuardErrnos, the law. -/
import Derived.Test.YtebfocfofoajkaaErrnosW
namespace Go.Proofs.Ytebfocfofoajkaa
open Go.RowKit

/-- What the first rows of a law lay: its act, its counter, one cell more. -/
theorem laid_three (a : Deed) (w : World) (v : Value) (t : Nat) : Still w (((w.alloc a.obj).alloc (.cells #[.int .i64 0] 3)).alloc (.cells #[v] t)) ∧ (((w.alloc a.obj).alloc (.cells #[.int .i64 0] 3)).alloc (.cells #[v] t)).heap[w.heap.size]? = some a.obj ∧
    (((w.alloc a.obj).alloc (.cells #[.int .i64 0] 3)).alloc (.cells #[v] t)).heap[w.heap.size + 1]? = some (.cells #[.int .i64 0] 3) ∧
    (((w.alloc a.obj).alloc (.cells #[.int .i64 0] 3)).alloc (.cells #[v] t)).heap[w.heap.size + 2]? = some (.cells #[v] t) := by
  obtain ⟨f, h1, h2⟩ := laid_two a w
  have f2 : Still ((w.alloc a.obj).alloc (.cells #[.int .i64 0] 3)) (((w.alloc a.obj).alloc (.cells #[.int .i64 0] 3)).alloc (.cells #[v] t)) := (Fr.refl _ _).alloc _
  refine ⟨f.trans f2, f2.obj h1 (fun h => h), f2.obj h2 (fun h => h), ?_⟩
  have := obj_alloc_new ((w.alloc a.obj).alloc (.cells #[.int .i64 0] 3)) (.cells #[v] t)
  rwa [World.size_alloc, World.size_alloc] at this

theorem errnos1_caught {a : Deed} {pa c pe : Nat} {x : Int} {w : World} (oa : w.heap[pa]? = some a.obj) (oc : w.heap[c]? = some (.cells #[.int .i64 x] 3)) (oe : w.heap[pe]? = some (.cells #[.int .i64 0] 25))
    (hx : 0 ≤ x ∧ x < 1000000) (ce : c ≠ pe) :
    Calls Try.prog 24 #[.func (.func 30) #[] #[ptr pa, ptr c, ptr pe]] w fun e w' => ∃ h : How, e = .returned h.v ∧ Fr (fun k => k = c ∨ k = pe) w w' ∧ w'.heap[c]? = some (.cells #[.int .i64 (x + 1)] 3) ∧
      ∃ y, w'.heap[pe]? = some (.cells #[.int .i64 y] 25) ∧ a.errnoed (w.heap.size + 1) h y w' := by
  have fb : Still w (w.alloc box) := (Fr.refl _ w).alloc box
  have lc := lt_of_obj oc; have le := lt_of_obj oe
  refine caught_fr (S := fun h w' => w'.heap[c]? = some (.cells #[.int .i64 (x + 1)] 3) ∧ ∃ y, w'.heap[pe]? = some (.cells #[.int .i64 y] 25) ∧ a.errnoed (w.heap.size + 1) h y w') enters30 (fun k hk => by rcases hk with rfl | rfl <;> assumption)
    ((errnos1_ok (fb.obj oa (fun h => h)) (fb.obj oc (fun h => h)) (fb.obj oe (fun h => h)) hx ce).mono ?_)
  rintro e w1 ⟨h, he, fr, hc, y, ho, t⟩
  refine ⟨h, he, fr, fun w2 f2 => ⟨f2.obj hc (by omega), y, f2.obj ho (by omega), ?_⟩⟩
  rw [World.size_alloc] at t
  rcases t with t | t | ⟨t1, t2, t3, t4⟩
  · exact .inl t
  · exact .inr (.inl t)
  · exact .inr (.inr ⟨t1, t2, t3.keep f2 (fun k e => by omega), t4⟩)

set_option maxHeartbeats 4000000 in
theorem errnos_walk (a : Deed) (w : World) : Calls Try.prog 7 #[a.val] w fun e w' => e = .returned (.bool true) ∧ Still w w' := by
  have h1 := mf
  have b2 := nil_nil
  obtain ⟨f0, oa, oc, oe⟩ := laid_three a w (.int .i64 0) 25
  have K1 := hide (errnos1_caught oa oc oe (by omega) (by omega))
  have F0 := hide f0; have OA := hide oa
  clear f0 oa oc oe
  go_enter Try.func7, Try.ntmps7
  go_wp2_with fail
  refine (unhide K1).mono ?_
  rintro e w1 ⟨h, rfl, f1, c1, y, e1, t1⟩
  have oa1 := f1.obj (unhide OA) (by omega)
  have fr1 : Still w w1 := (unhide F0).trans' f1 (fun k hk => .inr (by omega))
  have c1c := cell_of_obj c1 0
  have K2 := hide (errno_raw (try_nil w1) (by rintro h w' ⟨_, rfl⟩; simp [How.known]))
  have FR1 := hide fr1; have OA1 := hide oa1; have E1 := hide e1; have T1 := hide t1
  clear K1 F0 OA f1 fr1 oa1 c1 e1 t1
  generalize hv : h.v = v
  have HV := hide hv; clear hv
  go_wp2_with fail
  refine (unhide K2).mono ?_
  rintro e w2 ⟨h2, he2, f2, rfl⟩
  cases he2
  have oa2 := f2.obj (unhide OA1) (fun h => h)
  have fr2 := (unhide FR1).trans f2
  have e2c := cell_of_obj (f2.obj (unhide E1) (fun h => h)) 0
  obtain ⟨d0, d1, d2⟩ := deed_cells oa2
  have FR2 := hide fr2; have OA2 := hide oa2
  have t1 := unhide T1
  have hv := unhide HV
  clear K2 FR1 OA1 E1 fr2 oa2 T1 HV c1c
  rcases t1 with ⟨hk, rfl, rfl⟩ | ⟨hb, rfl, rfl⟩ | ⟨hk, hb, t, rfl⟩
  · subst hv
    simp only [How.v]
    have K6 := hide (awake_ok w2)
    have F2 := hide f2; clear f2
    go_wp2_with fail
    refine (unhide K6).mono ?_
    rintro e w3 ⟨rfl, f3⟩
    have FR3 := hide ((unhide FR2).trans f3)
    clear K6 f3
    go_wp2
    go_ret
    exact ⟨rfl, unhide FR3⟩
  · subst hv
    simp only [How.v]
    have hk : (a.kind == 3) = false := by
      have : a.kind ≠ 3 := fun e => by simp [Deed.bad, e] at hb
      simpa using this
    have K5 := bad_ok a w2
    rw [hb] at K5
    have HK5 := hide K5
    clear hb f2 K5
    go_wp2_with fail
    refine (unhide HK5).mono ?_
    rintro e w3 ⟨rfl, f3⟩
    have e3c := f3.cell' e2c (fun h => h)
    have d0' := f3.cell' d0 (fun h => h)
    have FR3 := hide ((unhide FR2).trans f3)
    have K6 := hide (awake_ok w3)
    clear HK5 f3 e2c d0 d1 d2 FR2 OA2
    go_wp2_with fail
    refine (unhide K6).mono ?_
    rintro e w4 ⟨rfl, f4⟩
    have FR4 := hide ((unhide FR3).trans f4)
    clear K6 f4
    go_wp2
    go_ret
    exact ⟨rfl, unhide FR4⟩
  · have hk' : (a.kind == 3) = false := by simpa using hk
    have K5 := bad_ok a w2
    rw [hb] at K5
    have HK5 := hide K5
    have HV := hide hv; have T := hide (t.keep f2 (fun _ h => h.elim))
    clear hb f2 K5 hk hv t
    go_wp2_with fail
    refine (unhide HK5).mono ?_
    rintro e w3 ⟨rfl, f3⟩
    have e3c := f3.cell' e2c (fun h => h)
    obtain ⟨d0', d1', d2'⟩ := deed_cells (f3.obj (unhide OA2) (fun h => h))
    have K6 := is_ok ((unhide T).keep f3 (fun _ h => h.elim))
    rw [unhide HV] at K6
    have FR3 := hide ((unhide FR2).trans f3)
    have HK6 := hide K6
    clear HK5 f3 e2c d0 d1 d2 FR2 OA2 K6 T HV
    go_wp2_with fail
    refine (unhide HK6).mono ?_
    rintro e w4 ⟨rfl, f4⟩
    have e4c := f4.cell' e3c (fun h => h)
    have FR4 := hide ((unhide FR3).trans f4)
    have K7 := hide (awake_ok w4)
    clear HK6 f4 FR3 e3c d0' d1' d2'
    go_wp2_with fail
    refine (unhide K7).mono ?_
    rintro e w5 ⟨rfl, f5⟩
    have FR5 := hide ((unhide FR4).trans f5)
    clear K7 f5
    go_wp2
    go_ret
    exact ⟨rfl, unhide FR5⟩
end Go.Proofs.Ytebfocfofoajkaa
