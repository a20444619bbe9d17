/- GuardLasts, walked. -/
import Derived.Test.YtebfocfofoajkaaLastsC
namespace Go.Proofs.Ytebfocfofoajkaa
open Go.RowKit

theorem lasts1_caught {a b : Deed} {pa c pb m : Nat} {x y : Int} {w : World} (oa : w.heap[pa]? = some a.obj) (oc : w.heap[c]? = some (.cells #[.int .i64 x] 3)) (ob : w.heap[pb]? = some b.obj) (om : w.heap[m]? = some (.cells #[.int .i64 y] 3))
    (hx : 0 ≤ x ∧ x < 1000000) (hy : 0 ≤ y ∧ y < 1000000) (cm : c ≠ m) :
    Calls Try.prog 24 #[.func (.func 31) #[] #[ptr pa, ptr c, ptr pb, ptr m]] w fun e w' => ∃ h : How, e = .returned h.v ∧ Ended2 a b c m x y w (w.heap.size + 1) h w' := by
  have fb : Still w (w.alloc box) := (Fr.refl _ w).alloc box
  have lc := lt_of_obj oc; have lm := lt_of_obj om
  refine (caught_fr (first := #[]) (cap := #[ptr pa, ptr c, ptr pb, ptr m]) (F := fun k => k = c ∨ k = m) (S := fun h w' => w'.heap[c]? = some (.cells #[.int .i64 (x + 1)] 3) ∧ w'.heap[m]? = some (.cells #[.int .i64 (y + 1)] 3) ∧ ∃ h1 h2, h = h1.behind h2 ∧ Both a b (w.heap.size + 1) h1 h2 w') enters31 (fun k hk => by rcases hk with rfl | rfl <;> assumption)
    ((lasts1_ok (fb.obj oa (fun h => h)) (fb.obj oc (fun h => h)) (fb.obj ob (fun h => h)) (fb.obj om (fun h => h)) hx hy cm).mono ?_)).mono ?_
  · rintro e w1 ⟨h, he, fr, hc, hm, g1, g2, hh, t⟩
    rw [World.size_alloc] at t
    exact ⟨h, he, fr, fun w2 f2 => ⟨f2.obj hc (by omega), f2.obj hm (by omega), g1, g2, hh, t.keep f2 (fun k e => by omega)⟩⟩
  · rintro e w' ⟨h, he, fr, h1, h2, h3⟩
    exact ⟨h, he, fr, h1, h2, h3⟩

theorem lasts2_caught {b : Deed} {pb m : Nat} {y : Int} {w : World} (ob : w.heap[pb]? = some b.obj) (om : w.heap[m]? = some (.cells #[.int .i64 y] 3)) (hy : 0 ≤ y ∧ y < 1000000) :
    Calls Try.prog 24 #[.func (.func 32) #[] #[ptr pb, ptr m]] w fun e w' => ∃ h : How, e = .returned h.v ∧ Fr (fun k => k = m) w w' ∧ w'.heap[m]? = some (.cells #[.int .i64 (y + 1)] 3) ∧ b.tells (w.heap.size + 1) h w' := by
  have fb : Still w (w.alloc box) := (Fr.refl _ w).alloc box
  have lm := lt_of_obj om
  refine caught_fr (first := #[]) (cap := #[ptr pb, ptr m]) (S := fun h w' => w'.heap[m]? = some (.cells #[.int .i64 (y + 1)] 3) ∧ b.tells (w.heap.size + 1) h w') enters32 (fun k hk => by subst hk; exact lm) ((lasts2_ok (fb.obj ob (fun h => h)) (fb.obj om (fun h => h)) hy).mono ?_)
  rintro e w1 ⟨h, he, fr, hm, t⟩
  rw [World.size_alloc] at t
  exact ⟨h, he, fr, fun w2 f2 => ⟨f2.obj hm (by omega), t.keep f2 (fun k e => by omega)⟩⟩

/-- What the first rows of the law lay: two acts, two counters. -/
abbrev four (a b : Deed) (w : World) : World := (((w.alloc a.obj).alloc b.obj).alloc (.cells #[.int .i64 0] 3)).alloc (.cells #[.int .i64 0] 3)
theorem laid_four (a b : Deed) (w : World) : Still w (four a b w) ∧ (four a b w).heap[w.heap.size]? = some a.obj ∧ (four a b w).heap[w.heap.size + 1]? = some b.obj ∧
    (four a b w).heap[w.heap.size + 2]? = some (.cells #[.int .i64 0] 3) ∧ (four a b w).heap[w.heap.size + 3]? = some (.cells #[.int .i64 0] 3) := by
  have f1 : Still w (w.alloc a.obj) := (Fr.refl _ w).alloc _
  have f2 : Still (w.alloc a.obj) ((w.alloc a.obj).alloc b.obj) := (Fr.refl _ _).alloc _
  have f3 : Still ((w.alloc a.obj).alloc b.obj) (((w.alloc a.obj).alloc b.obj).alloc (.cells #[.int .i64 0] 3)) := (Fr.refl _ _).alloc _
  have f4 : Still (((w.alloc a.obj).alloc b.obj).alloc (.cells #[.int .i64 0] 3)) (four a b w) := (Fr.refl _ _).alloc _
  have n1 := obj_alloc_new w a.obj
  have n2 := obj_alloc_new (w.alloc a.obj) b.obj
  have n3 := obj_alloc_new ((w.alloc a.obj).alloc b.obj) (.cells #[.int .i64 0] 3)
  have n4 := obj_alloc_new (((w.alloc a.obj).alloc b.obj).alloc (.cells #[.int .i64 0] 3)) (.cells #[.int .i64 0] 3)
  rw [World.size_alloc] at n2
  rw [World.size_alloc, World.size_alloc] at n3
  rw [World.size_alloc, World.size_alloc, World.size_alloc] at n4
  exact ⟨((f1.trans f2).trans f3).trans f4, ((f2.trans f3).trans f4).obj n1 (fun h => h), (f3.trans f4).obj n2 (fun h => h), f4.obj n3 (fun h => h), n4⟩

/-- An act stored over another one. -/
abbrev set3 (w : World) (q : Nat) (b : Deed) : World := ((w.setCell ⟨q, 0, none⟩ (.int .i64 b.kind)).setCell ⟨q, 1, none⟩ (.int .i64 b.n)).setCell ⟨q, 2, none⟩ (.string b.s)
theorem set_deed {w : World} {q : Nat} {a : Deed} (b : Deed) (h : w.heap[q]? = some a.obj) : (set3 w q b).heap[q]? = some b.obj := by
  have h1 := heap_setCell_same w q 0 _ 39 (.int .i64 b.kind) h
  have h2 := heap_setCell_same _ q 1 _ 39 (.int .i64 b.n) h1
  have h3 := heap_setCell_same _ q 2 _ 39 (.string b.s) h2
  simpa using h3
theorem set_fr (w : World) (q : Nat) (b : Deed) : Fr (fun k => k = q) w (set3 w q b) := (((Fr.refl (fun k => k = q) w).setCell (.inl rfl) _).setCell (.inl rfl) _).setCell (.inl rfl) _

/-- What the law's last row reads: the act that is wanted at q, b at pb, the counters, what was told. -/
structure St (w : World) (pb q c m : Nat) (d b : Deed) (h h' : How) (ws : World) : Prop where
  fr : Still w ws
  ob : ws.heap[pb]? = some b.obj
  oq : ws.heap[q]? = some d.obj
  oc : ws.heap[c]? = some (.cells #[.int .i64 1] 3)
  om : ws.heap[m]? = some (.cells #[.int .i64 2] 3)
  td : d.tells 0 h ws
  tb : b.tells 0 h' ws

theorem St.keep {w ws ws' : World} {pb q c m : Nat} {d b : Deed} {h h' : How} (s : St w pb q c m d b h h' ws) (f : Still ws ws') : St w pb q c m d b h h' ws' :=
  ⟨s.fr.trans f, f.obj s.ob (fun h => h), f.obj s.oq (fun h => h), f.obj s.oc (fun h => h), f.obj s.om (fun h => h), s.td.keep f (fun _ h => h.elim), s.tb.keep f (fun _ h => h.elim)⟩

set_option maxHeartbeats 4000000 in
theorem lasts_walk (a b : Deed) (w : World) : Calls Try.prog 8 #[a.val, b.val] w fun e w' => e = .returned (.bool true) ∧ Still w w' := by
  have h1 := mf
  have b2 := nil_nil
  obtain ⟨f0, oa, ob, oc, om⟩ := laid_four a b w
  have K1 := hide (lasts1_caught oa oc ob om (by omega) (by omega) (by omega))
  have F0 := hide f0; have OA := hide oa; have OB := hide ob
  clear f0 oa ob oc om
  go_enter Try.func8, Try.ntmps8
  go_wp2_with fail
  refine (unhide K1).mono ?_
  rintro e w1 ⟨h, rfl, f1, c1, m1, g1, g2, rfl, t1⟩
  have oa1 := f1.obj (unhide OA) (by omega)
  have ob1 := f1.obj (unhide OB) (by omega)
  have fr1 : Still w w1 := (unhide F0).trans' f1 (fun k hk => .inr (by omega))
  obtain ⟨d0, d1, d2⟩ := deed_cells oa1
  generalize hv : (g1.behind g2).v = v
  have fq : Still w1 (w1.alloc a.obj) := (Fr.refl _ w1).alloc _
  have K2 := hide (bad_ok b (w1.alloc a.obj))
  have FR1 := hide (fr1.trans fq); have OB1 := hide (fq.obj ob1 (fun h => h)); have OQ1 := hide (obj_alloc_new w1 a.obj)
  have C1 := hide (fq.obj c1 (fun h => h)); have M1 := hide (fq.obj m1 (fun h => h)); have T1 := hide (t1.keep fq (fun _ h => h.elim)); have HV := hide hv; have T0 := hide t1; have FQ := hide fq
  have s1 := fr1.size
  have s1' := f1.size
  obtain ⟨e0, e1, e2⟩ := deed_cells (unhide OB1)
  simp only [Deed.obj] at e0 e1 e2
  clear K1 F0 OA OB f1 fr1 oa1 ob1 c1 m1 t1 hv fq
  go_wp2_with fail
  refine (unhide K2).mono ?_
  rintro e w2 ⟨rfl, f2⟩
  have fr2 := (unhide FR1).trans f2
  have ob2 := f2.obj (unhide OB1) (fun h => h)
  have oq2 := f2.obj (unhide OQ1) (fun h => h)
  have c2 := f2.obj (unhide C1) (fun h => h)
  have m2 := f2.obj (unhide M1) (fun h => h)
  have t2 := (unhide T1).keep f2 (fun _ h => h.elim)
  have q1 : w.heap.size + 4 ≤ w1.heap.size := by simpa using s1'
  obtain ⟨x2a, x2b, x2c⟩ := deed_cells ob2
  clear K2 FR1 OB1 OQ1 C1 M1 T1 d0 d1 d2 e0 e1 e2 s1'
  cases hb : b.bad
  · have td := t2.well hb
    have FR2 := hide fr2; have OB2 := hide ob2; have OQ2 := hide oq2; have C2 := hide c2; have TD := hide td
    have K3 := hide (lasts2_caught ob2 m2 (by omega))
    have Hb := hide hb
    clear fr2 ob2 oq2 c2 m2 t2 td f2
    go_wp2_with fail
    refine (unhide K3).mono ?_
    rintro e w3 ⟨h', rfl, f3, m3, tb⟩
    have hw : h' = .well := by
      have := tb.is
      rw [hb] at this
      cases h' using How.byCases with
      | well => rfl
      | bad t x => cases this
    subst hw
    have S3 : Hid (St w (w.heap.size + 1) w1.heap.size (w.heap.size + 2) (w.heap.size + 3) a b (g1.behind g2) .well w3) := hide ⟨(unhide FR2).trans' f3 (fun k e => .inr (by omega)), f3.obj (unhide OB2) (by omega), f3.obj (unhide OQ2) (by omega), f3.obj (unhide C2) (by omega), m3, ((unhide TD).keep f3 (fun k e => by simp; omega)).mono (Nat.zero_le _), tb.mono (Nat.zero_le _)⟩
    simp only [How.v]
    clear K3 FR2 OB2 OQ2 C2 TD f3 m3 tb x2a x2b x2c hb
    cases ha : a.bad
    · have Ha := hide ha
      have hv : v = .nilIface := by
        rw [← unhide HV]
        have := (unhide S3).td.is
        rw [ha] at this
        generalize g1.behind g2 = gg at this
        cases gg using How.byCases with
        | well => rfl
        | bad t x => cases this
      subst hv
      clear ha
      obtain ⟨x3a, x3b, x3c⟩ := deed_cells (unhide S3).ob
      obtain ⟨y3a, y3b, y3c⟩ := deed_cells (unhide S3).oq
      have c3 := cell_of_obj (unhide S3).oc 0
      have m3 := cell_of_obj (unhide S3).om 0
      have K3 := bad_ok a w3
      rw [unhide Ha] at K3
      have H3 := hide K3; clear K3
      go_wp2_with fail
      refine (unhide H3).mono ?_
      rintro e w4 ⟨rfl, f3⟩
      have S4 := hide ((unhide S3).keep f3)
      clear H3 S3 f3 x3a x3b x3c y3a y3b y3c c3 m3
      obtain ⟨x4a, x4b, x4c⟩ := deed_cells (unhide S4).ob
      obtain ⟨y4a, y4b, y4c⟩ := deed_cells (unhide S4).oq
      have c4 := cell_of_obj (unhide S4).oc 0
      have m4 := cell_of_obj (unhide S4).om 0
      have K4 := bad_ok a w4
      rw [unhide Ha] at K4
      have H4 := hide K4; clear K4
      go_wp2_with fail
      refine (unhide H4).mono ?_
      rintro e w5 ⟨rfl, f4⟩
      have S5 := hide ((unhide S4).keep f4)
      clear H4 S4 f4 x4a x4b x4c y4a y4b y4c c4 m4
      obtain ⟨x5a, x5b, x5c⟩ := deed_cells (unhide S5).ob
      obtain ⟨y5a, y5b, y5c⟩ := deed_cells (unhide S5).oq
      have c5 := cell_of_obj (unhide S5).oc 0
      have m5 := cell_of_obj (unhide S5).om 0
      have K5 := bad_ok b w5
      rw [unhide Hb] at K5
      have H5 := hide K5; clear K5
      go_wp2_with fail
      refine (unhide H5).mono ?_
      rintro e w6 ⟨rfl, f5⟩
      have S6 := hide ((unhide S5).keep f5)
      clear H5 S5 f5 x5a x5b x5c y5a y5b y5c c5 m5
      obtain ⟨x6a, x6b, x6c⟩ := deed_cells (unhide S6).ob
      obtain ⟨y6a, y6b, y6c⟩ := deed_cells (unhide S6).oq
      have c6 := cell_of_obj (unhide S6).oc 0
      have m6 := cell_of_obj (unhide S6).om 0
      have K6 := bad_ok b w6
      rw [unhide Hb] at K6
      have H6 := hide K6; clear K6
      go_wp2_with fail
      refine (unhide H6).mono ?_
      rintro e w7 ⟨rfl, f6⟩
      have S7 := hide ((unhide S6).keep f6)
      clear H6 S6 f6 x6a x6b x6c y6a y6b y6c c6 m6
      obtain ⟨x7a, x7b, x7c⟩ := deed_cells (unhide S7).ob
      obtain ⟨y7a, y7b, y7c⟩ := deed_cells (unhide S7).oq
      have c7 := cell_of_obj (unhide S7).oc 0
      have m7 := cell_of_obj (unhide S7).om 0
      have K7 := awake_ok w7
      have H7 := hide K7; clear K7
      go_wp2_with fail
      refine (unhide H7).mono ?_
      rintro e w8 ⟨rfl, f7⟩
      have S8 := hide ((unhide S7).keep f7)
      clear H7 S7 f7 x7a x7b x7c y7a y7b y7c c7 m7
      go_wp2
      go_ret
      exact ⟨rfl, (unhide S8).fr⟩
    · have Ha := hide ha
      clear ha
      obtain ⟨x3a, x3b, x3c⟩ := deed_cells (unhide S3).ob
      obtain ⟨y3a, y3b, y3c⟩ := deed_cells (unhide S3).oq
      have c3 := cell_of_obj (unhide S3).oc 0
      have m3 := cell_of_obj (unhide S3).om 0
      have K3 := bad_ok a w3
      rw [unhide Ha] at K3
      have H3 := hide K3; clear K3
      go_wp2_with fail
      refine (unhide H3).mono ?_
      rintro e w4 ⟨rfl, f3⟩
      have S4 := hide ((unhide S3).keep f3)
      clear H3 S3 f3 x3a x3b x3c y3a y3b y3c c3 m3
      obtain ⟨x4a, x4b, x4c⟩ := deed_cells (unhide S4).ob
      obtain ⟨y4a, y4b, y4c⟩ := deed_cells (unhide S4).oq
      have c4 := cell_of_obj (unhide S4).oc 0
      have m4 := cell_of_obj (unhide S4).om 0
      have K4 := bad_ok a w4
      rw [unhide Ha] at K4
      have H4 := hide K4; clear K4
      go_wp2_with fail
      refine (unhide H4).mono ?_
      rintro e w5 ⟨rfl, f4⟩
      have S5 := hide ((unhide S4).keep f4)
      clear H4 S4 f4 x4a x4b x4c y4a y4b y4c c4 m4
      obtain ⟨x5a, x5b, x5c⟩ := deed_cells (unhide S5).ob
      obtain ⟨y5a, y5b, y5c⟩ := deed_cells (unhide S5).oq
      have c5 := cell_of_obj (unhide S5).oc 0
      have m5 := cell_of_obj (unhide S5).om 0
      have K5 := is_ok (unhide S5).td
      rw [unhide HV] at K5
      have H5 := hide K5; clear K5
      go_wp2_with fail
      refine (unhide H5).mono ?_
      rintro e w6 ⟨rfl, f5⟩
      have S6 := hide ((unhide S5).keep f5)
      clear H5 S5 f5 x5a x5b x5c y5a y5b y5c c5 m5
      obtain ⟨x6a, x6b, x6c⟩ := deed_cells (unhide S6).ob
      obtain ⟨y6a, y6b, y6c⟩ := deed_cells (unhide S6).oq
      have c6 := cell_of_obj (unhide S6).oc 0
      have m6 := cell_of_obj (unhide S6).om 0
      have K6 := bad_ok b w6
      rw [unhide Hb] at K6
      have H6 := hide K6; clear K6
      go_wp2_with fail
      refine (unhide H6).mono ?_
      rintro e w7 ⟨rfl, f6⟩
      have S7 := hide ((unhide S6).keep f6)
      clear H6 S6 f6 x6a x6b x6c y6a y6b y6c c6 m6
      obtain ⟨x7a, x7b, x7c⟩ := deed_cells (unhide S7).ob
      obtain ⟨y7a, y7b, y7c⟩ := deed_cells (unhide S7).oq
      have c7 := cell_of_obj (unhide S7).oc 0
      have m7 := cell_of_obj (unhide S7).om 0
      have K7 := bad_ok b w7
      rw [unhide Hb] at K7
      have H7 := hide K7; clear K7
      go_wp2_with fail
      refine (unhide H7).mono ?_
      rintro e w8 ⟨rfl, f7⟩
      have S8 := hide ((unhide S7).keep f7)
      clear H7 S7 f7 x7a x7b x7c y7a y7b y7c c7 m7
      obtain ⟨x8a, x8b, x8c⟩ := deed_cells (unhide S8).ob
      obtain ⟨y8a, y8b, y8c⟩ := deed_cells (unhide S8).oq
      have c8 := cell_of_obj (unhide S8).oc 0
      have m8 := cell_of_obj (unhide S8).om 0
      have K8 := awake_ok w8
      have H8 := hide K8; clear K8
      go_wp2_with fail
      refine (unhide H8).mono ?_
      rintro e w9 ⟨rfl, f8⟩
      have S9 := hide ((unhide S8).keep f8)
      clear H8 S8 f8 x8a x8b x8c y8a y8b y8c c8 m8
      go_wp2
      go_ret
      exact ⟨rfl, (unhide S9).fr⟩
  · have fs := set_fr w2 w1.heap.size b
    have f12 : Still w1 (set3 w2 w1.heap.size b) := ((unhide FQ).trans f2).trans' fs (fun k e => .inr (by omega))
    have td := ((unhide T0).keep f12 (fun _ h => h.elim)).bad hb
    have oq2c := deed_cells oq2
    obtain ⟨y2a, y2b, y2c⟩ := oq2c
    have z2 := frozen_of_obj oq2
    have z2a := z2 0; have z2b := z2 1; have z2c := z2 2
    have ob2' := fs.obj ob2 (by omega)
    have K3 := hide (lasts2_caught ob2' (fs.obj m2 (by omega)) (by omega))
    have FR2 := hide (fr2.trans' fs (fun k e => .inr (by omega))); have OB2 := hide ob2'; have OQ2 := hide (set_deed b oq2); have C2 := hide (fs.obj c2 (by omega)); have TD := hide td
    have Hb := hide hb
    clear z2 fr2 ob2 oq2 c2 m2 t2 td f2 fs f12 ob2' hb
    go_wp2_with fail
    refine (unhide K3).mono ?_
    rintro e w3 ⟨h', rfl, f3, m3, tb⟩
    have S3 : Hid (St w (w.heap.size + 1) w1.heap.size (w.heap.size + 2) (w.heap.size + 3) b b (g1.behind g2) h' w3) := hide ⟨(unhide FR2).trans' f3 (fun k e => .inr (by omega)), f3.obj (unhide OB2) (by omega), f3.obj (unhide OQ2) (by omega), f3.obj (unhide C2) (by omega), m3, ((unhide TD).keep f3 (fun k e => by simp; omega)).mono (Nat.zero_le _), tb.mono (Nat.zero_le _)⟩
    generalize HV2 : h'.v = v'
    have HV2' := hide HV2
    clear K3 FR2 OB2 OQ2 C2 TD f3 m3 tb x2a x2b x2c y2a y2b y2c z2a z2b z2c HV2
    obtain ⟨x3a, x3b, x3c⟩ := deed_cells (unhide S3).ob
    obtain ⟨y3a, y3b, y3c⟩ := deed_cells (unhide S3).oq
    have c3 := cell_of_obj (unhide S3).oc 0
    have m3 := cell_of_obj (unhide S3).om 0
    have K3 := bad_ok b w3
    rw [unhide Hb] at K3
    have H3 := hide K3; clear K3
    go_wp2_with fail
    refine (unhide H3).mono ?_
    rintro e w4 ⟨rfl, f3⟩
    have S4 := hide ((unhide S3).keep f3)
    clear H3 S3 f3 x3a x3b x3c y3a y3b y3c c3 m3
    obtain ⟨x4a, x4b, x4c⟩ := deed_cells (unhide S4).ob
    obtain ⟨y4a, y4b, y4c⟩ := deed_cells (unhide S4).oq
    have c4 := cell_of_obj (unhide S4).oc 0
    have m4 := cell_of_obj (unhide S4).om 0
    have K4 := bad_ok b w4
    rw [unhide Hb] at K4
    have H4 := hide K4; clear K4
    go_wp2_with fail
    refine (unhide H4).mono ?_
    rintro e w5 ⟨rfl, f4⟩
    have S5 := hide ((unhide S4).keep f4)
    clear H4 S4 f4 x4a x4b x4c y4a y4b y4c c4 m4
    obtain ⟨x5a, x5b, x5c⟩ := deed_cells (unhide S5).ob
    obtain ⟨y5a, y5b, y5c⟩ := deed_cells (unhide S5).oq
    have c5 := cell_of_obj (unhide S5).oc 0
    have m5 := cell_of_obj (unhide S5).om 0
    have K5 := is_ok (unhide S5).td
    rw [unhide HV] at K5
    have H5 := hide K5; clear K5
    go_wp2_with fail
    refine (unhide H5).mono ?_
    rintro e w6 ⟨rfl, f5⟩
    have S6 := hide ((unhide S5).keep f5)
    clear H5 S5 f5 x5a x5b x5c y5a y5b y5c c5 m5
    obtain ⟨x6a, x6b, x6c⟩ := deed_cells (unhide S6).ob
    obtain ⟨y6a, y6b, y6c⟩ := deed_cells (unhide S6).oq
    have c6 := cell_of_obj (unhide S6).oc 0
    have m6 := cell_of_obj (unhide S6).om 0
    have K6 := bad_ok b w6
    rw [unhide Hb] at K6
    have H6 := hide K6; clear K6
    go_wp2_with fail
    refine (unhide H6).mono ?_
    rintro e w7 ⟨rfl, f6⟩
    have S7 := hide ((unhide S6).keep f6)
    clear H6 S6 f6 x6a x6b x6c y6a y6b y6c c6 m6
    obtain ⟨x7a, x7b, x7c⟩ := deed_cells (unhide S7).ob
    obtain ⟨y7a, y7b, y7c⟩ := deed_cells (unhide S7).oq
    have c7 := cell_of_obj (unhide S7).oc 0
    have m7 := cell_of_obj (unhide S7).om 0
    have K7 := is_ok (unhide S7).tb
    rw [unhide HV2'] at K7
    have H7 := hide K7; clear K7
    go_wp2_with fail
    refine (unhide H7).mono ?_
    rintro e w8 ⟨rfl, f7⟩
    have S8 := hide ((unhide S7).keep f7)
    clear H7 S7 f7 x7a x7b x7c y7a y7b y7c c7 m7
    obtain ⟨x8a, x8b, x8c⟩ := deed_cells (unhide S8).ob
    obtain ⟨y8a, y8b, y8c⟩ := deed_cells (unhide S8).oq
    have c8 := cell_of_obj (unhide S8).oc 0
    have m8 := cell_of_obj (unhide S8).om 0
    have K8 := awake_ok w8
    have H8 := hide K8; clear K8
    go_wp2_with fail
    refine (unhide H8).mono ?_
    rintro e w9 ⟨rfl, f8⟩
    have S9 := hide ((unhide S8).keep f8)
    clear H8 S8 f8 x8a x8b x8c y8a y8b y8c c8 m8
    go_wp2
    go_ret
    exact ⟨rfl, (unhide S9).fr⟩
end Go.Proofs.Ytebfocfofoajkaa
