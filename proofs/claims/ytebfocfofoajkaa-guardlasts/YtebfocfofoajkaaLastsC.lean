/- GuardLasts' closures. -/
import Derived.Test.YtebfocfofoajkaaFinally
import Derived.Test.YtebfocfofoajkaaCaught
import Derived.Test.YtebfocfofoajkaaTriesW
import Derived.Deep.RegionWith
namespace Go.Proofs.Ytebfocfofoajkaa
open Go.RowKit

/-- What both of two acts did, the first one ahead of the second one. -/
structure Both (a b : Deed) (B : Nat) (h1 h2 : How) (w : World) : Prop where
  a : a.tells B h1 w
  b : b.tells B h2 w

theorem Both.mono {a b : Deed} {B C : Nat} {h1 h2 : How} {w : World} (t : Both a b B h1 h2 w) (h : C ≤ B) : Both a b C h1 h2 w := ⟨t.a.mono h, t.b.mono h⟩
theorem Both.keep {a b : Deed} {B : Nat} {h1 h2 : How} {w w' : World} {F : Nat → Prop} (t : Both a b B h1 h2 w) (fr : Fr F w w') (hF : ∀ k, F k → k < B) : Both a b B h1 h2 w' := ⟨t.a.keep fr hF, t.b.keep fr hF⟩
theorem Both.bad {a b : Deed} {B : Nat} {h1 h2 : How} {w : World} (t : Both a b B h1 h2 w) (hb : b.bad = true) : b.tells B (h1.behind h2) w := by
  have t2 := t.b
  have hi := t2.is
  rw [hb] at hi
  cases h2 using How.byCases with
  | well => cases hi
  | bad t x => exact t2
theorem Both.well {a b : Deed} {B : Nat} {h1 h2 : How} {w : World} (t : Both a b B h1 h2 w) (hb : b.bad = false) : a.tells B (h1.behind h2) w := by
  have hi := t.b.is
  rw [hb] at hi
  cases h2 using How.byCases with
  | well => exact t.a
  | bad t x => cases hi

/-- The world behind both of two acts, and how the two together ended. -/
def Ended2 (a b : Deed) (c m : Nat) (x y : Int) (w : World) (B : Nat) (h : How) (w' : World) : Prop :=
  Fr (fun k => k = c ∨ k = m) w w' ∧ w'.heap[c]? = some (.cells #[.int .i64 (x + 1)] 3) ∧ w'.heap[m]? = some (.cells #[.int .i64 (y + 1)] 3) ∧ ∃ h1 h2, h = h1.behind h2 ∧ Both a b B h1 h2 w'

theorem finally_deeds {a b : Deed} {pn pa c qn qa m : Nat} {x y : Int} {w : World} (la : Lies a pn pa c x w) (lb : Lies b qn qa m y w) (cm : c ≠ m) (h1 : qa ≠ c) (h2 : qn ≠ c) :
    Calls Try.prog 15 #[deedF pn pa, deedF qn qa] w fun e w' => ∃ h : How, h.ended e ∧ Ended2 a b c m x y w w.heap.size h w' := by
  have lc := lt_of_obj la.hc; have lm := lt_of_obj lb.hc
  refine (finally_raw (R2 := fun h1 h2 w' => Fr (fun k => k = c ∨ k = m) w w' ∧ w'.heap[c]? = some (.cells #[.int .i64 (x + 1)] 3) ∧ w'.heap[m]? = some (.cells #[.int .i64 (y + 1)] 3) ∧ Both a b w.heap.size h1 h2 w') la.runs ?_).mono ?_
  · rintro g1 w1 ⟨f1, c1, t1⟩
    refine (lb.keep f1 h1 h2 (Ne.symm cm)).runs.mono ?_
    rintro g2 w2 ⟨f2, c2, t2⟩
    exact ⟨(f1.mono fun k e => .inl (.inl e)).trans (f2.mono fun k e => .inl (.inr e)), f2.obj c1 cm, c2, t1.keep f2 (fun k e => by omega), t2.mono f1.size⟩
  · rintro e w' ⟨g1, g2, he, hf, h3, h4, h5⟩
    exact ⟨_, he, hf, h3, h4, g1, g2, rfl, h5⟩

theorem finally_nil {b : Deed} {qn qa m : Nat} {y : Int} {w : World} (lb : Lies b qn qa m y w) :
    Calls Try.prog 15 #[.nilFunc, deedF qn qa] w fun e w' => ∃ h : How, h.ended e ∧ Fr (fun k => k = m) w w' ∧ w'.heap[m]? = some (.cells #[.int .i64 (y + 1)] 3) ∧ b.tells w.heap.size h w' := by
  refine (finally_raw (R1 := fun h w1 => h = .well ∧ w1 = w) (R2 := fun h1 h2 w' => h1 = .well ∧ Fr (fun k => k = m) w w' ∧ w'.heap[m]? = some (.cells #[.int .i64 (y + 1)] 3) ∧ b.tells w.heap.size h2 w') (.inl ⟨rfl, rfl, rfl⟩) ?_).mono ?_
  · rintro h w1 ⟨rfl, rfl⟩
    exact lb.runs.mono fun h w' t => ⟨rfl, t⟩
  · rintro e w' ⟨h1, h2, he, rfl, hf, hm, ht⟩
    refine ⟨h2, ?_, hf, hm, ht⟩
    obtain ⟨o⟩ := h2
    cases o <;> exact he

theorem ended_or {h : How} {e : Ending} (he : h.ended e) : (e = .returned (.tuple #[]) ∧ h = .well) ∨ ∃ t x older, (∀ y ∈ older, y.goexit = false) ∧ e = .panicked ({ v := .iface t x, recovered := false } :: older) ∧ h = .bad t x := by
  cases h using How.byCases with
  | well => exact .inl ⟨he, rfl⟩
  | bad t x => obtain ⟨older, ho, rfl⟩ := he; exact .inr ⟨t, x, older, ho, rfl, rfl⟩

theorem deed_ne {a : Deed} {p c : Nat} {v : Value} {t : Nat} {w : World} (oa : w.heap[p]? = some a.obj) (oc : w.heap[c]? = some (.cells #[v] t)) : p ≠ c := by
  rintro rfl
  rw [oa] at oc
  simp at oc

theorem enters31 : Enters 31 := fun _ _ => by kernel_rfl
theorem enters32 : Enters 32 := fun _ _ => by kernel_rfl

set_option maxHeartbeats 1000000 in
theorem lasts2_ok {b : Deed} {pb m : Nat} {y : Int} {w : World} (ob : w.heap[pb]? = some b.obj) (om : w.heap[m]? = some (.cells #[.int .i64 y] 3)) (hy : 0 ≤ y ∧ y < 1000000) :
    Calls Try.prog 32 #[ptr pb, ptr m] w fun e w' => ∃ h : How, h.ended e ∧ Fr (fun k => k = m) w w' ∧ w'.heap[m]? = some (.cells #[.int .i64 (y + 1)] 3) ∧ b.tells w.heap.size h w' := by
  obtain ⟨d0, d1, d2⟩ := deed_cells ob
  have K1 := hide (does_lies b om hy)
  clear ob om
  go_enter Try.func32, Try.ntmps32
  go_wp2_with fail
  refine (unhide K1).mono ?_
  rintro e w1 ⟨pn, pa', rfl, f1, l1, hpn, hpa⟩
  have K2 := hide (finally_nil l1)
  have F1 := hide f1
  clear K1 f1 l1 d0 d1 d2
  go_wp2_with fail
  refine (unhide K2).mono ?_
  rintro e w2 ⟨h, he, f2, c2, t2⟩
  have fr2 : Fr (fun k => k = m) w w2 := ((unhide F1).mono (fun _ h => h.elim)).trans f2
  have t3 := t2.mono (unhide F1).size
  clear K2 F1 f2 t2
  cases h using How.byCases with
  | well =>
    cases he
    have FR := hide fr2; have C := hide c2; have T := hide t3
    clear fr2 c2 t3
    go_wp2
    go_end0
    exact ⟨.well, rfl, unhide FR, unhide C, unhide T⟩
  | bad t x =>
    obtain ⟨older, ho, rfl⟩ := he
    exact ⟨rfl, .bad t x, ⟨older, ho, rfl⟩, fr2, c2, t3⟩

set_option maxHeartbeats 1000000 in
theorem lasts1_ok {a b : Deed} {pa c pb m : Nat} {x y : Int} {w : World} (oa : w.heap[pa]? = some a.obj) (oc : w.heap[c]? = some (.cells #[.int .i64 x] 3)) (ob : w.heap[pb]? = some b.obj) (om : w.heap[m]? = some (.cells #[.int .i64 y] 3))
    (hx : 0 ≤ x ∧ x < 1000000) (hy : 0 ≤ y ∧ y < 1000000) (cm : c ≠ m) :
    Calls Try.prog 31 #[ptr pa, ptr c, ptr pb, ptr m] w fun e w' => ∃ h : How, h.ended e ∧ Ended2 a b c m x y w w.heap.size h w' := by
  obtain ⟨d0, d1, d2⟩ := deed_cells oa
  obtain ⟨e0, e1, e2⟩ := deed_cells ob
  have K1 := hide (does_lies a (w := w.drew) oc hx)
  have OM := hide om; have OB := hide ob; have OA := hide oa
  have lc := lt_of_obj oc; have lm := lt_of_obj om
  have n1 := deed_ne oa oc; have n2 := deed_ne oa om; have n3 := deed_ne ob oc; have n4 := deed_ne ob om
  clear oa oc ob om
  go_enter Try.func31, Try.ntmps31
  go_wp2_with fail
  go_region_with
    (first
      | (go_at_call 21; refine (unhide K1).mono ?_; rintro e w1 ⟨pn, pa', rfl, f1, l1, hpn, hpa⟩; obtain ⟨e0', e1', e2'⟩ := deed_cells (f1.obj (unhide OB) (fun h => h)); have K2 := hide (does_lies b (f1.obj (unhide OM) (fun h => h)) hy); have F1 := hide f1; have L1 := hide l1; clear f1 l1)
      | (go_at_call 21; refine (unhide K2).mono ?_; rintro e w2 ⟨qn, qa, rfl, f2, l2, hqn, hqa⟩; have fr2 := (unhide F1).trans f2;  have hs1 := (unhide F1).size; have K3 := hide (finally_deeds ((unhide L1).keep f2 (fun h => h) (fun h => h) (fun h => h)) l2 cm (by simp at hs1 hqa; omega) (by simp at hs1 hqn; omega)); have F2 := hide fr2; clear f2 l2 fr2)
      | (go_at_call 15; refine (unhide K3).mono ?_; rintro e w3 ⟨h, he, f3, c3, m3, g1, g2, hh, t3⟩; have fr3 : Fr (fun k => k = c ∨ k = m) w w3 := ((unhide F2).undrew.mono (fun _ h => h.elim)).trans f3;  have hs2 := (unhide F2).size; have END : Hid (Ended2 a b c m x y w w.heap.size h w3) := hide ⟨fr3, c3, m3, g1, g2, hh, t3.mono hs2⟩; rcases ended_or he with ⟨rfl, hw⟩ | ⟨t, x', older, ho, rfl, hb⟩; rotate_left; exact ⟨rfl, .bad t x', ⟨older, ho, rfl⟩, hb ▸ unhide END⟩))
  all_goals
    clear K1 K2 K3 F1 L1 OA OB OM
    go_wp2
    go_end0
    exact ⟨.well, rfl, hw ▸ unhide END⟩
end Go.Proofs.Ytebfocfofoajkaa
