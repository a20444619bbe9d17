/- GuardOnly's closures. -/
import Derived.Test.YtebfocfofoajkaaCaught
import Derived.Test.YtebfocfofoajkaaTriesW
namespace Go.Proofs.Ytebfocfofoajkaa
open Go.RowKit

/-- An act that isn't of kind K is told by its guard as it is. -/
theorem onlyI_deed {a : Deed} {pn pa c : Nat} {x : Int} {w : World} (l : Lies a pn pa c x w) :
    Calls Try.prog 26 #[deedF pn pa] w fun e w' => ∃ h, h.only 3 (.int .i64 0) e ∧ Fr (fun k => k = c) w w' ∧ w'.heap[c]? = some (.cells #[.int .i64 (x + 1)] 3) ∧ a.tells (w.heap.size + 1) h w' :=
  onlyI_raw (try_deed l) fun _ _ ⟨_, _, t⟩ => t.known
theorem onlyS_deed {a : Deed} {pn pa c : Nat} {x : Int} {w : World} (l : Lies a pn pa c x w) :
    Calls Try.prog 11 #[deedF pn pa] w fun e w' => ∃ h, h.only 9 (.string ByteArray.empty) e ∧ Fr (fun k => k = c) w w' ∧ w'.heap[c]? = some (.cells #[.int .i64 (x + 1)] 3) ∧ a.tells (w.heap.size + 1) h w' :=
  onlyS_raw (try_deed l) fun _ _ ⟨_, _, t⟩ => t.known
theorem onlyX_deed {a : Deed} {pn pa c : Nat} {x : Int} {w : World} (l : Lies a pn pa c x w) :
    Calls Try.prog 29 #[deedF pn pa] w fun e w' => ∃ h, h.onlyX e ∧ Fr (fun k => k = c) w w' ∧ w'.heap[c]? = some (.cells #[.int .i64 (x + 1)] 3) ∧ a.tells (w.heap.size + 1) h w' :=
  onlyX_raw (try_deed l) fun _ _ ⟨_, _, t⟩ => t.known

theorem enters25 : Enters 25 := fun _ _ => by kernel_rfl
theorem enters27 : Enters 27 := fun _ _ => by kernel_rfl
theorem enters28 : Enters 28 := fun _ _ => by kernel_rfl

theorem Deed.tells.onlyI_yes {a : Deed} {B : Nat} {h : How} {w : World} {e : Ending} (t : a.tells B h w) (he : h.only 3 (.int .i64 0) e) (hk : a.kind = 1) : e = .returned (.tuple #[.int .i64 a.n, .bool true]) := by
  rcases t with ⟨hk', rfl⟩ | ⟨hk', rfl⟩ | ⟨hk', rfl⟩ | ⟨hk', b, _, rfl, _⟩ | ⟨hk', rfl⟩
  · rcases he with ⟨_, rfl⟩ | ⟨h, _⟩
    · rfl
    · exact absurd rfl h
  · omega
  · omega
  · omega
  · omega
theorem Deed.tells.onlyI_no {a : Deed} {B : Nat} {h : How} {w : World} {e : Ending} (t : a.tells B h w) (he : h.only 3 (.int .i64 0) e) (hk : a.kind ≠ 1) :
    (e = .returned (.tuple #[.int .i64 0, .bool false]) ∧ h = .well) ∨ ∃ t x, e = .panicked [{ v := .iface t x, recovered := false }] ∧ h = .bad t x := by
  rcases t with ⟨hk', rfl⟩ | ⟨hk', rfl⟩ | ⟨hk', rfl⟩ | ⟨hk', b, _, rfl, _⟩ | ⟨hk', rfl⟩
  · exact absurd hk' hk
  · rcases he with ⟨h, _⟩ | ⟨_, rfl⟩
    · exact absurd h (by decide)
    · exact .inr ⟨_, _, rfl, rfl⟩
  · rcases he with ⟨h, _⟩ | ⟨_, rfl⟩
    · exact absurd h (by decide)
    · exact .inr ⟨_, _, rfl, rfl⟩
  · rcases he with ⟨h, _⟩ | ⟨_, rfl⟩
    · exact absurd h (by decide)
    · exact .inr ⟨_, _, rfl, rfl⟩
  · cases he
    exact .inl ⟨rfl, rfl⟩

theorem Deed.tells.onlyS_yes {a : Deed} {B : Nat} {h : How} {w : World} {e : Ending} (t : a.tells B h w) (he : h.only 9 (.string ByteArray.empty) e) (hk : a.kind = 2) : e = .returned (.tuple #[.string a.s, .bool true]) := by
  rcases t with ⟨hk', rfl⟩ | ⟨hk', rfl⟩ | ⟨hk', rfl⟩ | ⟨hk', b, _, rfl, _⟩ | ⟨hk', rfl⟩
  · omega
  · rcases he with ⟨_, rfl⟩ | ⟨h, _⟩
    · rfl
    · exact absurd rfl h
  · omega
  · omega
  · omega
theorem Deed.tells.onlyS_no {a : Deed} {B : Nat} {h : How} {w : World} {e : Ending} (t : a.tells B h w) (he : h.only 9 (.string ByteArray.empty) e) (hk : a.kind ≠ 2) :
    (e = .returned (.tuple #[.string ByteArray.empty, .bool false]) ∧ h = .well) ∨ ∃ t x, e = .panicked [{ v := .iface t x, recovered := false }] ∧ h = .bad t x := by
  rcases t with ⟨hk', rfl⟩ | ⟨hk', rfl⟩ | ⟨hk', rfl⟩ | ⟨hk', b, _, rfl, _⟩ | ⟨hk', rfl⟩
  · rcases he with ⟨h, _⟩ | ⟨_, rfl⟩
    · exact absurd h (by decide)
    · exact .inr ⟨_, _, rfl, rfl⟩
  · exact absurd hk' hk
  · rcases he with ⟨h, _⟩ | ⟨_, rfl⟩
    · exact absurd h (by decide)
    · exact .inr ⟨_, _, rfl, rfl⟩
  · rcases he with ⟨h, _⟩ | ⟨_, rfl⟩
    · exact absurd h (by decide)
    · exact .inr ⟨_, _, rfl, rfl⟩
  · cases he
    exact .inl ⟨rfl, rfl⟩

theorem Deed.tells.onlyX_yes {a : Deed} {B : Nat} {h : How} {w : World} {e : Ending} (t : a.tells B h w) (he : h.onlyX e) (hk : a.kind = 3) : e = .returned (.tuple #[.iface 25 (.int .i64 a.n), .bool true]) := by
  rcases t with ⟨hk', rfl⟩ | ⟨hk', rfl⟩ | ⟨hk', rfl⟩ | ⟨hk', b, _, rfl, _⟩ | ⟨hk', rfl⟩
  · omega
  · omega
  · rcases he with ⟨_, rfl⟩ | ⟨h, _⟩
    · rfl
    · exact absurd rfl h
  · omega
  · omega
theorem Deed.tells.onlyX_no {a : Deed} {B : Nat} {h : How} {w : World} {e : Ending} (t : a.tells B h w) (he : h.onlyX e) (hk : a.kind ≠ 3) :
    (e = .returned (.tuple #[.nilIface, .bool false]) ∧ h = .well) ∨ ∃ t x, e = .panicked [{ v := .iface t x, recovered := false }] ∧ h = .bad t x := by
  rcases t with ⟨hk', rfl⟩ | ⟨hk', rfl⟩ | ⟨hk', rfl⟩ | ⟨hk', b, _, rfl, _⟩ | ⟨hk', rfl⟩
  · rcases he with ⟨h, _⟩ | ⟨_, rfl⟩
    · exact absurd h (by decide)
    · exact .inr ⟨_, _, rfl, rfl⟩
  · rcases he with ⟨h, _⟩ | ⟨_, rfl⟩
    · exact absurd h (by decide)
    · exact .inr ⟨_, _, rfl, rfl⟩
  · exact absurd hk' hk
  · rcases he with ⟨h, _⟩ | ⟨_, rfl⟩
    · exact absurd h (by decide)
    · exact .inr ⟨_, _, rfl, rfl⟩
  · cases he
    exact .inl ⟨rfl, rfl⟩

set_option maxHeartbeats 1000000 in
theorem only25_yes {a : Deed} {pa c pi po : Nat} {x : Int} {w : World} (oa : w.heap[pa]? = some a.obj) (oc : w.heap[c]? = some (.cells #[.int .i64 x] 3)) (oi : w.heap[pi]? = some (.cells #[.int .i64 0] 3)) (oo : w.heap[po]? = some (.cells #[.bool false] 4))
    (hx : 0 ≤ x ∧ x < 1000000) (d1 : c ≠ pi) (d2 : c ≠ po) (d3 : pi ≠ po) (hk : a.kind = 1) :
    Calls Try.prog 25 #[ptr pa, ptr c, ptr pi, ptr po] w fun e w' => ∃ h : How, h.ended e ∧ Fr (fun k => k = c ∨ k = pi ∨ k = po) w w' ∧ w'.heap[c]? = some (.cells #[.int .i64 (x + 1)] 3) ∧
      w'.heap[pi]? = some (.cells #[.int .i64 a.n] 3) ∧ w'.heap[po]? = some (.cells #[.bool true] 4) ∧ h = .well := by
  obtain ⟨e0, e1, e2⟩ := deed_cells oa
  have HK := hide hk; clear hk
  have K1 := hide (does_lies a oc hx)
  have OI := hide oi; have OO := hide oo
  have li := lt_of_obj oi; have lo := lt_of_obj oo; have lc := lt_of_obj oc
  clear oa oc oi oo
  go_enter Try.func25, Try.ntmps25
  go_wp2_with fail
  refine (unhide K1).mono ?_
  rintro e w1 ⟨pn, pa', rfl, f1, l1, hpn, hpa⟩
  have K2 := hide (onlyI_deed l1)
  have F1 := hide f1; have OI1 := hide (f1.obj (unhide OI) (fun h => h)); have OO1 := hide (f1.obj (unhide OO) (fun h => h))
  clear K1 OI OO f1 l1 e0 e1 e2
  go_wp2_with fail
  refine (unhide K2).mono ?_
  rintro e w2 ⟨h, he, f2, c2, t2⟩
  have oi2 := f2.obj (unhide OI1) (Ne.symm d1)
  have oo2 := f2.obj (unhide OO1) (Ne.symm d2)
  have fr2 : Fr (fun k => k = c ∨ k = pi ∨ k = po) w w2 := ((unhide F1).mono (fun _ h => h.elim)).trans (f2.mono fun k hk => .inl (.inl hk))
  obtain rfl := t2.onlyI_yes he (unhide HK)
  have i2 := cell_of_obj oi2 0; have iz := frozen_of_obj oi2 0; have o2 := cell_of_obj oo2 0; have oz := frozen_of_obj oo2 0
  have g1 : Fr (fun k => k = pi) w2 (w2.setCell ⟨pi, 0, none⟩ (.int .i64 a.n)) := (Fr.refl (fun k => k = pi) w2).setCell (.inl rfl) _
  have o3 := cell_of_obj (g1.obj oo2 (Ne.symm d3)) 0
  have oz3 := frozen_of_obj (g1.obj oo2 (Ne.symm d3)) 0
  have FR2 := hide fr2; have C2 := hide c2; have OI2 := hide oi2; have OO2 := hide oo2; have G1 := hide g1
  clear K2 F1 OI1 OO1 f2 c2 t2 oi2 oo2 fr2 he g1
  go_wp2
  go_end0
  have g2 : Fr (fun k => k = po) (w2.setCell ⟨pi, 0, none⟩ (.int .i64 a.n)) ((w2.setCell ⟨pi, 0, none⟩ (.int .i64 a.n)).setCell ⟨po, 0, none⟩ (.bool true)) := (Fr.refl (fun k => k = po) _).setCell (.inl rfl) _
  refine ⟨.well, rfl, ((unhide FR2).trans ((unhide G1).mono fun k e => .inl (.inr (.inl e)))).trans (g2.mono fun k e => .inl (.inr (.inr e))), ?_, ?_, ?_, rfl⟩
  · exact g2.obj ((unhide G1).obj (unhide C2) d1) d2
  · exact g2.obj (set_one _ (unhide OI2)) d3
  · exact set_one _ ((unhide G1).obj (unhide OO2) (Ne.symm d3))

set_option maxHeartbeats 1000000 in
theorem only25_no {a : Deed} {pa c pi po : Nat} {x : Int} {w : World} (oa : w.heap[pa]? = some a.obj) (oc : w.heap[c]? = some (.cells #[.int .i64 x] 3)) (oi : w.heap[pi]? = some (.cells #[.int .i64 0] 3)) (oo : w.heap[po]? = some (.cells #[.bool false] 4))
    (hx : 0 ≤ x ∧ x < 1000000) (d1 : c ≠ pi) (d2 : c ≠ po) (d3 : pi ≠ po) (hk : a.kind ≠ 1) :
    Calls Try.prog 25 #[ptr pa, ptr c, ptr pi, ptr po] w fun e w' => ∃ h : How, h.ended e ∧ Fr (fun k => k = c ∨ k = pi ∨ k = po) w w' ∧ w'.heap[c]? = some (.cells #[.int .i64 (x + 1)] 3) ∧
      w'.heap[pi]? = some (.cells #[.int .i64 0] 3) ∧ w'.heap[po]? = some (.cells #[.bool false] 4) ∧ a.tells w.heap.size h w' := by
  obtain ⟨e0, e1, e2⟩ := deed_cells oa
  have K1 := hide (does_lies a oc hx)
  have OI := hide oi; have OO := hide oo
  have li := lt_of_obj oi; have lo := lt_of_obj oo; have lc := lt_of_obj oc
  clear oa oc oi oo
  go_enter Try.func25, Try.ntmps25
  go_wp2_with fail
  refine (unhide K1).mono ?_
  rintro e w1 ⟨pn, pa', rfl, f1, l1, hpn, hpa⟩
  have K2 := hide (onlyI_deed l1)
  have s1 := f1.size
  have F1 := hide f1; have OI1 := hide (f1.obj (unhide OI) (fun h => h)); have OO1 := hide (f1.obj (unhide OO) (fun h => h))
  clear K1 OI OO f1 l1 e0 e1 e2
  go_wp2_with fail
  refine (unhide K2).mono ?_
  rintro e w2 ⟨h, he, f2, c2, t2⟩
  have oi2 := f2.obj (unhide OI1) (Ne.symm d1)
  have oo2 := f2.obj (unhide OO1) (Ne.symm d2)
  have fr2 : Fr (fun k => k = c ∨ k = pi ∨ k = po) w w2 := ((unhide F1).mono (fun _ h => h.elim)).trans (f2.mono fun k hk => .inl (.inl hk))
  rcases t2.onlyI_no he hk with ⟨rfl, rfl⟩ | ⟨t, x', rfl, rfl⟩
  · have i2 := cell_of_obj oi2 0; have iz := frozen_of_obj oi2 0; have o2 := cell_of_obj oo2 0; have oz := frozen_of_obj oo2 0
    have g1 : Fr (fun k => k = pi) w2 (w2.setCell ⟨pi, 0, none⟩ (.int .i64 0)) := (Fr.refl (fun k => k = pi) w2).setCell (.inl rfl) _
    have o3 := cell_of_obj (g1.obj oo2 (Ne.symm d3)) 0
    have oz3 := frozen_of_obj (g1.obj oo2 (Ne.symm d3)) 0
    have FR2 := hide fr2; have C2 := hide c2; have OI2 := hide oi2; have OO2 := hide oo2; have G1 := hide g1; have T2 := hide t2
    clear K2 F1 OI1 OO1 f2 c2 t2 oi2 oo2 fr2 he g1
    go_wp2
    go_end0
    have g2 : Fr (fun k => k = po) (w2.setCell ⟨pi, 0, none⟩ (.int .i64 0)) ((w2.setCell ⟨pi, 0, none⟩ (.int .i64 0)).setCell ⟨po, 0, none⟩ (.bool false)) := (Fr.refl (fun k => k = po) _).setCell (.inl rfl) _
    refine ⟨.well, rfl, ((unhide FR2).trans ((unhide G1).mono fun k e => .inl (.inr (.inl e)))).trans (g2.mono fun k e => .inl (.inr (.inr e))), ?_, ?_, ?_, ?_⟩
    · exact g2.obj ((unhide G1).obj (unhide C2) d1) d2
    · exact g2.obj (set_one _ (unhide OI2)) d3
    · exact set_one _ ((unhide G1).obj (unhide OO2) (Ne.symm d3))
    · exact (((unhide T2).keep (unhide G1) (fun k e => by omega)).keep g2 (fun k e => by omega)).mono (by omega)
  · exact ⟨rfl, .bad t x', How.ended_one _ _, fr2, c2, oi2, oo2, t2.mono (by omega)⟩

theorem only25_caught_yes {a : Deed} {pa c pi po : Nat} {x : Int} {w : World} (oa : w.heap[pa]? = some a.obj) (oc : w.heap[c]? = some (.cells #[.int .i64 x] 3)) (oi : w.heap[pi]? = some (.cells #[.int .i64 0] 3)) (oo : w.heap[po]? = some (.cells #[.bool false] 4))
    (hx : 0 ≤ x ∧ x < 1000000) (d1 : c ≠ pi) (d2 : c ≠ po) (d3 : pi ≠ po) (hk : a.kind = 1) :
    Calls Try.prog 24 #[.func (.func 25) #[] #[ptr pa, ptr c, ptr pi, ptr po]] w fun e w' => ∃ h : How, e = .returned h.v ∧ Fr (fun k => k = c ∨ k = pi ∨ k = po) w w' ∧ w'.heap[c]? = some (.cells #[.int .i64 (x + 1)] 3) ∧
      w'.heap[pi]? = some (.cells #[.int .i64 a.n] 3) ∧ w'.heap[po]? = some (.cells #[.bool true] 4) ∧ h = .well := by
  have fb : Still w (w.alloc box) := (Fr.refl _ w).alloc box
  have lc := lt_of_obj oc; have li := lt_of_obj oi; have lo := lt_of_obj oo
  refine caught_fr (first := #[]) (cap := #[ptr pa, ptr c, ptr pi, ptr po]) (S := fun h w' => w'.heap[c]? = some (.cells #[.int .i64 (x + 1)] 3) ∧
      w'.heap[pi]? = some (.cells #[.int .i64 a.n] 3) ∧ w'.heap[po]? = some (.cells #[.bool true] 4) ∧ h = .well) enters25 (fun k hk => by omega)
    ((only25_yes (fb.obj oa (fun h => h)) (fb.obj oc (fun h => h)) (fb.obj oi (fun h => h)) (fb.obj oo (fun h => h)) hx d1 d2 d3 hk).mono ?_)
  rintro e w1 ⟨h, he, fr, g1, g2, g3, hw⟩
  exact ⟨h, he, fr, fun w2 f2 => ⟨f2.obj g1 (by omega), f2.obj g2 (by omega), f2.obj g3 (by omega), hw⟩⟩
theorem only25_caught_no {a : Deed} {pa c pi po : Nat} {x : Int} {w : World} (oa : w.heap[pa]? = some a.obj) (oc : w.heap[c]? = some (.cells #[.int .i64 x] 3)) (oi : w.heap[pi]? = some (.cells #[.int .i64 0] 3)) (oo : w.heap[po]? = some (.cells #[.bool false] 4))
    (hx : 0 ≤ x ∧ x < 1000000) (d1 : c ≠ pi) (d2 : c ≠ po) (d3 : pi ≠ po) (hk : a.kind ≠ 1) :
    Calls Try.prog 24 #[.func (.func 25) #[] #[ptr pa, ptr c, ptr pi, ptr po]] w fun e w' => ∃ h : How, e = .returned h.v ∧ Fr (fun k => k = c ∨ k = pi ∨ k = po) w w' ∧ w'.heap[c]? = some (.cells #[.int .i64 (x + 1)] 3) ∧
      w'.heap[pi]? = some (.cells #[.int .i64 0] 3) ∧ w'.heap[po]? = some (.cells #[.bool false] 4) ∧ a.tells (w.heap.size + 1) h w' := by
  have fb : Still w (w.alloc box) := (Fr.refl _ w).alloc box
  have lc := lt_of_obj oc; have li := lt_of_obj oi; have lo := lt_of_obj oo
  refine caught_fr (first := #[]) (cap := #[ptr pa, ptr c, ptr pi, ptr po]) (S := fun h w' => w'.heap[c]? = some (.cells #[.int .i64 (x + 1)] 3) ∧
      w'.heap[pi]? = some (.cells #[.int .i64 0] 3) ∧ w'.heap[po]? = some (.cells #[.bool false] 4) ∧ a.tells (w.heap.size + 1) h w') enters25 (fun k hk => by omega)
    ((only25_no (fb.obj oa (fun h => h)) (fb.obj oc (fun h => h)) (fb.obj oi (fun h => h)) (fb.obj oo (fun h => h)) hx d1 d2 d3 hk).mono ?_)
  rintro e w1 ⟨h, he, fr, g1, g2, g3, t⟩
  rw [World.size_alloc] at t
  exact ⟨h, he, fr, fun w2 f2 => ⟨f2.obj g1 (by omega), f2.obj g2 (by omega), f2.obj g3 (by omega), t.keep f2 (fun k e => by omega)⟩⟩

set_option maxHeartbeats 1000000 in
theorem only27_yes {a : Deed} {pa c pi po : Nat} {x : Int} {w : World} (oa : w.heap[pa]? = some a.obj) (oc : w.heap[c]? = some (.cells #[.int .i64 x] 3)) (oi : w.heap[pi]? = some (.cells #[.string ByteArray.empty] 9)) (oo : w.heap[po]? = some (.cells #[.bool false] 4))
    (hx : 0 ≤ x ∧ x < 1000000) (d1 : c ≠ pi) (d2 : c ≠ po) (d3 : pi ≠ po) (hk : a.kind = 2) :
    Calls Try.prog 27 #[ptr pa, ptr c, ptr pi, ptr po] w fun e w' => ∃ h : How, h.ended e ∧ Fr (fun k => k = c ∨ k = pi ∨ k = po) w w' ∧ w'.heap[c]? = some (.cells #[.int .i64 (x + 1)] 3) ∧
      w'.heap[pi]? = some (.cells #[.string a.s] 9) ∧ w'.heap[po]? = some (.cells #[.bool true] 4) ∧ h = .well := by
  obtain ⟨e0, e1, e2⟩ := deed_cells oa
  have HK := hide hk; clear hk
  have K1 := hide (does_lies a oc hx)
  have OI := hide oi; have OO := hide oo
  have li := lt_of_obj oi; have lo := lt_of_obj oo; have lc := lt_of_obj oc
  clear oa oc oi oo
  go_enter Try.func27, Try.ntmps27
  go_wp2_with fail
  refine (unhide K1).mono ?_
  rintro e w1 ⟨pn, pa', rfl, f1, l1, hpn, hpa⟩
  have K2 := hide (onlyS_deed l1)
  have F1 := hide f1; have OI1 := hide (f1.obj (unhide OI) (fun h => h)); have OO1 := hide (f1.obj (unhide OO) (fun h => h))
  clear K1 OI OO f1 l1 e0 e1 e2
  go_wp2_with fail
  refine (unhide K2).mono ?_
  rintro e w2 ⟨h, he, f2, c2, t2⟩
  have oi2 := f2.obj (unhide OI1) (Ne.symm d1)
  have oo2 := f2.obj (unhide OO1) (Ne.symm d2)
  have fr2 : Fr (fun k => k = c ∨ k = pi ∨ k = po) w w2 := ((unhide F1).mono (fun _ h => h.elim)).trans (f2.mono fun k hk => .inl (.inl hk))
  obtain rfl := t2.onlyS_yes he (unhide HK)
  have i2 := cell_of_obj oi2 0; have iz := frozen_of_obj oi2 0; have o2 := cell_of_obj oo2 0; have oz := frozen_of_obj oo2 0
  have g1 : Fr (fun k => k = pi) w2 (w2.setCell ⟨pi, 0, none⟩ (.string a.s)) := (Fr.refl (fun k => k = pi) w2).setCell (.inl rfl) _
  have o3 := cell_of_obj (g1.obj oo2 (Ne.symm d3)) 0
  have oz3 := frozen_of_obj (g1.obj oo2 (Ne.symm d3)) 0
  have FR2 := hide fr2; have C2 := hide c2; have OI2 := hide oi2; have OO2 := hide oo2; have G1 := hide g1
  clear K2 F1 OI1 OO1 f2 c2 t2 oi2 oo2 fr2 he g1
  go_wp2
  go_end0
  have g2 : Fr (fun k => k = po) (w2.setCell ⟨pi, 0, none⟩ (.string a.s)) ((w2.setCell ⟨pi, 0, none⟩ (.string a.s)).setCell ⟨po, 0, none⟩ (.bool true)) := (Fr.refl (fun k => k = po) _).setCell (.inl rfl) _
  refine ⟨.well, rfl, ((unhide FR2).trans ((unhide G1).mono fun k e => .inl (.inr (.inl e)))).trans (g2.mono fun k e => .inl (.inr (.inr e))), ?_, ?_, ?_, rfl⟩
  · exact g2.obj ((unhide G1).obj (unhide C2) d1) d2
  · exact g2.obj (set_one _ (unhide OI2)) d3
  · exact set_one _ ((unhide G1).obj (unhide OO2) (Ne.symm d3))

set_option maxHeartbeats 1000000 in
theorem only27_no {a : Deed} {pa c pi po : Nat} {x : Int} {w : World} (oa : w.heap[pa]? = some a.obj) (oc : w.heap[c]? = some (.cells #[.int .i64 x] 3)) (oi : w.heap[pi]? = some (.cells #[.string ByteArray.empty] 9)) (oo : w.heap[po]? = some (.cells #[.bool false] 4))
    (hx : 0 ≤ x ∧ x < 1000000) (d1 : c ≠ pi) (d2 : c ≠ po) (d3 : pi ≠ po) (hk : a.kind ≠ 2) :
    Calls Try.prog 27 #[ptr pa, ptr c, ptr pi, ptr po] w fun e w' => ∃ h : How, h.ended e ∧ Fr (fun k => k = c ∨ k = pi ∨ k = po) w w' ∧ w'.heap[c]? = some (.cells #[.int .i64 (x + 1)] 3) ∧
      w'.heap[pi]? = some (.cells #[.string ByteArray.empty] 9) ∧ w'.heap[po]? = some (.cells #[.bool false] 4) ∧ a.tells w.heap.size h w' := by
  obtain ⟨e0, e1, e2⟩ := deed_cells oa
  have K1 := hide (does_lies a oc hx)
  have OI := hide oi; have OO := hide oo
  have li := lt_of_obj oi; have lo := lt_of_obj oo; have lc := lt_of_obj oc
  clear oa oc oi oo
  go_enter Try.func27, Try.ntmps27
  go_wp2_with fail
  refine (unhide K1).mono ?_
  rintro e w1 ⟨pn, pa', rfl, f1, l1, hpn, hpa⟩
  have K2 := hide (onlyS_deed l1)
  have s1 := f1.size
  have F1 := hide f1; have OI1 := hide (f1.obj (unhide OI) (fun h => h)); have OO1 := hide (f1.obj (unhide OO) (fun h => h))
  clear K1 OI OO f1 l1 e0 e1 e2
  go_wp2_with fail
  refine (unhide K2).mono ?_
  rintro e w2 ⟨h, he, f2, c2, t2⟩
  have oi2 := f2.obj (unhide OI1) (Ne.symm d1)
  have oo2 := f2.obj (unhide OO1) (Ne.symm d2)
  have fr2 : Fr (fun k => k = c ∨ k = pi ∨ k = po) w w2 := ((unhide F1).mono (fun _ h => h.elim)).trans (f2.mono fun k hk => .inl (.inl hk))
  rcases t2.onlyS_no he hk with ⟨rfl, rfl⟩ | ⟨t, x', rfl, rfl⟩
  · have i2 := cell_of_obj oi2 0; have iz := frozen_of_obj oi2 0; have o2 := cell_of_obj oo2 0; have oz := frozen_of_obj oo2 0
    have g1 : Fr (fun k => k = pi) w2 (w2.setCell ⟨pi, 0, none⟩ (.string ByteArray.empty)) := (Fr.refl (fun k => k = pi) w2).setCell (.inl rfl) _
    have o3 := cell_of_obj (g1.obj oo2 (Ne.symm d3)) 0
    have oz3 := frozen_of_obj (g1.obj oo2 (Ne.symm d3)) 0
    have FR2 := hide fr2; have C2 := hide c2; have OI2 := hide oi2; have OO2 := hide oo2; have G1 := hide g1; have T2 := hide t2
    clear K2 F1 OI1 OO1 f2 c2 t2 oi2 oo2 fr2 he g1
    go_wp2
    go_end0
    have g2 : Fr (fun k => k = po) (w2.setCell ⟨pi, 0, none⟩ (.string ByteArray.empty)) ((w2.setCell ⟨pi, 0, none⟩ (.string ByteArray.empty)).setCell ⟨po, 0, none⟩ (.bool false)) := (Fr.refl (fun k => k = po) _).setCell (.inl rfl) _
    refine ⟨.well, rfl, ((unhide FR2).trans ((unhide G1).mono fun k e => .inl (.inr (.inl e)))).trans (g2.mono fun k e => .inl (.inr (.inr e))), ?_, ?_, ?_, ?_⟩
    · exact g2.obj ((unhide G1).obj (unhide C2) d1) d2
    · exact g2.obj (set_one _ (unhide OI2)) d3
    · exact set_one _ ((unhide G1).obj (unhide OO2) (Ne.symm d3))
    · exact (((unhide T2).keep (unhide G1) (fun k e => by omega)).keep g2 (fun k e => by omega)).mono (by omega)
  · exact ⟨rfl, .bad t x', How.ended_one _ _, fr2, c2, oi2, oo2, t2.mono (by omega)⟩

theorem only27_caught_yes {a : Deed} {pa c pi po : Nat} {x : Int} {w : World} (oa : w.heap[pa]? = some a.obj) (oc : w.heap[c]? = some (.cells #[.int .i64 x] 3)) (oi : w.heap[pi]? = some (.cells #[.string ByteArray.empty] 9)) (oo : w.heap[po]? = some (.cells #[.bool false] 4))
    (hx : 0 ≤ x ∧ x < 1000000) (d1 : c ≠ pi) (d2 : c ≠ po) (d3 : pi ≠ po) (hk : a.kind = 2) :
    Calls Try.prog 24 #[.func (.func 27) #[] #[ptr pa, ptr c, ptr pi, ptr po]] w fun e w' => ∃ h : How, e = .returned h.v ∧ Fr (fun k => k = c ∨ k = pi ∨ k = po) w w' ∧ w'.heap[c]? = some (.cells #[.int .i64 (x + 1)] 3) ∧
      w'.heap[pi]? = some (.cells #[.string a.s] 9) ∧ w'.heap[po]? = some (.cells #[.bool true] 4) ∧ h = .well := by
  have fb : Still w (w.alloc box) := (Fr.refl _ w).alloc box
  have lc := lt_of_obj oc; have li := lt_of_obj oi; have lo := lt_of_obj oo
  refine caught_fr (first := #[]) (cap := #[ptr pa, ptr c, ptr pi, ptr po]) (S := fun h w' => w'.heap[c]? = some (.cells #[.int .i64 (x + 1)] 3) ∧
      w'.heap[pi]? = some (.cells #[.string a.s] 9) ∧ w'.heap[po]? = some (.cells #[.bool true] 4) ∧ h = .well) enters27 (fun k hk => by omega)
    ((only27_yes (fb.obj oa (fun h => h)) (fb.obj oc (fun h => h)) (fb.obj oi (fun h => h)) (fb.obj oo (fun h => h)) hx d1 d2 d3 hk).mono ?_)
  rintro e w1 ⟨h, he, fr, g1, g2, g3, hw⟩
  exact ⟨h, he, fr, fun w2 f2 => ⟨f2.obj g1 (by omega), f2.obj g2 (by omega), f2.obj g3 (by omega), hw⟩⟩
theorem only27_caught_no {a : Deed} {pa c pi po : Nat} {x : Int} {w : World} (oa : w.heap[pa]? = some a.obj) (oc : w.heap[c]? = some (.cells #[.int .i64 x] 3)) (oi : w.heap[pi]? = some (.cells #[.string ByteArray.empty] 9)) (oo : w.heap[po]? = some (.cells #[.bool false] 4))
    (hx : 0 ≤ x ∧ x < 1000000) (d1 : c ≠ pi) (d2 : c ≠ po) (d3 : pi ≠ po) (hk : a.kind ≠ 2) :
    Calls Try.prog 24 #[.func (.func 27) #[] #[ptr pa, ptr c, ptr pi, ptr po]] w fun e w' => ∃ h : How, e = .returned h.v ∧ Fr (fun k => k = c ∨ k = pi ∨ k = po) w w' ∧ w'.heap[c]? = some (.cells #[.int .i64 (x + 1)] 3) ∧
      w'.heap[pi]? = some (.cells #[.string ByteArray.empty] 9) ∧ w'.heap[po]? = some (.cells #[.bool false] 4) ∧ a.tells (w.heap.size + 1) h w' := by
  have fb : Still w (w.alloc box) := (Fr.refl _ w).alloc box
  have lc := lt_of_obj oc; have li := lt_of_obj oi; have lo := lt_of_obj oo
  refine caught_fr (first := #[]) (cap := #[ptr pa, ptr c, ptr pi, ptr po]) (S := fun h w' => w'.heap[c]? = some (.cells #[.int .i64 (x + 1)] 3) ∧
      w'.heap[pi]? = some (.cells #[.string ByteArray.empty] 9) ∧ w'.heap[po]? = some (.cells #[.bool false] 4) ∧ a.tells (w.heap.size + 1) h w') enters27 (fun k hk => by omega)
    ((only27_no (fb.obj oa (fun h => h)) (fb.obj oc (fun h => h)) (fb.obj oi (fun h => h)) (fb.obj oo (fun h => h)) hx d1 d2 d3 hk).mono ?_)
  rintro e w1 ⟨h, he, fr, g1, g2, g3, t⟩
  rw [World.size_alloc] at t
  exact ⟨h, he, fr, fun w2 f2 => ⟨f2.obj g1 (by omega), f2.obj g2 (by omega), f2.obj g3 (by omega), t.keep f2 (fun k e => by omega)⟩⟩

set_option maxHeartbeats 1000000 in
theorem only28_ok {a : Deed} {pa c : Nat} {x : Int} {w : World} (oa : w.heap[pa]? = some a.obj) (oc : w.heap[c]? = some (.cells #[.int .i64 x] 3)) (hx : 0 ≤ x ∧ x < 1000000) :
    Calls Try.prog 28 #[ptr pa, ptr c] w fun e w' => ∃ h : How, h.ended e ∧ Fr (fun k => k = c) w w' ∧ w'.heap[c]? = some (.cells #[.int .i64 (x + 1)] 3) ∧ (a.kind = 3 → h = .well) ∧ (a.kind ≠ 3 → a.tells w.heap.size h w') := by
  obtain ⟨e0, e1, e2⟩ := deed_cells oa
  have K1 := hide (does_lies a oc hx)
  clear oa oc
  go_enter Try.func28, Try.ntmps28
  go_wp2_with fail
  refine (unhide K1).mono ?_
  rintro e w1 ⟨pn, pa', rfl, f1, l1, hpn, hpa⟩
  have K2 := hide (onlyX_deed l1)
  have s1 := f1.size
  have F1 := hide f1
  clear K1 f1 l1 e0 e1 e2
  go_wp2_with fail
  refine (unhide K2).mono ?_
  rintro e w2 ⟨h, he, f2, c2, t2⟩
  have fr2 : Fr (fun k => k = c) w w2 := ((unhide F1).mono (fun _ h => h.elim)).trans f2
  by_cases hk : a.kind = 3
  · obtain rfl := t2.onlyX_yes he hk
    have END : Hid (Fr (fun k => k = c) w w2 ∧ w2.heap[c]? = some (.cells #[.int .i64 (x + 1)] 3)) := hide ⟨fr2, c2⟩
    clear K2 F1 f2 c2 t2 fr2 he
    go_wp2
    go_end0
    exact ⟨.well, rfl, (unhide END).1, (unhide END).2, fun _ => rfl, fun h => absurd hk h⟩
  · rcases t2.onlyX_no he hk with ⟨rfl, rfl⟩ | ⟨t, x', rfl, rfl⟩
    · have END : Hid (Fr (fun k => k = c) w w2 ∧ w2.heap[c]? = some (.cells #[.int .i64 (x + 1)] 3) ∧ a.tells w.heap.size .well w2) := hide ⟨fr2, c2, t2.mono (by omega)⟩
      clear K2 F1 f2 c2 t2 fr2 he
      go_wp2
      go_end0
      exact ⟨.well, rfl, (unhide END).1, (unhide END).2.1, fun h => absurd h hk, fun _ => (unhide END).2.2⟩
    · exact ⟨rfl, .bad t x', How.ended_one _ _, fr2, c2, fun h => absurd h hk, fun _ => t2.mono (by omega)⟩

theorem only28_caught {a : Deed} {pa c : Nat} {x : Int} {w : World} (oa : w.heap[pa]? = some a.obj) (oc : w.heap[c]? = some (.cells #[.int .i64 x] 3)) (hx : 0 ≤ x ∧ x < 1000000) :
    Calls Try.prog 24 #[.func (.func 28) #[] #[ptr pa, ptr c]] w fun e w' => ∃ h : How, e = .returned h.v ∧ Fr (fun k => k = c) w w' ∧ w'.heap[c]? = some (.cells #[.int .i64 (x + 1)] 3) ∧ (a.kind = 3 → h = .well) ∧ (a.kind ≠ 3 → a.tells (w.heap.size + 1) h w') := by
  have fb : Still w (w.alloc box) := (Fr.refl _ w).alloc box
  have lc := lt_of_obj oc
  refine caught_fr (first := #[]) (cap := #[ptr pa, ptr c]) (S := fun h w' => w'.heap[c]? = some (.cells #[.int .i64 (x + 1)] 3) ∧ (a.kind = 3 → h = .well) ∧ (a.kind ≠ 3 → a.tells (w.heap.size + 1) h w')) enters28 (fun k hk => by omega)
    ((only28_ok (fb.obj oa (fun h => h)) (fb.obj oc (fun h => h)) hx).mono ?_)
  rintro e w1 ⟨h, he, fr, g1, g2, t⟩
  rw [World.size_alloc] at t
  exact ⟨h, he, fr, fun w2 f2 => ⟨f2.obj g1 (by omega), g2, fun hk => (t hk).keep f2 (fun k e => by omega)⟩⟩
end Go.Proofs.Ytebfocfofoajkaa
