/- GuardErrnos, walked. -/
import Derived.Test.YtebfocfofoajkaaCaught
import Derived.Test.YtebfocfofoajkaaTriesW
namespace Go.Proofs.Ytebfocfofoajkaa
open Go.RowKit

theorem errno_deed {a : Deed} {pn pa c : Nat} {x : Int} {w : World} (l : Lies a pn pa c x w) :
    Calls Try.prog 13 #[deedF pn pa] w fun e w' => ∃ h, h.errno e ∧ Fr (fun k => k = c) w w' ∧ w'.heap[c]? = some (.cells #[.int .i64 (x + 1)] 3) ∧ a.tells (w.heap.size + 1) h w' :=
  errno_raw (try_deed l) fun _ _ ⟨_, _, t⟩ => t.known

/-- Errno about an act ends so: a number; or the act's panic goes on. -/
theorem Deed.tells.errno {a : Deed} {B : Nat} {h : How} {w : World} {e : Ending} (t : a.tells B h w) (he : h.errno e) :
    (∃ y, e = .returned (.int .i64 y) ∧ ((a.kind = 3 ∧ y = a.n) ∨ (a.bad = false ∧ y = 0))) ∨ (∃ t x, e = .panicked [{ v := .iface t x, recovered := false }] ∧ a.tells B (.bad t x) w ∧ a.kind ≠ 3 ∧ a.bad = true) := by
  have t' := t
  rcases t with ⟨hk, rfl⟩ | ⟨hk, rfl⟩ | ⟨hk, rfl⟩ | ⟨hk, b, _, rfl, _⟩ | ⟨hk, rfl⟩
  · rcases he with ⟨h, _⟩ | ⟨_, rfl⟩
    · exact absurd h (by decide)
    · exact .inr ⟨_, _, rfl, t', by omega, by simp [Deed.bad, hk]⟩
  · rcases he with ⟨h, _⟩ | ⟨_, rfl⟩
    · exact absurd h (by decide)
    · exact .inr ⟨_, _, rfl, t', by omega, by simp [Deed.bad, hk]⟩
  · rcases he with ⟨_, rfl⟩ | ⟨h, _⟩
    · exact .inl ⟨_, rfl, .inl ⟨hk, rfl⟩⟩
    · exact absurd rfl h
  · rcases he with ⟨h, _⟩ | ⟨_, rfl⟩
    · exact absurd h (by decide)
    · exact .inr ⟨_, _, rfl, t', by omega, by simp [Deed.bad, hk]⟩
  · cases he
    exact .inl ⟨_, rfl, .inr ⟨by simp [Deed.bad]; omega, rfl⟩⟩

theorem enters30 : Enters 30 := fun _ _ => by kernel_rfl

/-- How GuardErrnos' closure ended, and what it set e to. -/
def Deed.errnoed (a : Deed) (B : Nat) (h : How) (y : Int) (w : World) : Prop :=
  (a.kind = 3 ∧ h = .well ∧ y = a.n) ∨ (a.bad = false ∧ h = .well ∧ y = 0) ∨ (a.kind ≠ 3 ∧ a.bad = true ∧ a.tells B h w ∧ y = 0)

set_option maxHeartbeats 1000000 in
theorem errnos1_ok {a : Deed} {pa c pe : Nat} {x : Int} {w : World} (oa : w.heap[pa]? = some a.obj) (oc : w.heap[c]? = some (.cells #[.int .i64 x] 3)) (oe : w.heap[pe]? = some (.cells #[.int .i64 0] 25))
    (hx : 0 ≤ x ∧ x < 1000000) (ce : c ≠ pe) :
    Calls Try.prog 30 #[ptr pa, ptr c, ptr pe] w fun e w' => ∃ h : How, h.ended e ∧ Fr (fun k => k = c ∨ k = pe) w w' ∧ w'.heap[c]? = some (.cells #[.int .i64 (x + 1)] 3) ∧
      ∃ y, w'.heap[pe]? = some (.cells #[.int .i64 y] 25) ∧ a.errnoed w.heap.size h y w' := by
  obtain ⟨d0, d1, d2⟩ := deed_cells oa
  have K1 := hide (does_lies a oc hx)
  have OE := hide oe
  have lc := lt_of_obj oc; have le := lt_of_obj oe
  clear oa oc oe
  go_enter Try.func30, Try.ntmps30
  go_wp2_with fail
  refine (unhide K1).mono ?_
  rintro e w1 ⟨pn, pa', rfl, f1, l1, hpn, hpa⟩
  have oe1 := f1.obj (unhide OE) (fun h => h)
  have K2 := hide (errno_deed l1)
  have F1 := hide f1; have OE1 := hide oe1
  have s1 := f1.size
  clear K1 OE f1 l1 oe1 d0 d1 d2
  go_wp2_with fail
  refine (unhide K2).mono ?_
  rintro e w2 ⟨h, he, f2, c2, t2⟩
  have oe2 := f2.obj (unhide OE1) (by omega)
  have fr2 : Fr (fun k => k = c ∨ k = pe) w w2 := ((unhide F1).mono (fun _ h => h.elim)).trans (f2.mono fun k hk => .inl (.inl hk))
  have lt2 := t2.mono (C := w.heap.size) (by omega)
  clear K2 F1 OE1 f2 t2
  have oe2c := cell_of_obj oe2 0
  have oe2z := frozen_of_obj oe2 0
  rcases lt2.errno he with ⟨y, rfl, hy⟩ | ⟨t, x', rfl, t3, hk, hb⟩
  · have FR2 := hide fr2; have C2 := hide c2; have OE2 := hide oe2; have HY := hide hy
    clear lt2 he fr2 c2 oe2 hy
    go_wp2
    go_end0
    refine ⟨.well, rfl, (unhide FR2).setCell (.inl (.inr rfl)) _, ?_, y, ?_, ?_⟩
    · exact ((Fr.refl (fun k => k = pe) w2).setCell (.inl rfl) _).obj (unhide C2) ce
    · exact set_one _ (unhide OE2)
    · rcases unhide HY with ⟨h1, h2⟩ | ⟨h1, h2⟩
      · exact .inl ⟨h1, rfl, h2⟩
      · exact .inr (.inl ⟨h1, rfl, h2⟩)
  · exact ⟨rfl, .bad t x', How.ended_one _ _, fr2, c2, 0, oe2, .inr (.inr ⟨hk, hb, t3, rfl⟩)⟩
end Go.Proofs.Ytebfocfofoajkaa
