/- GuardNested's closures. -/
import Derived.Test.YtebfocfofoajkabEnds
namespace Go.Proofs.Ytebfocfofoajkab
open Go.RowKit

/-- The law's seven variables, from s on: the two acts, n, m, behind, inner, outer. -/
structure NSt (s : Nat) (a b : Deed) (n m bh inn out : Int) (ws : World) : Prop where
  oa : ws.heap[s]? = some a.obj
  ob : ws.heap[s + 1]? = some b.obj
  on : ws.heap[s + 2]? = some (.cells #[.int .i64 n] 3)
  om : ws.heap[s + 3]? = some (.cells #[.int .i64 m] 3)
  oh : ws.heap[s + 4]? = some (.cells #[.int .i64 bh] 3)
  oi : ws.heap[s + 5]? = some (.cells #[.int .i64 inn] 36)
  oo : ws.heap[s + 6]? = some (.cells #[.int .i64 out] 36)

/-- The variables that may turn. -/
def five (s : Nat) : Nat → Prop := fun k => s + 2 ≤ k ∧ k ≤ s + 6

section
variable {s : Nat} {a b : Deed} {n m bh inn out : Int} {ws ws' : World}
theorem NSt.keep {F : Nat → Prop} (h : NSt s a b n m bh inn out ws) (f : Fr F ws ws') (hF : ∀ k, F k → k < s ∨ s + 6 < k) : NSt s a b n m bh inn out ws' :=
  ⟨f.obj h.oa (fun x => by have := hF _ x; omega), f.obj h.ob (fun x => by have := hF _ x; omega), f.obj h.on (fun x => by have := hF _ x; omega), f.obj h.om (fun x => by have := hF _ x; omega), f.obj h.oh (fun x => by have := hF _ x; omega), f.obj h.oi (fun x => by have := hF _ x; omega), f.obj h.oo (fun x => by have := hF _ x; omega)⟩
theorem NSt.setN (h : NSt s a b n m bh inn out ws) (f : Fr (fun k => k = s + 2) ws ws') {n' : Int} (hn : ws'.heap[s + 2]? = some (.cells #[.int .i64 n'] 3)) : NSt s a b n' m bh inn out ws' :=
  ⟨f.obj h.oa (by omega), f.obj h.ob (by omega), hn, f.obj h.om (by omega), f.obj h.oh (by omega), f.obj h.oi (by omega), f.obj h.oo (by omega)⟩
theorem NSt.setM (h : NSt s a b n m bh inn out ws) (f : Fr (fun k => k = s + 3) ws ws') {m' : Int} (hn : ws'.heap[s + 3]? = some (.cells #[.int .i64 m'] 3)) : NSt s a b n m' bh inn out ws' :=
  ⟨f.obj h.oa (by omega), f.obj h.ob (by omega), f.obj h.on (by omega), hn, f.obj h.oh (by omega), f.obj h.oi (by omega), f.obj h.oo (by omega)⟩
theorem cell_fr (w : World) (k : Nat) (v : Value) : Fr (fun j => j = k) w (w.setCell ⟨k, 0, none⟩ v) := (Fr.refl (fun j => j = k) w).setCell (.inl rfl) v
theorem NSt.setH (h : NSt s a b n m bh inn out ws) (x : Int) : NSt s a b n m x inn out (ws.setCell ⟨s + 4, 0, none⟩ (.int .i64 x)) :=
  have f := cell_fr ws (s + 4) (.int .i64 x)
  ⟨f.obj h.oa (by omega), f.obj h.ob (by omega), f.obj h.on (by omega), f.obj h.om (by omega), set_one _ h.oh, f.obj h.oi (by omega), f.obj h.oo (by omega)⟩
theorem NSt.setI (h : NSt s a b n m bh inn out ws) (x : Int) : NSt s a b n m bh x out (ws.setCell ⟨s + 5, 0, none⟩ (.int .i64 x)) :=
  have f := cell_fr ws (s + 5) (.int .i64 x)
  ⟨f.obj h.oa (by omega), f.obj h.ob (by omega), f.obj h.on (by omega), f.obj h.om (by omega), f.obj h.oh (by omega), set_one _ h.oi, f.obj h.oo (by omega)⟩
theorem NSt.setO (h : NSt s a b n m bh inn out ws) (x : Int) : NSt s a b n m bh inn x (ws.setCell ⟨s + 6, 0, none⟩ (.int .i64 x)) :=
  have f := cell_fr ws (s + 6) (.int .i64 x)
  ⟨f.obj h.oa (by omega), f.obj h.ob (by omega), f.obj h.on (by omega), f.obj h.om (by omega), f.obj h.oh (by omega), f.obj h.oi (by omega), set_one _ h.oo⟩
end

theorem enters16 : Enters 16 := fun _ _ => by kernel_rfl
theorem enters14 : Enters 14 := fun _ _ => by kernel_rfl

/-- The captured variables of the inner closure. -/
abbrev cap16 (s : Nat) : Array Value := #[ptr s, ptr (s + 2), ptr (s + 4), ptr (s + 5), ptr (s + 1), ptr (s + 3)]

set_option maxHeartbeats 1000000 in
theorem nested2_bad {s : Nat} {a b : Deed} {w : World} (h : NSt s a b 0 0 0 0 0 w) (hb : a.bad = true) (hk : a.kind ≠ 1) :
    Calls Try.prog 16 (cap16 s) w fun e w' => ∃ g : How, g.ended e ∧ Fr (five s) w w' ∧ NSt s a b 1 0 0 0 0 w' ∧ a.tells w.heap.size g w' := by
  obtain ⟨d0, d1, d2⟩ := deed_cells h.oa
  have K1 := hide (does_lies a h.on (by omega))
  have H := hide h; have HB := hide (And.intro hb hk)
  clear h hb hk
  go_enter Try.func16, Try.ntmps16
  go_wp2_with fail
  refine (unhide K1).mono ?_
  rintro e w1 ⟨pn, pa, rfl, f1, l1, hpn, hpa⟩
  have K2 := hide (onlyI_deed l1)
  have s1 := f1.size
  have h1 := (unhide H).keep f1 (fun _ h => h.elim)
  have F1 := hide f1; have H1 := hide h1
  clear K1 H f1 l1 h1 d0 d1 d2
  go_wp2_with fail
  refine (unhide K2).mono ?_
  rintro e w2 ⟨g, he, f2, c2, t2⟩
  have h2 := (unhide H1).setN f2 c2
  have fr2 : Fr (five s) w w2 := ((unhide F1).mono (fun _ h => h.elim)).trans (f2.mono fun k e => .inl (by subst e; exact ⟨by omega, by omega⟩))
  rcases t2.onlyI he with ⟨hk, _⟩ | ⟨hb, _⟩ | ⟨_, _, t, x, rfl, rfl⟩
  · exact absurd hk (unhide HB).2
  · rw [(unhide HB).1] at hb; cases hb
  · exact ⟨rfl, .bad t x, How.ended_one _ _, fr2, h2, t2.mono (by omega)⟩

/-- How often 'behind' was counted. -/
def Deed.behind (b : Deed) : Int := if b.bad then 1 else 2

set_option maxHeartbeats 2000000 in
theorem nested2_one {s : Nat} {n : Int} {t : ByteArray} {b : Deed} {w : World} (h : NSt s ⟨1, n, t⟩ b 0 0 0 0 0 w) :
    Calls Try.prog 16 (cap16 s) w fun e w' => ∃ g : How, g.ended e ∧ Fr (five s) w w' ∧ NSt s ⟨1, n, t⟩ b 1 1 b.behind 5 0 w' ∧ b.tells w.heap.size g w' := by
  obtain ⟨d0, d1, d2⟩ := deed_cells h.oa
  have K1 := hide (does_lies ⟨1, n, t⟩ h.on (by omega))
  have H := hide h
  clear h
  go_enter Try.func16, Try.ntmps16
  go_wp2_with fail
  refine (unhide K1).mono ?_
  rintro e w1 ⟨pn, pa, rfl, f1, l1, hpn, hpa⟩
  have K2 := hide (onlyI_deed l1)
  have s1 := f1.size
  have h1 := (unhide H).keep f1 (fun _ h => h.elim)
  have F1 := hide f1; have H1 := hide h1
  clear K1 H f1 l1 h1 d0 d1 d2
  go_wp2_with fail
  refine (unhide K2).mono ?_
  rintro e w2 ⟨g, he, f2, c2, t2⟩
  have h2 := (unhide H1).setN f2 c2
  have fr2 : Fr (five s) w w2 := ((unhide F1).mono (fun _ h => h.elim)).trans (f2.mono fun k e => .inl (by subst e; exact ⟨by omega, by omega⟩))
  rcases t2.onlyI he with ⟨_, rfl⟩ | ⟨hb, _⟩ | ⟨_, hk, _⟩
  · have h3 := h2.setH 1
    have h4 := h3.setI 5
    have q1 := cell_of_obj h2.oh 0; have q2 := frozen_of_obj h2.oh 0
    have q3 := cell_of_obj h3.oi 0; have q4 := frozen_of_obj h3.oi 0
    obtain ⟨e0, e1, e2⟩ := deed_cells h4.ob
    have K3 := hide (does_lies b h4.om (by omega))
    have fr4 : Fr (five s) w ((w2.setCell ⟨s + 4, 0, none⟩ (.int .i64 1)).setCell ⟨s + 5, 0, none⟩ (.int .i64 5)) := (fr2.trans ((cell_fr w2 (s + 4) _).mono fun k e => .inl (by subst e; exact ⟨by omega, by omega⟩))).trans ((cell_fr _ (s + 5) _).mono fun k e => .inl (by subst e; exact ⟨by omega, by omega⟩))
    have H4 := hide h4; have FR4 := hide fr4
    clear K2 F1 H1 f2 c2 t2 h2 h3 h4 fr2 fr4 he
    go_wp2_with fail
    refine (unhide K3).mono ?_
    rintro e w5 ⟨qn, qa, rfl, f5, l5, hqn, hqa⟩
    have h5 := (unhide H4).keep f5 (fun _ h => h.elim)
    have fr5 := (unhide FR4).trans (f5.mono (fun _ h => h.elim))
    have K4 := hide (does1_ok b l5.ha l5.hn l5.hc l5.hx l5.ac)
    have H5 := hide h5; have FR5 := hide fr5
    clear K3 H4 FR4 f5 l5 h5 fr5 q1 q2 q3 q4 e0 e1 e2
    go_wp2_with fail
    refine (unhide K4).mono ?_
    rintro e w6 ⟨g6, he6, f6, c6, t6⟩
    have h6 := (unhide H5).setM f6 c6
    have fr6 := (unhide FR5).trans (f6.mono fun k e => .inl (by subst e; exact ⟨by omega, by omega⟩))
    have t7 := t6.mono (unhide FR5).size
    have hi := t6.is
    cases g6 using How.byCases with
    | well =>
      cases he6
      have r1 := cell_of_obj h6.oh 0; have r2 := frozen_of_obj h6.oh 0
      have hb : b.behind = 2 := by rw [Deed.behind, ← hi]; rfl
      have END : Hid (Fr (five s) w (w6.setCell ⟨s + 4, 0, none⟩ (.int .i64 2)) ∧ NSt s ⟨1, n, t⟩ b 1 1 b.behind 5 0 (w6.setCell ⟨s + 4, 0, none⟩ (.int .i64 2)) ∧ b.tells w.heap.size .well (w6.setCell ⟨s + 4, 0, none⟩ (.int .i64 2))) :=
        hide ⟨fr6.trans ((cell_fr w6 (s + 4) _).mono fun k e => .inl (by subst e; exact ⟨by omega, by omega⟩)), by rw [hb]; exact h6.setH 2, by
          rcases t7 with ⟨_, h⟩ | ⟨_, h⟩ | ⟨_, h⟩ | ⟨_, _, _, h, _⟩ | h
          · cases h
          · cases h
          · cases h
          · cases h
          · exact .inr (.inr (.inr (.inr h)))⟩
      clear K4 H5 FR5 f6 c6 t6 h6 fr6 t7 hi hb
      go_wp2
      go_end0
      exact ⟨.well, rfl, unhide END⟩
    | bad t' x' =>
      obtain ⟨older, ho, rfl⟩ := he6
      have hb : b.behind = 1 := by rw [Deed.behind, ← hi]; rfl
      exact ⟨rfl, .bad t' x', ⟨older, ho, rfl⟩, fr6, by rw [hb]; exact h6, t7⟩
  · simp [Deed.bad] at hb
  · exact absurd rfl hk
set_option maxHeartbeats 2000000 in
theorem nested2_none {s : Nat} {a b : Deed} {w : World} (h : NSt s a b 0 0 0 0 0 w) (hA : a.bad = false) :
    Calls Try.prog 16 (cap16 s) w fun e w' => ∃ g : How, g.ended e ∧ Fr (five s) w w' ∧ NSt s a b 1 1 b.behind 0 0 w' ∧ b.tells w.heap.size g w' := by
  obtain ⟨d0, d1, d2⟩ := deed_cells h.oa
  have K1 := hide (does_lies a h.on (by omega))
  have H := hide h; have HA := hide hA
  clear h hA
  go_enter Try.func16, Try.ntmps16
  go_wp2_with fail
  refine (unhide K1).mono ?_
  rintro e w1 ⟨pn, pa, rfl, f1, l1, hpn, hpa⟩
  have K2 := hide (onlyI_deed l1)
  have s1 := f1.size
  have h1 := (unhide H).keep f1 (fun _ h => h.elim)
  have F1 := hide f1; have H1 := hide h1
  clear K1 H f1 l1 h1 d0 d1 d2
  go_wp2_with fail
  refine (unhide K2).mono ?_
  rintro e w2 ⟨g, he, f2, c2, t2⟩
  have h2 := (unhide H1).setN f2 c2
  have fr2 : Fr (five s) w w2 := ((unhide F1).mono (fun _ h => h.elim)).trans (f2.mono fun k e => .inl (by subst e; exact ⟨by omega, by omega⟩))
  rcases t2.onlyI he with ⟨hk, _⟩ | ⟨_, rfl⟩ | ⟨hb, _⟩
  · have := unhide HA; simp [Deed.bad, hk] at this
  · have h3 := h2.setH 1
    have h4 := h3
    have q1 := cell_of_obj h2.oh 0; have q2 := frozen_of_obj h2.oh 0
    obtain ⟨e0, e1, e2⟩ := deed_cells h4.ob
    have K3 := hide (does_lies b h4.om (by omega))
    have fr4 : Fr (five s) w (w2.setCell ⟨s + 4, 0, none⟩ (.int .i64 1)) := fr2.trans ((cell_fr w2 (s + 4) _).mono fun k e => .inl (by subst e; exact ⟨by omega, by omega⟩))
    have H4 := hide h4; have FR4 := hide fr4
    clear K2 F1 H1 f2 c2 t2 h2 h3 h4 fr2 fr4 he
    go_wp2_with fail
    refine (unhide K3).mono ?_
    rintro e w5 ⟨qn, qa, rfl, f5, l5, hqn, hqa⟩
    have h5 := (unhide H4).keep f5 (fun _ h => h.elim)
    have fr5 := (unhide FR4).trans (f5.mono (fun _ h => h.elim))
    have K4 := hide (does1_ok b l5.ha l5.hn l5.hc l5.hx l5.ac)
    have H5 := hide h5; have FR5 := hide fr5
    clear K3 H4 FR4 f5 l5 h5 fr5 q1 q2 e0 e1 e2
    go_wp2_with fail
    refine (unhide K4).mono ?_
    rintro e w6 ⟨g6, he6, f6, c6, t6⟩
    have h6 := (unhide H5).setM f6 c6
    have fr6 := (unhide FR5).trans (f6.mono fun k e => .inl (by subst e; exact ⟨by omega, by omega⟩))
    have t7 := t6.mono (unhide FR5).size
    have hi := t6.is
    cases g6 using How.byCases with
    | well =>
      cases he6
      have r1 := cell_of_obj h6.oh 0; have r2 := frozen_of_obj h6.oh 0
      have hb : b.behind = 2 := by rw [Deed.behind, ← hi]; rfl
      have END : Hid (Fr (five s) w (w6.setCell ⟨s + 4, 0, none⟩ (.int .i64 2)) ∧ NSt s a b 1 1 b.behind 0 0 (w6.setCell ⟨s + 4, 0, none⟩ (.int .i64 2)) ∧ b.tells w.heap.size .well (w6.setCell ⟨s + 4, 0, none⟩ (.int .i64 2))) :=
        hide ⟨fr6.trans ((cell_fr w6 (s + 4) _).mono fun k e => .inl (by subst e; exact ⟨by omega, by omega⟩)), by rw [hb]; exact h6.setH 2, by
          rcases t7 with ⟨_, h⟩ | ⟨_, h⟩ | ⟨_, h⟩ | ⟨_, _, _, h, _⟩ | h
          · cases h
          · cases h
          · cases h
          · cases h
          · exact .inr (.inr (.inr (.inr h)))⟩
      clear K4 H5 FR5 f6 c6 t6 h6 fr6 t7 hi hb
      go_wp2
      go_end0
      exact ⟨.well, rfl, unhide END⟩
    | bad t' x' =>
      obtain ⟨older, ho, rfl⟩ := he6
      have hb : b.behind = 1 := by rw [Deed.behind, ← hi]; rfl
      exact ⟨rfl, .bad t' x', ⟨older, ho, rfl⟩, fr6, by rw [hb]; exact h6, t7⟩
  · rw [unhide HA] at hb; cases hb
end Go.Proofs.Ytebfocfofoajkab
