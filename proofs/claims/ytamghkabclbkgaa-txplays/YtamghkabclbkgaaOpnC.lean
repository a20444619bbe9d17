/- The log is opened; Room, Need. -/
import Derived.Test.YtamghkabclbkgaaComm
namespace Go.Proofs.Ytamghkabclbkgaa
open Go.RowKit

/-- What the power may leave: as before xs, xs whole behind its mark, or as behind xs. -/
def Stand (N : Nat) (base : Nat → Int) (xs : List (Int × Int)) (h : Nat → Int) : Prop := Clean 0 12304 base h ∨ Half N 0 12304 base xs h ∨ Clean 0 12304 (homed xs.reverse base) h
/-- What an opened store may be: as before xs, or as behind it. -/
def Either (base : Nat → Int) (xs : List (Int × Int)) (h : Nat → Int) : Prop := Clean 0 12304 base h ∨ Clean 0 12304 (homed xs.reverse base) h

section
variable {w w' : World} {b : Nat} {L : Lay} {N : Nat} {free : Prop} {A : Ab} {s : Int} {h base : Nat → Int} {xs : List (Int × Int)}

theorem stand_calm (c : Calm N free A s h) (st : Stand N base xs h) : LogTorn N 0 12304 base xs s A := ⟨c.n, c.st, fun k hp => by rw [calm_poss c hp]; exact st⟩

theorem open_stand (d : DevL w b L A) (c : Calm N free A s h) (st : Stand N base xs h) (hxs : xs.length ≤ 6144) (hN : 12304 ≤ N * 8) (hs : s + 12292 < 4294967296) :
    Calls Try.prog 51 #[ptr b, .int .i64 0, .int .i64 12304] w fun e w' =>
      (e = .returned (.tuple #[ptr w.heap.size, .int .i64 0]) ∧ LogAt w' w.heap.size b 0 12304 ∧ ∃ L' A' h', On w b L w' L' A' ∧ A'.n = A.n ∧ ¬ foot b L' w.heap.size ∧ Calm N free A' (s + 12292) h' ∧ Either base xs h') ∨
      (e = .panicked lost ∧ DM w b L w' fun A' => ¬ free ∧ LogTorn N 0 12304 base xs (s + 12292) A') := by
  have n8 := d.n8
  rw [c.n] at n8
  have fresh : h 0 = 0 → Either base xs h → Calls Try.prog 51 #[ptr b, .int .i64 0, .int .i64 12304] w fun e w' =>
      (e = .returned (.tuple #[ptr w.heap.size, .int .i64 0]) ∧ LogAt w' w.heap.size b 0 12304 ∧ ∃ L' A' h', On w b L w' L' A' ∧ A'.n = A.n ∧ ¬ foot b L' w.heap.size ∧ Calm N free A' (s + 12292) h' ∧ Either base xs h') ∨
      (e = .panicked lost ∧ DM w b L w' fun A' => ¬ free ∧ LogTorn N 0 12304 base xs (s + 12292) A') := fun h0 e2 => by
    refine (open_fresh d c.dead 0 12304 (by omega) (by omega) (by rw [c.n]; omega) (by rw [c.now, h0])).mono ?_
    rintro e w' ⟨rfl, rfl⟩
    exact .inl ⟨rfl, log_new _ _ _ _, L, A, h, (On.start d).alloc _, rfl, fun hf => by have := d.lt _ hf; omega, c.more (by omega), e2⟩
  rcases st with e | e | e
  · exact fresh e.mark (.inl e)
  · refine (open_sealed d c n8 0 12304 (by omega) (by omega) (by omega) xs e.whole (by omega)).mono ?_
    rintro e' w' (⟨rfl, l', L', A', o, nf, c'⟩ | ⟨rfl, D⟩)
    · exact .inl ⟨rfl, l', L', A', _, o, c'.n.trans c.n.symm, nf, c'.more (by omega), .inr (e.done (by omega))⟩
    · refine .inr ⟨rfl, D.mono fun A' ⟨nf, t⟩ => ⟨nf, ?_⟩⟩
      have tt := e.torn (by omega) t
      obtain ⟨f', g, _, tn⟩ := t
      exact ⟨tn.n, by have := tn.st; omega, fun k hp => (tt k hp).elim (fun x => .inr (.inl x)) (fun x => .inr (.inr x))⟩
  · exact fresh e.mark (.inr e)

set_option maxHeartbeats 400000 in
theorem need_ok (w : World) : Calls Try.prog 52 #[.int .i64 6144] w fun e w' => e = .returned (.int .i64 12304) ∧ w' = w := by
  go_enter Try.func52, Try.ntmps52
  go_wp2
  go_ret
  exact ⟨rfl, rfl⟩

set_option maxHeartbeats 400000 in
theorem room_no (n : Int) (h : n < 12400) (w : World) : Calls Try.prog 18 #[.int .i64 n] w fun e w' => e = .returned (.int .i64 0) ∧ w' = w := by
  go_enter Try.func18, Try.ntmps18
  go_wp2
  go_ret
  exact ⟨rfl, rfl⟩

set_option maxHeartbeats 400000 in
theorem room_ok (n : Int) (h : 12400 ≤ n) (h2 : n < 4294967296) (w : World) : Calls Try.prog 18 #[.int .i64 n] w fun e w' => e = .returned (.int .i64 ((n - 12400) / 8 * 8)) ∧ w' = w := by
  go_enter Try.func18, Try.ntmps18
  go_wp2
  go_ret
  exact ⟨rfl, rfl⟩

set_option maxHeartbeats 2000000 in
theorem open_clo {bd bs sb : Nat} {R1 : World → Prop} {lgN : Nat → World → Prop} (cd : w.cell? ⟨bd, 0, none⟩ = some (ptr b)) (cs : w.cell? ⟨bs, 0, none⟩ = some (ptr sb))
    (K : Calls Try.prog 51 #[ptr b, .int .i64 0, .int .i64 12304] w.drew fun e w' => (∃ lg, e = .returned (.tuple #[ptr lg, .int .i64 0]) ∧ w'.cell? ⟨bd, 0, none⟩ = some (ptr b) ∧ w'.cell? ⟨bs, 0, none⟩ = some (ptr sb) ∧ w'.cell? ⟨sb, 1, none⟩ = some (.pointer none) ∧ w'.frozen? ⟨sb, 1, none⟩ = false ∧ lgN lg w') ∨ (e = .panicked lost ∧ R1 w')) :
    Calls Try.prog 50 #[ptr bd, ptr bs] w fun e w' => (e = .returned (.tuple #[]) ∧ ∃ w1 lg, lgN lg w1 ∧ w' = w1.setCell ⟨sb, 1, none⟩ (ptr lg)) ∨ (e = .panicked lost ∧ R1 w') := by
  have HK := hide K
  clear K
  go_enter Try.func50, Try.ntmps50
  go_wp2_with fail
  go_region_with (first | (go_at_call 52; refine (need_ok _).mono ?_; rintro e w' ⟨rfl, rfl⟩) | (go_at_call 51; refine (unhide HK).mono ?_; rintro e w2 (⟨lg, rfl, d2, s2, x2, z2, g2⟩ | ⟨rfl, r1⟩); rotate_left; (exact ⟨rfl, .inr ⟨rfl, r1⟩⟩); have HG := hide g2; clear g2))
  all_goals
    clear HK
    go_end0
    exact .inl ⟨rfl, w2, lg, unhide HG, rfl⟩
end
end Go.Proofs.Ytamghkabclbkgaa
