/- A log of 64 words at the beginning of a device, between losses of power. -/
import Derived.Test.YtockkjkaopihjaaTls
namespace Go.Proofs.Ytockkjkaopihjaa
open Go.RowKit

/-- What the power may leave: as before xs, xs whole behind its mark, or as behind xs. -/
def Stand (base : Nat → Int) (xs : List (Int × Int)) (h : Nat → Int) : Prop := Clean 0 64 base h ∨ Half 32 0 64 base xs h ∨ Clean 0 64 (homed xs.reverse base) h
abbrev Rest (base : Nat → Int) (xs : List (Int × Int)) (s : Int) (A : Ab) : Prop := LogTorn 32 0 64 base xs s A

/-- Writes in memory: of words 64 to 255, at most 24; nil where there is none. -/
structure WrS (w : World) (xs : List (Int × Int)) (a : Option Addr) : Prop where
  len : xs.length ≤ 24
  out : ∀ x ∈ xs, 64 ≤ x.1 ∧ x.1 ≤ 255
  at_ : xs ≠ [] → ∃ g, a = some ⟨g, 0, none⟩ ∧ g < w.heap.size ∧ WrAt w g 0 xs

section
variable {w w' W : World} {b lg bg bx bd cap : Nat} {L : Lay} {free : Prop} {A : Ab} {s : Int} {f h base : Nat → Int} {xs : List (Int × Int)} {a : Option Addr}

theorem WrS.kept (x : WrS w xs a) {F : Nat → Prop} (hf : Fr F w w') (n : ∀ g o, a = some ⟨g, o, none⟩ → ¬ F g) : WrS w' xs a :=
  ⟨x.len, x.out, fun h => let ⟨g, e, l, t⟩ := x.at_ h; ⟨g, e, Nat.lt_of_lt_of_le l hf.size, t.kept hf (n g 0 e)⟩⟩

theorem Wrote.form {v : Value} (x : Wrote w xs v w') : ∃ a cap, v = .slice a xs.length cap ∧ WrS w' xs a ∧ ∀ g o, a = some ⟨g, o, none⟩ → w.heap.size ≤ g ∧ g < w'.heap.size := by
  have row := x.row
  rcases row.2 with ⟨rfl, hn⟩ | ⟨g, cp, cur, rfl, hb, hh, _⟩
  · have : xs = [] := List.eq_nil_of_length_eq_zero hn
    subst this
    exact ⟨none, 0, rfl, ⟨by simp, by simp, fun h => absurd rfl h⟩, fun g o e => by cases e⟩
  · have lt : g < w'.heap.size := (Array.getElem?_eq_some_iff.1 hh).1
    refine ⟨some ⟨g, 0, none⟩, cp, rfl, ⟨x.len, x.out, fun _ => ⟨g, rfl, lt, owns_wr row⟩⟩, fun g' o e => ?_⟩
    cases e
    exact ⟨hb, lt⟩

theorem takes64 (x : WrS w xs a) (h : xs ≠ []) : Takes 32 0 64 xs :=
  ⟨h, fun y hy => by have := x.out y hy; exact ⟨by omega, by omega, by omega⟩, by have := x.len; omega, by omega⟩

theorem stand_calm (c : Calm 32 free A s h) (st : Stand base xs h) : Rest base xs s A := ⟨c.n, c.st, fun k hp => by rw [calm_poss c hp]; exact st⟩
theorem Rest.more {t : Int} (r : Rest base xs s A) (h : s ≤ t) : Rest base xs t A := ⟨r.1, Int.le_trans r.2.1 h, r.2.2⟩
theorem clean_stand (c : Clean 0 64 base h) : Stand base [] h := .inl c

/-- Any writes that may be. -/
theorem commit_any (d : DevL w b L A) (hl : LogAt w lg b 0 64) (hlg : ¬ foot b L lg) (c : Calm 32 free A s f) (hc : Clean 0 64 base f) (x : WrS w xs a) (hx : ∀ g o, a = some ⟨g, o, none⟩ → ¬ foot b L g) (hs : s + 129 < 4294967296) :
    Calls Try.prog 13 #[ptr lg, .slice a xs.length cap] w fun e w' =>
      (e = .returned (.int .i64 0) ∧ DM w b L w' fun A' => ∃ f', Calm 32 free A' (s + 129) f' ∧ Clean 0 64 (homed xs.reverse base) f') ∨
      (e = .panicked lost ∧ DM w b L w' fun A' => ¬ free ∧ Rest base xs (s + 129) A') := by
  by_cases h : xs = []
  · subst h
    refine (commit_none hl (by omega) (by omega) a cap).mono ?_
    rintro e w' ⟨rfl, rfl⟩
    exact .inl ⟨rfl, DM.refl d ⟨f, c.more (by omega), hc⟩⟩
  · obtain ⟨g, rfl, lt, ha⟩ := x.at_ h
    have hlen := x.len
    refine (commit_ok d hl hlg c hc g 0 cap xs ha (hx g 0 rfl) (takes64 x h) (by omega) (by omega) (by omega)).mono ?_
    rintro e w' (⟨rfl, D⟩ | ⟨rfl, D⟩)
    · exact .inl ⟨rfl, D.mono fun A' ⟨f', c', l'⟩ => ⟨f', c'.more (by omega), l'⟩⟩
    · exact .inr ⟨rfl, D.mono fun A' ⟨n, t⟩ => ⟨n, Rest.more t (by omega)⟩⟩

/-- The log is opened: as before, or brought home. -/
theorem open_stand (d : DevL w b L A) (c : Calm 32 free A s h) (st : Stand base xs h) (hxs : xs.length ≤ 24) (hs : s + 52 < 4294967296) :
    Calls Try.prog 22 #[ptr b, .int .i64 0, .int .i64 64] w fun e w' =>
      (e = .returned (.tuple #[ptr w.heap.size, .int .i64 0]) ∧ LogAt w' w.heap.size b 0 64 ∧ ∃ L' A' h', On w b L w' L' A' ∧ ¬ foot b L' w.heap.size ∧ Calm 32 free A' (s + 52) h' ∧ (Clean 0 64 base h' ∨ Clean 0 64 (homed xs.reverse base) h')) ∨
      (e = .panicked lost ∧ DM w b L w' fun A' => ¬ free ∧ Rest base xs (s + 52) A') := by
  have fresh : h 0 = 0 → (Clean 0 64 base h ∨ Clean 0 64 (homed xs.reverse base) h) → Calls Try.prog 22 #[ptr b, .int .i64 0, .int .i64 64] w fun e w' =>
      (e = .returned (.tuple #[ptr w.heap.size, .int .i64 0]) ∧ LogAt w' w.heap.size b 0 64 ∧ ∃ L' A' h', On w b L w' L' A' ∧ ¬ foot b L' w.heap.size ∧ Calm 32 free A' (s + 52) h' ∧ (Clean 0 64 base h' ∨ Clean 0 64 (homed xs.reverse base) h')) ∨
      (e = .panicked lost ∧ DM w b L w' fun A' => ¬ free ∧ Rest base xs (s + 52) A') := fun h0 e2 => by
    refine (open_fresh d c.dead 0 64 (by omega) (by omega) (by rw [c.n]; omega) (by rw [c.now, h0])).mono ?_
    rintro e w' ⟨rfl, rfl⟩
    exact .inl ⟨rfl, log_new _ _ _ _, L, A, h, (On.start d).alloc _, fun hf => by have := d.lt _ hf; omega, c.more (by omega), e2⟩
  rcases st with e | e | e
  · exact fresh e.mark (.inl e)
  · refine (open_sealed d c (by omega) 0 64 (by omega) (by omega) (by omega) xs e.whole (by omega)).mono ?_
    rintro e' w' (⟨rfl, l', L', A', o, nf, c'⟩ | ⟨rfl, D⟩)
    · exact .inl ⟨rfl, l', L', A', _, o, nf, c'.more (by omega), .inr (e.done (by omega))⟩
    · refine .inr ⟨rfl, D.mono fun A' ⟨nf, t⟩ => ⟨nf, ?_⟩⟩
      have tt := e.torn (by omega) t
      obtain ⟨f', g, _, tn⟩ := t
      exact ⟨tn.n, by have := tn.st; omega, fun k hp => (tt k hp).elim (fun x => .inr (.inl x)) (fun x => .inr (.inr x))⟩
  · exact fresh e.mark (.inr e)
end
end Go.Proofs.Ytockkjkaopihjaa
