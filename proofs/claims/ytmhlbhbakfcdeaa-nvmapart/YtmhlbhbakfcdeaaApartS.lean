/- NvmApart: two devices side by side, neither touching the other's blocks. -/
import Derived.Test.YtmhlbhbakfcdeaaLinesC
import Derived.Test.YtmhlbhbakfcdeaaAwake
import Derived.Test.YtmhlbhbakfcdeaaCopy
namespace Go.Proofs.Ytmhlbhbakfcdeaa
open Go.RowKit

/-- In wr, which came out of w: device b is A, device c is E, in blocks apart; block po holds a truth; no other old block has turned. -/
structure Pair (w : World) (b c po : Nat) (F : Nat → Prop) (wr : World) (A E : Ab) : Prop where
  ex : ∃ L M, DevL wr b L A ∧ DevL wr c M E ∧ (∀ k, foot b L k → F k ∨ w.heap.size ≤ k) ∧ (∀ k, foot c M k → w.heap.size ≤ k) ∧ (∀ k, foot b L k → ¬ foot c M k)
  fr : Fr (fun k => F k ∨ (boolG po true k).isSome = true) w wr
  hpo : wr.heap[po]? = some (.cells #[.bool true] 4 (0, 0))
  pF : ¬ F po
  plt : po < w.heap.size

section
variable {w wr : World} {b c po : Nat} {F : Nat → Prop} {A E : Ab}

theorem Pair.at_ (h : Pair w b c po F wr A E) : At w b F (boolG po true) wr A := by
  obtain ⟨L, M, d, _, hL, _⟩ := h.ex
  refine ⟨⟨L, d, hL⟩, h.fr, fun k o e => ?_⟩
  by_cases ek : k = po
  · subst ek; rw [boolG_at] at e; cases e; exact ⟨h.hpo, h.pF, h.plt⟩
  · rw [boolG_other _ _ ek] at e; cases e

theorem Pair.stepB (h : Pair w b c po F wr A E) {L M : Lay} (hL : ∀ k, foot b L k → F k ∨ w.heap.size ≤ k) (e : DevL wr c M E) (hM : ∀ k, foot c M k → w.heap.size ≤ k) (ap : ∀ k, foot b L k → ¬ foot c M k)
    {w' : World} {L' : Lay} {A' : Ab} (d' : DevL w' b L' A') (f' : Fr (foot b L) wr w') (s' : ∀ k, foot b L' k → foot b L k ∨ wr.heap.size ≤ k) : Pair w b c po F w' A' E := by
  refine ⟨⟨L', M, d', e.kept f' (fun k hk x => ap k x hk), fun k hk => ?_, hM, fun k hk x => ?_⟩, h.fr.trans' f' (fun k hk => (hL k hk).elim (fun e => .inl (.inl e)) .inr), ?_, h.pF, h.plt⟩
  · rcases s' k hk with x | x
    · exact hL k x
    · exact .inr (Nat.le_trans h.fr.size x)
  · rcases s' k hk with y | y
    · exact ap k y x
    · have := e.lt k x; omega
  · refine (f'.block po (Nat.lt_of_lt_of_le h.plt h.fr.size) (fun x => ?_)).trans h.hpo
    rcases hL po x with y | y
    · exact h.pF y
    · have := h.plt; omega

theorem Pair.stepC (h : Pair w b c po F wr A E) {L M : Lay} (d : DevL wr b L A) (hL : ∀ k, foot b L k → F k ∨ w.heap.size ≤ k) (hM : ∀ k, foot c M k → w.heap.size ≤ k) (ap : ∀ k, foot b L k → ¬ foot c M k)
    {w' : World} {M' : Lay} {E' : Ab} (e' : DevL w' c M' E') (f' : Fr (foot c M) wr w') (s' : ∀ k, foot c M' k → foot c M k ∨ wr.heap.size ≤ k) : Pair w b c po F w' A E' := by
  refine ⟨⟨L, M', d.kept f' (fun k hk x => ap k hk x), e', hL, fun k hk => ?_, fun k hk x => ?_⟩, h.fr.trans' f' (fun k hk => .inr (hM k hk)), ?_, h.pF, h.plt⟩
  · rcases s' k hk with x | x
    · exact hM k x
    · exact Nat.le_trans h.fr.size x
  · rcases s' k x with y | y
    · exact ap k hk y
    · have := d.lt k hk; omega
  · refine (f'.block po (Nat.lt_of_lt_of_le h.plt h.fr.size) (fun x => ?_)).trans h.hpo
    have := hM po x; have := h.plt; omega

theorem Pair.setTrue (h : Pair w b c po F wr A E) : Pair w b c po F (wr.setCell ⟨po, 0, none⟩ (.bool true)) A E := by
  obtain ⟨L, M, d, e, hL, hM, ap⟩ := h.ex
  have hf : Fr (fun j => j = po) wr (wr.setCell ⟨po, 0, none⟩ (.bool true)) := (Fr.refl (fun j => j = po) wr).setCell (.inl rfl) _
  have lt := h.plt
  refine ⟨⟨L, M, d.kept hf (fun k hk x => ?_), e.kept hf (fun k hk x => ?_), hL, hM, ap⟩, h.fr.trans' hf (fun k hk => .inl (.inr (by subst hk; rw [boolG_at]; rfl))), heap_setCell_same wr po 0 #[.bool true] 4 (.bool true) h.hpo, h.pF, h.plt⟩
  · subst x
    rcases hL _ hk with y | y
    · exact h.pF y
    · omega
  · subst x; have := hM _ hk; omega

theorem Pair.fenceB (h : Pair w b c po F wr A E) (lv : Live A) (hs : A.steps + 1 < 4294967296) : Calls Try.prog 14 #[ptr b] wr fun e w' => e = .returned (.tuple #[]) ∧ Pair w b c po F w' A.tick.fenced E := by
  obtain ⟨L, M, d, e, hL, hM, ap⟩ := h.ex
  refine (fence_ok d lv hs).mono ?_
  rintro e w' ⟨rfl, L', d', f', s'⟩
  exact ⟨rfl, h.stepB hL ‹_› hM ap d' f' (fun k hk => .inl (s' k hk))⟩
theorem Pair.fenceC (h : Pair w b c po F wr A E) (lv : Live E) (hs : E.steps + 1 < 4294967296) : Calls Try.prog 14 #[ptr c] wr fun e w' => e = .returned (.tuple #[]) ∧ Pair w b c po F w' A E.tick.fenced := by
  obtain ⟨L, M, d, e, hL, hM, ap⟩ := h.ex
  refine (fence_ok e lv hs).mono ?_
  rintro e w' ⟨rfl, L', d', f', s'⟩
  exact ⟨rfl, h.stepC ‹_› hL hM ap d' f' (fun k hk => .inl (s' k hk))⟩
theorem Pair.powerB (h : Pair w b c po F wr A E) (hst : A.steps < 4294967296) (la : Option Addr) (len cap : Nat) (zs : Nat → Int) (hlen : len ≤ maxLen)
    (hl : ∀ k, k < len → ∃ xb xo, la = some ⟨xb, xo, none⟩ ∧ wr.cell? ⟨xb, xo + k, none⟩ = some (.int .i64 (zs k))) :
    Calls Try.prog 16 #[ptr b, .bool false, .slice la len cap] wr fun e w' => e = .returned (.tuple #[]) ∧ Pair w b c po F w' (A.powered false (nm zs len)) E := by
  obtain ⟨L, M, d, e, hL, hM, ap⟩ := h.ex
  refine (power_row d hst false la len cap zs hlen hl).mono ?_
  rintro e w' ⟨rfl, L', d', f', s'⟩
  exact ⟨rfl, h.stepB hL ‹_› hM ap d' f' (fun k hk => .inl (s' k hk))⟩
theorem Pair.powerC (h : Pair w b c po F wr A E) (hst : E.steps < 4294967296) (la : Option Addr) (len cap : Nat) (zs : Nat → Int) (hlen : len ≤ maxLen)
    (hl : ∀ k, k < len → ∃ xb xo, la = some ⟨xb, xo, none⟩ ∧ wr.cell? ⟨xb, xo + k, none⟩ = some (.int .i64 (zs k))) :
    Calls Try.prog 16 #[ptr c, .bool false, .slice la len cap] wr fun e w' => e = .returned (.tuple #[]) ∧ Pair w b c po F w' A (E.powered false (nm zs len)) := by
  obtain ⟨L, M, d, e, hL, hM, ap⟩ := h.ex
  refine (power_row e hst false la len cap zs hlen hl).mono ?_
  rintro e w' ⟨rfl, L', d', f', s'⟩
  exact ⟨rfl, h.stepC ‹_› hL hM ap d' f' (fun k hk => .inl (s' k hk))⟩
theorem Pair.loadB (h : Pair w b c po F wr A E) (hd : A.dead = false) (j : Nat) (hj : j < A.n * 8) : Calls Try.prog 15 #[ptr b, .int .i64 j] wr fun e w' => e = .returned (u64 (A.now j)) ∧ w' = wr := by
  obtain ⟨L, M, d, e, hL, hM, ap⟩ := h.ex
  exact load_ok d hd j hj
theorem Pair.loadC (h : Pair w b c po F wr A E) (hd : E.dead = false) (j : Nat) (hj : j < E.n * 8) : Calls Try.prog 15 #[ptr c, .int .i64 j] wr fun e w' => e = .returned (u64 (E.now j)) ∧ w' = wr := by
  obtain ⟨L, M, d, e, hL, hM, ap⟩ := h.ex
  exact load_ok e hd j hj
end

/-- Behind the two copies: three devices in blocks apart, alike. -/
structure Trio (w : World) (b c x po : Nat) (F : Nat → Prop) (V : World) (A : Ab) (C : Nat → Prop) : Prop where
  pair : Pair w b x po F V A A
  third : At V c C noG V A
  new : ∀ k, C k → w.heap.size ≤ k
  apart : ∃ L M, DevL V b L A ∧ DevL V x M A ∧ (∀ k, foot b L k → F k ∨ w.heap.size ≤ k) ∧ (∀ k, foot x M k → w.heap.size ≤ k) ∧ (∀ k, foot b L k → ¬ foot x M k) ∧ (∀ k, foot b L k → ¬ C k) ∧ ∀ k, foot x M k → ¬ C k

/-- What the third does leaves the other two alone. -/
theorem Trio.back {w V wr : World} {b c x po : Nat} {F C : Nat → Prop} {A B : Ab} (h : Trio w b c x po F V A C) (k : At V c C noG wr B) : Pair w b x po F wr A A := by
  obtain ⟨L, M, d, e, hL, hM, ap, a1, a2⟩ := h.apart
  have f : Fr C V wr := k.fr.mono (fun j hj => .inl (hj.elim id (fun x => by simp [noG] at x)))
  refine ⟨⟨L, M, d.kept f a1, e.kept f a2, hL, hM, ap⟩, h.pair.fr.trans' f (fun j hj => .inr (h.new j hj)), ?_, h.pair.pF, h.pair.plt⟩
  refine (f.block po (Nat.lt_of_lt_of_le h.pair.plt h.pair.fr.size) (fun y => ?_)).trans h.pair.hpo
  have := h.new po y; have := h.pair.plt; omega

/-- Two copies, one behind the other. -/
theorem Trio.made {w V0 V1 V2 : World} {b c x po : Nat} {F : Nat → Prop} {A : Ab} {L N M : Lay} (h : At w b F (boolG po true) V0 A) (d : DevL V0 b L A) (hL : ∀ k, foot b L k → F k ∨ w.heap.size ≤ k)
    (dc : DevL V1 c N A) (nc : ∀ k, foot c N k → V0.heap.size ≤ k) (f1 : Fr (fun _ => False) V0 V1) (dx : DevL V2 x M A) (nx : ∀ k, foot x M k → V1.heap.size ≤ k) (f2 : Fr (fun _ => False) V1 V2) : Trio w b c x po F V2 A (foot c N) := by
  have s0 := h.fr.size; have s1 := f1.size
  have lb := d.lt; have lc := dc.lt
  have h2 := (h.more f1).more f2
  have d2 := (d.keptF f1).keptF f2
  have ab : ∀ k, foot b L k → ¬ foot x M k := fun k hk hx => by have := lb k hk; have := nx k hx; omega
  have hM : ∀ k, foot x M k → w.heap.size ≤ k := fun k hk => by have := nx k hk; omega
  obtain ⟨g1, g2, g3⟩ := h2.gs po _ (boolG_at po true)
  refine ⟨⟨⟨L, M, d2, dx, hL, hM, ab⟩, h2.fr, g1, g2, g3⟩, At.start (dc.keptF f2) noG (fun k o e => by cases e), fun k hk => by have := nc k hk; omega, ⟨L, M, d2, dx, hL, hM, ab, fun k hk hc => ?_, fun k hk hc => ?_⟩⟩
  · have := lb k hk; have := nc k hc; omega
  · have := nx k hk; have := lc k hc; omega
end Go.Proofs.Ytmhlbhbakfcdeaa
