/- A device through a row of calls: its blocks are old ones of it or new, no other block turns but those that are named. -/
import Derived.Test.YtamghkabclbkgaaPower
import Derived.Test.YtamghkabclbkgaaFlush
import Derived.Test.YtamghkabclbkgaaNew
import Derived.Test.YtamghkabclbkgaaTold
namespace Go.Proofs.Ytamghkabclbkgaa
open Go.RowKit

/-- In w, which came out of w0, device b is A; its blocks are of F or new since w0; the blocks of G hold what G says; no other old block has turned. -/
structure At (w0 : World) (b : Nat) (F : Nat → Prop) (G : Nat → Option Obj) (w : World) (A : Ab) : Prop where
  ex : ∃ L, DevL w b L A ∧ ∀ k, foot b L k → F k ∨ w0.heap.size ≤ k
  fr : Fr (fun k => F k ∨ (G k).isSome = true) w0 w
  gs : ∀ k o, G k = some o → w.heap[k]? = some o ∧ ¬ F k ∧ k < w0.heap.size

abbrev noG : Nat → Option Obj := fun _ => none

section
variable {w0 w : World} {b : Nat} {F : Nat → Prop} {G : Nat → Option Obj} {A : Ab}

theorem At.start {L : Lay} (h : DevL w b L A) (G : Nat → Option Obj) (hG : ∀ k o, G k = some o → w.heap[k]? = some o ∧ ¬ foot b L k) : At w b (foot b L) G w A :=
  ⟨⟨L, h, fun _ => .inl⟩, Fr.refl _ _, fun k o e => ⟨(hG k o e).1, (hG k o e).2, (Array.getElem?_eq_some_iff.1 (hG k o e).1).1⟩⟩

theorem At.cell (h : At w0 b F G w A) {p : Addr} {v : Value} (hv : w0.cell? p = some v) (hF : ¬ F p.block) (hG : G p.block = none) : w.cell? p = some v :=
  h.fr.cell' hv (fun e => e.elim hF (by rw [hG]; simp))

theorem At.gcell (h : At w0 b F G w A) {k : Nat} {cs : Array Value} {t : TypeId} {fr : Nat × Nat} (hk : G k = some (.cells cs t fr)) (i : Nat) : w.cell? ⟨k, i, none⟩ = cs[i]? :=
  cell_of_row w k i cs t fr (h.gs k _ hk).1
theorem At.gfrozen (h : At w0 b F G w A) {k : Nat} {cs : Array Value} {t : TypeId} (hk : G k = some (.cells cs t (0, 0))) (i : Nat) : w.frozen? ⟨k, i, none⟩ = false :=
  frozen_of_row w k i cs t (h.gs k _ hk).1

theorem At.hf (h : At w0 b F G w A) {L : Lay} (hL : ∀ k, foot b L k → F k ∨ w0.heap.size ≤ k) {k : Nat} {o : Obj} (hk : G k = some o) : ¬ foot b L k := fun hf => by
  obtain ⟨_, n, l⟩ := h.gs k o hk
  rcases hL k hf with e | e
  · exact n e
  · omega

/-- A step of the device's own. -/
theorem At.step (h : At w0 b F G w A) {w' : World} {L L' : Lay} {A' : Ab} (hL : ∀ k, foot b L k → F k ∨ w0.heap.size ≤ k) (d' : DevL w' b L' A') (f' : Fr (foot b L) w w') (s' : ∀ k, foot b L' k → foot b L k ∨ w.heap.size ≤ k) : At w0 b F G w' A' := by
  refine ⟨⟨L', d', fun k hk => ?_⟩, h.fr.trans' f' (fun k hk => (hL k hk).elim (fun e => .inl (.inl e)) .inr), fun k o e => ?_⟩
  · rcases s' k hk with e | e
    · exact hL k e
    · exact .inr (Nat.le_trans h.fr.size e)
  · obtain ⟨g1, g2, g3⟩ := h.gs k o e
    exact ⟨(f'.block k (Nat.lt_of_lt_of_le g3 h.fr.size) (h.hf hL e)).trans g1, g2, g3⟩

/-- Nothing that was there turns. -/
theorem At.more (h : At w0 b F G w A) {w' : World} (hf : Fr (fun _ => False) w w') : At w0 b F G w' A := by
  obtain ⟨L, d, hL⟩ := h.ex
  exact ⟨⟨L, d.keptF hf, hL⟩, h.fr.trans' hf (fun k hk => hk.elim), fun k o e => by
    obtain ⟨g1, g2, g3⟩ := h.gs k o e
    exact ⟨(hf.block k (Nat.lt_of_lt_of_le g3 h.fr.size) (fun x => x)).trans g1, g2, g3⟩⟩

theorem At.alloc (h : At w0 b F G w A) (o : Obj) : At w0 b F G (w.alloc o) A := h.more ((Fr.refl _ w).alloc o)
theorem At.drew (h : At w0 b F G w A) : At w0 b F G w.drew A := h.more ((Fr.refl _ w).drew)
theorem At.drewN (h : At w0 b F G w A) (n : Nat) : At w0 b F G (w.drewN n) A := h.more ((Fr.refl _ w).drewN n)

/-- A cell of another's block is stored. -/
theorem At.setCell (h : At w0 b F G w A) {k : Nat} {cs : Array Value} {t : TypeId} (hk : G k = some (.cells cs t (0, 0))) (i : Nat) (v : Value) :
    At w0 b F (upd G k (some (.cells (cs.setIfInBounds i v) t (0, 0)))) (w.setCell ⟨k, i, none⟩ v) A := by
  obtain ⟨L, d, hL⟩ := h.ex
  have hf : Fr (fun j => j = k) w (w.setCell ⟨k, i, none⟩ v) := (Fr.refl (fun j => j = k) w).setCell (.inl rfl) v
  obtain ⟨g1, g2, g3⟩ := h.gs k _ hk
  refine ⟨⟨L, d.kept hf (fun j hj e => h.hf hL hk (by rw [← e]; exact hj)), hL⟩, ?_, fun j o e => ?_⟩
  · refine (h.fr.mono (G := fun j => F j ∨ (upd G k (some (Obj.cells (cs.setIfInBounds i v) t (0, 0))) j).isSome = true) (fun j hj => .inl ?_)).trans' hf (fun j hj => .inl (.inr (by subst hj; rw [upd_same]; rfl)))
    rcases hj with e | e
    · exact .inl e
    · refine .inr ?_
      by_cases ej : j = k
      · subst ej; rw [upd_same]; rfl
      · rw [upd_other _ _ ej]; exact e
  · by_cases ej : j = k
    · subst ej
      rw [upd_same] at e
      cases e
      exact ⟨heap_setCell_same w j i cs t v g1, g2, g3⟩
    · rw [upd_other _ _ ej] at e
      obtain ⟨q1, q2, q3⟩ := h.gs j o e
      exact ⟨(Below.heap_setCell _ _ _ _ ej).trans q1, q2, q3⟩

/-- From here on. -/
theorem At.rebase (h : At w0 b F G w A) (G' : Nat → Option Obj) (hG : ∀ k o, G' k = some o → w.heap[k]? = some o ∧ k < w0.heap.size ∧ ¬ F k) :
    ∃ F', At w b F' G' w A ∧ (∀ k, F' k → k < w.heap.size) ∧ ∀ k, F' k → F k ∨ w0.heap.size ≤ k := by
  obtain ⟨L, d, hL⟩ := h.ex
  refine ⟨foot b L, At.start d G' (fun k o e => ⟨(hG k o e).1, fun hf => ?_⟩), d.lt, hL⟩
  obtain ⟨_, l, n⟩ := hG k o e
  rcases hL k hf with e | e
  · exact n e
  · omega

theorem at_store (h : At w0 b F G w A) (lv : Live A) (j : Nat) (hj : j < A.n * 8) (v : Int) :
    Calls Try.prog 70 #[ptr b, .int .i64 j, u64 v] w fun e w' => e = .returned (.tuple #[]) ∧ At w0 b F G w' (A.tick.store j v) := by
  obtain ⟨L, d, hL⟩ := h.ex
  refine (store_ok d lv j hj v).mono ?_
  rintro e w' ⟨rfl, d', f'⟩
  exact ⟨rfl, h.step hL d' f' (fun _ => .inl)⟩

theorem at_load (h : At w0 b F G w A) (hd : A.dead = false) (j : Nat) (hj : j < A.n * 8) :
    Calls Try.prog 57 #[ptr b, .int .i64 j] w fun e w' => e = .returned (u64 (A.now j)) ∧ w' = w := by
  obtain ⟨L, d, hL⟩ := h.ex
  exact load_ok d hd j hj

theorem at_flush (h : At w0 b F G w A) (lv : Live A) (hs1 : A.steps + 1 < 4294967296) (j : Nat) (hj : j < A.n * 8) :
    Calls Try.prog 72 #[ptr b, .int .i64 j] w fun e w' => e = .returned (.tuple #[]) ∧ At w0 b F G w' (A.tick.sendLine (j / 8)) := by
  obtain ⟨L, d, hL⟩ := h.ex
  refine (flush_ok d lv hs1 j hj).mono ?_
  rintro e w' ⟨rfl, L', d', f', s'⟩
  exact ⟨rfl, h.step hL d' f' s'⟩

theorem at_fence (h : At w0 b F G w A) (lv : Live A) (hs1 : A.steps + 1 < 4294967296) :
    Calls Try.prog 73 #[ptr b] w fun e w' => e = .returned (.tuple #[]) ∧ At w0 b F G w' A.tick.fenced := by
  obtain ⟨L, d, hL⟩ := h.ex
  refine (fence_ok d lv hs1).mono ?_
  rintro e w' ⟨rfl, L', d', f', s'⟩
  exact ⟨rfl, h.step hL d' f' (fun k hk => .inl (s' k hk))⟩

theorem at_power (h : At w0 b F G w A) (hst : A.steps < 4294967296) (flip : Bool) (la : Option Addr) (len cap : Nat) (zs : Nat → Int) (hlen : len ≤ maxLen)
    (hl : ∀ k, k < len → ∃ xb xo, la = some ⟨xb, xo, none⟩ ∧ w.cell? ⟨xb, xo + k, none⟩ = some (.int .i64 (zs k))) :
    Calls Try.prog 15 #[ptr b, .bool flip, .slice la len cap] w fun e w' => e = .returned (.tuple #[]) ∧ At w0 b F G w' (A.powered flip (nm zs len)) := by
  obtain ⟨L, d, hL⟩ := h.ex
  refine (power_row d hst flip la len cap zs hlen hl).mono ?_
  rintro e w' ⟨rfl, L', d', f', s'⟩
  exact ⟨rfl, h.step hL d' f' (fun k hk => .inl (s' k hk))⟩

theorem at_power_nil (h : At w0 b F G w A) (hst : A.steps < 4294967296) (flip : Bool) :
    Calls Try.prog 15 #[ptr b, .bool flip, .slice none 0 0] w fun e w' => e = .returned (.tuple #[]) ∧ At w0 b F G w' (A.powered flip (fun _ => false)) := by
  have := at_power h hst flip none 0 0 (fun _ => 0) (Nat.zero_le _) (fun k hk => by omega)
  have e : nm (fun _ => 0) 0 = fun _ => false := by funext j; rfl
  rw [e] at this
  exact this

theorem at_words (h : At w0 b F G w A) : Calls Try.prog 46 #[ptr b] w fun e w' => e = .returned (.int .i64 (A.n * 8)) ∧ w' = w := by
  obtain ⟨L, d, hL⟩ := h.ex
  exact words_any b L.bn A.n w d.n8 d.c0

theorem at_wrong (h : At w0 b F G w A) (i : Int) (hi : i < 0 ∨ A.n * 8 ≤ i) : Calls Try.prog 57 #[ptr b, .int .i64 i] w fun e w' => e = .panicked (wrong i) ∧ w' = w := by
  obtain ⟨L, d, hL⟩ := h.ex
  exact load_wrong d i hi
end

theorem enters14 : Enters 73 := fun _ _ => by kernel_rfl
end Go.Proofs.Ytamghkabclbkgaa
