/- A device between two fences: what lasts is f, what is read is g; what each step makes of it, and of a loss of power. -/
import Derived.Test.YtamghkabclbkgaaLf
import Derived.Test.YtamghkabclbkgaaNew
namespace Go.Proofs.Ytamghkabclbkgaa
open Go.RowKit

/-- N lines, power on, at most s steps behind it; where it is free there is no fuse; f lasts, g is read, the lines fl are on their way as they are read. -/
structure Mid (N : Nat) (free : Prop) (A : Ab) (s : Int) (f g : Nat → Int) (fl : List Nat) : Prop where
  n : A.n = N
  dead : A.dead = false
  big : A.fuse < 9223372036854775808
  fz : free → A.fuse < 0
  st : A.steps ≤ s
  lasts : ∀ j, A.lasts j = f j
  now : ∀ j, A.now j = g j
  way : ∀ a, A.way a = if a ∈ fl then some (fun k => g (a * 8 + k)) else none

/-- The same with nothing on its way, and f both read and lasting. -/
abbrev Calm (N : Nat) (free : Prop) (A : Ab) (s : Int) (f : Nat → Int) : Prop := Mid N free A s f f []

/-- The power went: f lasts, g was read. -/
structure Torn (N : Nat) (A : Ab) (s : Int) (f g : Nat → Int) : Prop where
  n : A.n = N
  st : A.steps ≤ s
  lasts : ∀ j, A.lasts j = f j
  now : ∀ j, A.now j = g j

section
variable {N : Nat} {free : Prop} {A : Ab} {s : Int} {f g : Nat → Int} {fl : List Nat}
theorem Mid.torn (h : Mid N free A s f g fl) : Torn N { A with dead := true } s f g := ⟨h.n, h.st, h.lasts, h.now⟩
theorem Torn.more (h : Torn N A s f g) {t : Int} (ht : s ≤ t) : Torn N A t f g := ⟨h.n, Int.le_trans h.st ht, h.lasts, h.now⟩
theorem Mid.more (h : Mid N free A s f g fl) {t : Int} (ht : s ≤ t) : Mid N free A t f g fl := { h with st := Int.le_trans h.st ht }
theorem Mid.eqs (h : Mid N free A s f g fl) {f' g' : Nat → Int} (hf : ∀ j, f j = f' j) (hg : ∀ j, g j = g' j) : Mid N free A s f' g' fl := by
  rw [show f' = f from (funext hf).symm, show g' = g from (funext hg).symm]; exact h
theorem Mid.tick (h : Mid N free A s f g fl) : Mid N free A.tick (s + 1) f g fl := by
  refine { h with big := ?_, fz := ?_, st := ?_ }
  · have := h.big; show (if 0 < A.fuse then A.fuse - 1 else A.fuse) < _; split <;> omega
  · intro hf; have := h.fz hf; show (if 0 < A.fuse then A.fuse - 1 else A.fuse) < 0; rw [if_neg (by omega)]; exact this
  · have := h.st; show A.steps + 1 ≤ s + 1; omega
theorem Mid.live (h : Mid N free A s f g fl) (h0 : A.fuse ≠ 0) (hs : s < 4294967296) : Live A := ⟨h.dead, h0, h.big, by have := h.st; omega⟩
theorem Mid.store (h : Mid N free A s f g []) (j : Nat) (v : Int) : Mid N free (A.store j v) s f (upd g j v) [] := by
  refine { h with now := fun i => ?_, way := fun a => ?_ }
  · show upd A.now j v i = upd g j v i
    by_cases e : i = j
    · subst e; rw [upd_same, upd_same]
    · rw [upd_other _ _ e, upd_other _ _ e]; exact h.now i
  · show A.way a = _
    rw [h.way a]; simp
theorem Mid.sent (h : Mid N free A s f g fl) (a : Nat) : Mid N free (A.sendLine a) s f g (a :: fl) := by
  refine { h with way := fun i => ?_ }
  show upd A.way a _ i = _
  by_cases e : i = a
  · subst e
    rw [upd_same, if_pos (by simp)]
    congr 1
    funext k
    exact h.now _
  · rw [upd_other _ _ e, h.way i]
    simp [e]
theorem Mid.fenced (h : Mid N free A s f g fl) (hc : ∀ j, g j ≠ f j → j / 8 ∈ fl) : Calm N free A.fenced s g := by
  refine { h with lasts := fun j => ?_, way := fun a => ?_ }
  · show (match A.way (j / 8) with | some l => l (j % 8) | none => A.lasts j) = g j
    rw [h.way]
    by_cases e : j / 8 ∈ fl
    · rw [if_pos e]
      show g (j / 8 * 8 + j % 8) = g j
      rw [show j / 8 * 8 + j % 8 = j by omega]
    · rw [if_neg e]
      show A.lasts j = g j
      rw [h.lasts]
      exact (Classical.byContradiction fun hn => e (hc j (fun e' => hn e'.symm)))
  · show none = _
    simp
theorem fresh_calm (n : Nat) (free : Prop) : Calm n free (Ab.fresh n) 0 (fun _ => 0) :=
  ⟨rfl, rfl, by simp [Ab.fresh], fun _ => by simp [Ab.fresh], Int.le_refl _, fun _ => rfl, fun _ => rfl, fun _ => by simp [Ab.fresh]⟩
end

/-- Behind a call that began in w: the device is such that P; nothing else that was there has turned. -/
def DM (w : World) (b : Nat) (L : Lay) (w' : World) (P : Ab → Prop) : Prop :=
  ∃ L' A', DevL w' b L' A' ∧ P A' ∧ Fr (foot b L) w w' ∧ ∀ k, foot b L' k → foot b L k ∨ w.heap.size ≤ k

theorem DM.mono {w w' : World} {b : Nat} {L : Lay} {P P' : Ab → Prop} (h : DM w b L w' P) (hp : ∀ A, P A → P' A) : DM w b L w' P' :=
  let ⟨L', A', d, p, r⟩ := h; ⟨L', A', d, hp _ p, r⟩
theorem DM.refl {w : World} {b : Nat} {L : Lay} {A : Ab} (d : DevL w b L A) {P : Ab → Prop} (hp : P A) : DM w b L w P := ⟨L, A, d, hp, Fr.refl _ _, fun _ => .inl⟩
/-- Nothing but new blocks ahead of it. -/
theorem DM.after {w w1 w' : World} {b : Nat} {L : Lay} {P : Ab → Prop} (h : DM w1 b L w' P) (hf : Fr (fun _ => False) w w1) : DM w b L w' P := by
  obtain ⟨L', A', d, p, f, s⟩ := h
  exact ⟨L', A', d, p, (hf.mono (G := foot b L) (fun k hk => hk.elim)).trans f, fun k hk => (s k hk).imp id (fun x => Nat.le_trans hf.size x)⟩
/-- One call behind another. -/
theorem DM.trans {w w1 w2 : World} {b : Nat} {L L1 : Lay} {P : Ab → Prop} (h : DM w1 b L1 w2 P) (f1 : Fr (foot b L) w w1) (s1 : ∀ k, foot b L1 k → foot b L k ∨ w.heap.size ≤ k) : DM w b L w2 P := by
  obtain ⟨L2, A2, d2, p2, f2, s2⟩ := h
  exact ⟨L2, A2, d2, p2, f1.trans' f2 s1, fun k hk => (s2 k hk).elim (s1 k) (fun x => .inr (Nat.le_trans f1.size x))⟩
/-- Behind it only new blocks, and old ones that are none of the device's, turn. -/
theorem DM.more {w w1 w2 : World} {b : Nat} {L : Lay} {P : Ab → Prop} (h : DM w b L w1 P) (hf : Fr (fun _ => False) w1 w2) : DM w b L w2 P := by
  obtain ⟨L', A', d, p, f, s⟩ := h
  exact ⟨L', A', d.keptF hf, p, f.trans' hf (fun k hk => hk.elim), s⟩

/-- How a call on a device may end: well, or by a loss of power. -/
def Ends (w : World) (b : Nat) (L : Lay) (ok torn : Ab → Prop) (e : Ending) (w' : World) : Prop :=
  (e = .returned (.tuple #[]) ∧ DM w b L w' ok) ∨ (e = .panicked lost ∧ DM w b L w' torn)

section
variable {w : World} {b : Nat} {L : Lay} {N : Nat} {free : Prop} {A : Ab} {s : Int} {f g : Nat → Int} {fl : List Nat}

theorem d_store (d : DevL w b L A) (h : Mid N free A s f g []) (hs : s < 4294967296) (j : Nat) (hj : j < N * 8) (v : Int) :
    Calls Try.prog 70 #[ptr b, .int .i64 j, u64 v] w (Ends w b L (fun A' => Mid N free A' (s + 1) f (upd g j v) []) (fun A' => ¬ free ∧ Torn N A' s f g)) := by
  have hj' : j < A.n * 8 := by rw [h.n]; exact hj
  by_cases h0 : A.fuse = 0
  · refine (store_lost d (.inr h0) j v (by omega) (by omega)).mono ?_
    rintro e w' ⟨rfl, d', f'⟩
    exact .inr ⟨rfl, L, _, d', ⟨fun hf => by have := h.fz hf; omega, h.torn⟩, f', fun _ => .inl⟩
  · refine (store_ok d (h.live h0 hs) j hj' v).mono ?_
    rintro e w' ⟨rfl, d', f'⟩
    exact .inl ⟨rfl, L, _, d', (h.tick).store j v, f', fun _ => .inl⟩

theorem d_flush (d : DevL w b L A) (h : Mid N free A s f g fl) (hs : s + 1 < 4294967296) (j : Nat) (hj : j < N * 8) :
    Calls Try.prog 72 #[ptr b, .int .i64 j] w (Ends w b L (fun A' => Mid N free A' (s + 1) f g (j / 8 :: fl)) (fun A' => ¬ free ∧ Torn N A' s f g)) := by
  have hj' : j < A.n * 8 := by rw [h.n]; exact hj
  by_cases h0 : A.fuse = 0
  · refine (flush_lost d (.inr h0) j (by omega) (by omega)).mono ?_
    rintro e w' ⟨rfl, d', f'⟩
    exact .inr ⟨rfl, L, _, d', ⟨fun hf => by have := h.fz hf; omega, h.torn⟩, f', fun _ => .inl⟩
  · refine (flush_ok d (h.live h0 (by omega)) (by have := h.st; omega) j hj').mono ?_
    rintro e w' ⟨rfl, L', d', f', s'⟩
    exact .inl ⟨rfl, L', _, d', (h.tick).sent (j / 8), f', s'⟩

theorem d_fence (d : DevL w b L A) (h : Mid N free A s f g fl) (hs : s + 1 < 4294967296) (hc : ∀ j, g j ≠ f j → j / 8 ∈ fl) :
    Calls Try.prog 73 #[ptr b] w (Ends w b L (fun A' => Calm N free A' (s + 1) g) (fun A' => ¬ free ∧ Torn N A' s f g)) := by
  by_cases h0 : A.fuse = 0
  · refine (fence_lost d (.inr h0)).mono ?_
    rintro e w' ⟨rfl, d', f'⟩
    exact .inr ⟨rfl, L, _, d', ⟨fun hf => by have := h.fz hf; omega, h.torn⟩, f', fun _ => .inl⟩
  · refine (fence_ok d (h.live h0 (by omega)) (by have := h.st; omega)).mono ?_
    rintro e w' ⟨rfl, L', d', f', s'⟩
    exact .inl ⟨rfl, L', _, d', (h.tick).fenced hc, f', fun k hk => .inl (s' k hk)⟩

theorem d_load (d : DevL w b L A) (h : Mid N free A s f g fl) (j : Nat) (hj : j < N * 8) :
    Calls Try.prog 57 #[ptr b, .int .i64 j] w fun e w' => e = .returned (u64 (g j)) ∧ w' = w := by
  have := load_ok d h.dead j (by rw [h.n]; exact hj)
  rw [h.now j] at this
  exact this
end

/-- From w0 up to w nothing has turned but the device b, which is A now. -/
structure On (w0 : World) (b : Nat) (L0 : Lay) (w : World) (L : Lay) (A : Ab) : Prop where
  d : DevL w b L A
  fr : Fr (foot b L0) w0 w
  sub : ∀ k, foot b L k → foot b L0 k ∨ w0.heap.size ≤ k

section
variable {w0 w w' : World} {b : Nat} {L0 L : Lay} {A : Ab} {N : Nat} {free : Prop} {s : Int} {f g : Nat → Int} {fl : List Nat} {ok torn : Ab → Prop} {e : Ending}
theorem On.start (d : DevL w b L A) : On w b L w L A := ⟨d, Fr.refl _ _, fun _ => .inl⟩
theorem On.quiet (h : On w0 b L0 w L A) (hf : Fr (fun _ => False) w w') : On w0 b L0 w' L A := ⟨h.d.keptF hf, h.fr.trans' hf (fun _ hk => hk.elim), h.sub⟩
theorem On.drewN (h : On w0 b L0 w L A) (n : Nat) : On w0 b L0 (w.drewN n) L A := h.quiet ((Fr.refl _ w).drewN n)
theorem On.alloc (h : On w0 b L0 w L A) (o : Obj) : On w0 b L0 (w.alloc o) L A := h.quiet ((Fr.refl _ w).alloc o)
theorem On.log {lg at_ ws : Nat} (h : On w0 b L0 w L A) (hl : LogAt w0 lg b at_ ws) (hlg : ¬ foot b L0 lg) : LogAt w lg b at_ ws := hl.kept h.fr hlg
theorem On.dm (h : On w0 b L0 w L A) {P : Ab → Prop} (hp : P A) : DM w0 b L0 w P := ⟨L, A, h.d, hp, h.fr, h.sub⟩
theorem DM.on {P : Ab → Prop} (h : DM w0 b L0 w P) : ∃ L A, On w0 b L0 w L A ∧ P A := let ⟨L, A, d, p, f, s⟩ := h; ⟨L, A, ⟨d, f, s⟩, p⟩
theorem On.ends (h : On w0 b L0 w L A) (k : Ends w b L ok torn e w') : Ends w0 b L0 ok torn e w' :=
  k.imp (fun ⟨x, y⟩ => ⟨x, y.trans h.fr h.sub⟩) (fun ⟨x, y⟩ => ⟨x, y.trans h.fr h.sub⟩)
theorem On.dmd (h : On w0 b L0 w L A) {P : Ab → Prop} (k : DM w b L w' P) : DM w0 b L0 w' P := k.trans h.fr h.sub
/-- A block of others, old in w0, lies on. -/
theorem On.other (h : On w0 b L0 w L A) {k : Nat} (hk : k < w0.heap.size) (hn : ¬ foot b L0 k) : ¬ foot b L k := fun hf => by
  rcases h.sub k hf with e | e
  · exact hn e
  · omega

theorem On.trans {w1 : World} {L1 : Lay} {A1 : Ab} (h : On w0 b L0 w L A) (k : On w b L w1 L1 A1) : On w0 b L0 w1 L1 A1 :=
  ⟨k.d, h.fr.trans' k.fr h.sub, fun j hj => (k.sub j hj).elim (h.sub j) (fun x => .inr (Nat.le_trans h.fr.size x))⟩
theorem On.new (h : On w0 b L0 w L A) {k : Nat} (hk : w.heap.size ≤ k) : ¬ foot b L k := fun hf => by have := h.d.lt k hf; omega

theorem o_store (o : On w0 b L0 w L A) (h : Mid N free A s f g []) (hs : s < 4294967296) (i : Int) (j : Nat) (hi : i = j) (hj : j < N * 8) (v : Int) :
    Calls Try.prog 70 #[ptr b, .int .i64 i, u64 v] w (Ends w0 b L0 (fun A' => Mid N free A' (s + 1) f (upd g j v) []) (fun A' => ¬ free ∧ Torn N A' s f g)) := by
  subst hi; exact (d_store o.d h hs j hj v).mono fun _ _ => o.ends
theorem o_flush (o : On w0 b L0 w L A) (h : Mid N free A s f g fl) (hs : s + 1 < 4294967296) (i : Int) (j : Nat) (hi : i = j) (hj : j < N * 8) :
    Calls Try.prog 72 #[ptr b, .int .i64 i] w (Ends w0 b L0 (fun A' => Mid N free A' (s + 1) f g (j / 8 :: fl)) (fun A' => ¬ free ∧ Torn N A' s f g)) := by
  subst hi; exact (d_flush o.d h hs j hj).mono fun _ _ => o.ends
theorem o_fence (o : On w0 b L0 w L A) (h : Mid N free A s f g fl) (hs : s + 1 < 4294967296) (hc : ∀ j, g j ≠ f j → j / 8 ∈ fl) :
    Calls Try.prog 73 #[ptr b] w (Ends w0 b L0 (fun A' => Calm N free A' (s + 1) g) (fun A' => ¬ free ∧ Torn N A' s f g)) := (d_fence o.d h hs hc).mono fun _ _ => o.ends
theorem o_load (o : On w0 b L0 w L A) (h : Mid N free A s f g fl) (i : Int) (j : Nat) (hi : i = j) (hj : j < N * 8) :
    Calls Try.prog 57 #[ptr b, .int .i64 i] w fun e w' => e = .returned (u64 (g j)) ∧ w' = w := by
  subst hi; exact d_load o.d h j hj
end
end Go.Proofs.Ytamghkabclbkgaa
