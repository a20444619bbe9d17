/- NvmFuses: what holds between its rounds, and its calls of Told over it. -/
import Derived.Test.YtmhlbhbakfcdeaaFusesC
import Derived.Test.YtmhlbhbakfcdeaaTell
namespace Go.Proofs.Ytmhlbhbakfcdeaa
open Go.RowKit

/-- Behind q steps under a fuse of k. -/
structure Burn (k q : Nat) (A : Ab) : Prop where
  n : A.n = 2
  steps : A.steps = (min q k : Nat)
  fuse : A.fuse = (k - min q k : Nat)
  dead : A.dead = decide (k < q)

/-- In wr, which came out of w, device b is A; pd leads to it, p holds the round. -/
structure Rd (w : World) (v : Value) (b pd : Nat) (wr : World) (p q : Nat) (A : Ab) : Prop where
  dev : ∃ L, DevL wr b L A ∧ ∀ j, foot b L j → w.heap.size < j ∧ j ≠ pd ∧ j ≠ p
  fr : Fr (fun _ => False) w wr
  box : wr.cell? ⟨w.heap.size, 0, none⟩ = some v
  cd : wr.cell? ⟨pd, 0, none⟩ = some (ptr b)
  hp : wr.heap[p]? = some (.cells #[.int .i64 q] 3 (0, 0))
  lp : w.heap.size < p
  ne : p ≠ pd

section
variable {w wr : World} {v : Value} {b pd p q k : Nat} {A : Ab}

theorem Rd.ci (h : Rd w v b pd wr p q A) : wr.cell? ⟨p, 0, none⟩ = some (.int .i64 q) := cell_of_row _ _ 0 _ _ _ h.hp
theorem Rd.zi (h : Rd w v b pd wr p q A) : wr.frozen? ⟨p, 0, none⟩ = false := frozen_of_row _ _ 0 _ _ h.hp
theorem Rd.plt (h : Rd w v b pd wr p q A) : p < wr.heap.size := (Array.getElem?_eq_some_iff.1 h.hp).1

theorem Rd.more (h : Rd w v b pd wr p q A) {w' : World} (hf : Fr (fun _ => False) wr w') : Rd w v b pd w' p q A := by
  obtain ⟨L, d, hL⟩ := h.dev
  exact ⟨⟨L, d.keptF hf, hL⟩, h.fr.trans hf, hf.cell' h.box (fun x => x), hf.cell' h.cd (fun x => x), (hf.block p h.plt (fun x => x)).trans h.hp, h.lp, h.ne⟩
theorem Rd.drew (h : Rd w v b pd wr p q A) : Rd w v b pd wr.drew p q A := h.more ((Fr.refl _ _).drew)
theorem Rd.drewN (h : Rd w v b pd wr p q A) (n : Nat) : Rd w v b pd (wr.drewN n) p q A := h.more ((Fr.refl _ _).drewN n)

/-- A new block holds the next round. -/
theorem Rd.next (h : Rd w v b pd wr p q A) {w' : World} {p' q' : Nat} (hf : Fr (fun _ => False) wr w') (hlt : wr.heap.size ≤ p') (hp : w'.heap[p']? = some (.cells #[.int .i64 q'] 3 (0, 0))) : Rd w v b pd w' p' q' A := by
  obtain ⟨L, d, hL⟩ := h.dev
  have h1 := h.plt
  have h2 := World.block_lt_of_cell? _ _ h.cd
  have h3 := h.lp
  simp only at h2
  exact ⟨⟨L, d.keptF hf, fun j hj => ⟨(hL j hj).1, (hL j hj).2.1, fun e => by have := d.lt j hj; omega⟩⟩, h.fr.trans hf, hf.cell' h.box (fun x => x), hf.cell' h.cd (fun x => x), hp, by omega, by omega⟩

theorem Rd.of {L : Lay} {A' : Ab} (h : Rd w v b pd wr p q A) (hL : ∀ j, foot b L j → w.heap.size < j ∧ j ≠ pd ∧ j ≠ p) {w' : World} (a : At wr b (foot b L) noG w' A') : Rd w v b pd w' p q A' := by
  have hf : Fr (foot b L) wr w' := a.fr.mono (fun k hk => by
    rcases hk with e | e
    · exact .inl e
    · cases e)
  obtain ⟨L', d', hL'⟩ := a.ex
  have h1 := h.plt
  have h2 := World.block_lt_of_cell? _ _ h.cd
  have h3 := World.block_lt_of_cell? _ _ h.box
  have h4 := h.fr.size
  simp only at h2 h3
  refine ⟨⟨L', d', fun j hj => ?_⟩, h.fr.trans' hf (fun k hk => .inr (by have := (hL k hk).1; omega)), hf.cell' h.box (fun x => by have := (hL _ x).1; simp at this), hf.cell' h.cd (fun x => (hL _ x).2.1 rfl), (hf.block p h1 (fun x => (hL _ x).2.2 rfl)).trans h.hp, h.lp, h.ne⟩
  rcases hL' j hj with e | e
  · exact hL j e
  · exact ⟨by omega, by omega, by omega⟩

/-- The call of the round, with power. -/
theorem round_ok {xb xo len cap : Nat} {z : Int} (h : Rd w (.slice (some ⟨xb, xo, none⟩) len cap) b pd wr p q A) (hb : Burn k q A) (hqk : q < k) (hk : k ≤ 31) (hz : wr.cell? ⟨xb, xo + q, none⟩ = some (.int .i64 z)) (hq : q < len) :
    Calls Try.prog 10 #[.int .i64 0, .func (.func 27) #[] #[ptr w.heap.size, ptr p, ptr pd]] wr fun e w' => e = .returned (.int .i64 0) ∧ ∃ A', Rd w (.slice (some ⟨xb, xo, none⟩) len cap) b pd w' p q A' ∧ Burn k (q + 1) A' := by
  obtain ⟨L, d, hL⟩ := h.dev
  have fb := boxed_fr wr 0
  have hm : min q k = q := by omega
  have hs := hb.steps
  have hf := hb.fuse
  rw [hm] at hs hf
  refine (tell_ok (word := 0) (first := #[]) (cap := #[ptr w.heap.size, ptr p, ptr pd]) enters27 d (G := noG) (fun A' G' => Burn k (q + 1) A' ∧ G' = noG) (fun k o e => by cases e) (fun A' G' p k => by rw [p.2]) (fun a => ?_)).mono ?_
  · refine (fuses1_ok a ⟨by rw [hb.dead]; simp; omega, by omega, by omega, by omega⟩ (by omega) hb.n (fb.cell' h.box (fun x => x)) (fb.cell' h.ci (fun x => x)) (fb.cell' h.cd (fun x => x)) (fb.cell' hz (fun x => x)) hq).mono ?_
    rintro e w' ⟨he, A', a', st⟩
    refine ⟨he, A', noG, ⟨⟨st.n.trans hb.n, ?_, ?_, ?_⟩, rfl⟩, a'⟩
    · rw [st.steps, hs]; omega
    · rw [st.fuse]
      show (if 0 < A.fuse then A.fuse - 1 else A.fuse) = _
      rw [hf, if_pos (by omega)]; omega
    · rw [st.dead, hb.dead]
      have e1 : ¬ k < q := by omega
      have e2 : ¬ k < q + 1 := by omega
      simp [e1, e2]
  · rintro e w' ⟨rfl, A', G', ⟨hb', rfl⟩, a⟩
    exact ⟨rfl, A', h.of hL a, hb'⟩

/-- .. and without. -/
theorem round_lost {xb xo len cap : Nat} {z : Int} (h : Rd w (.slice (some ⟨xb, xo, none⟩) len cap) b pd wr p q A) (hb : Burn k q A) (hqk : ¬ q < k) (hz : wr.cell? ⟨xb, xo + q, none⟩ = some (.int .i64 z)) (hq : q < len) :
    Calls Try.prog 10 #[.int .i64 0, .func (.func 27) #[] #[ptr w.heap.size, ptr p, ptr pd]] wr fun e w' => e = .returned (.int .i64 1) ∧ ∃ A', Rd w (.slice (some ⟨xb, xo, none⟩) len cap) b pd w' p q A' ∧ Burn k (q + 1) A' := by
  obtain ⟨L, d, hL⟩ := h.dev
  have fb := boxed_fr wr 0
  have hm : min q k = k := by omega
  have hs := hb.steps
  have hf := hb.fuse
  rw [hm] at hs hf
  refine (tell_lost (word := 0) (first := #[]) (cap := #[ptr w.heap.size, ptr p, ptr pd]) enters27 d (G := noG) (fun A' G' => Burn k (q + 1) A' ∧ G' = noG) (fun k o e => by cases e) (fun A' G' p k => by rw [p.2]) (fun a => ?_)).mono ?_
  · refine (fuses1_lost a (.inr (by omega)) hb.n (fb.cell' h.box (fun x => x)) (fb.cell' h.ci (fun x => x)) (fb.cell' h.cd (fun x => x)) (fb.cell' hz (fun x => x)) hq).mono ?_
    rintro e w' ⟨he, a'⟩
    refine ⟨he, { A with dead := true }, noG, ⟨⟨hb.n, ?_, ?_, ?_⟩, rfl⟩, a'⟩
    · show A.steps = _; rw [hs]; omega
    · show A.fuse = _; rw [hf]; omega
    · show true = _
      have e2 : k < q + 1 := by omega
      simp [e2]
  · rintro e w' ⟨rfl, A', G', ⟨hb', rfl⟩, a⟩
    exact ⟨rfl, A', h.of hL a, hb'⟩

/-- The reading behind it. -/
theorem reads_ok (h : Rd w v b pd wr p q A) (hn : A.n = 2) (hd : A.dead = false) :
    Calls Try.prog 10 #[.int .i64 0, .func (.func 29) #[] #[ptr pd]] wr fun e w' => e = .returned (.int .i64 0) ∧ Rd w v b pd w' p q A := by
  obtain ⟨L, d, hL⟩ := h.dev
  have fb := boxed_fr wr 0
  refine (tell_pure (first := #[]) (cap := #[ptr pd]) enters29 (fuses2_ok (At.start (d.keptF fb) noG (fun k o e => by cases e)) hd hn (fb.cell' h.cd (fun x => x)))).mono ?_
  rintro e w' ⟨rfl, hf⟩
  exact ⟨rfl, h.more hf⟩
theorem reads_lost (h : Rd w v b pd wr p q A) (hn : A.n = 2) (hd : A.dead = true) :
    Calls Try.prog 10 #[.int .i64 0, .func (.func 29) #[] #[ptr pd]] wr fun e w' => e = .returned (.int .i64 1) ∧ Rd w v b pd w' p q A := by
  obtain ⟨L, d, hL⟩ := h.dev
  have fb := boxed_fr wr 0
  refine (tell_pure_lost (first := #[]) (cap := #[ptr pd]) enters29 (fuses2_lost (At.start (d.keptF fb) noG (fun k o e => by cases e)) hd hn (fb.cell' h.cd (fun x => x)))).mono ?_
  rintro e w' ⟨rfl, hf⟩
  exact ⟨rfl, h.more hf⟩
theorem rd_dead (h : Rd w v b pd wr p q A) : Calls Try.prog 28 #[ptr b] wr fun e w' => e = .returned (.bool A.dead) ∧ w' = wr := by
  obtain ⟨L, d, hL⟩ := h.dev
  exact dead_any b A.dead wr d.c6
theorem rd_steps (h : Rd w v b pd wr p q A) : Calls Try.prog 23 #[ptr b] wr fun e w' => e = .returned (.int .i64 A.steps) ∧ w' = wr := by
  obtain ⟨L, d, hL⟩ := h.dev
  exact steps_any b A.steps wr d.c4

/-- The power comes back; one more fence. -/
theorem rd_power (h : Rd w v b pd wr p q A) (hst : A.steps < 4294967296) :
    Calls Try.prog 16 #[ptr b, .bool true, .slice none 0 0] wr fun e w' => e = .returned (.tuple #[]) ∧ Rd w v b pd w' p q (A.powered true (nm (fun _ => 0) 0)) := by
  obtain ⟨L, d, hL⟩ := h.dev
  refine (power_row d hst true none 0 0 (fun _ => 0) (Nat.zero_le _) (fun k hk => by omega)).mono ?_
  rintro e w' ⟨rfl, L', d', f', s'⟩
  refine ⟨rfl, h.of hL ((At.start d noG (fun k o e => by cases e)).step (fun k => .inl) d' f' (fun k hk => .inl (s' k hk)))⟩
theorem rd_fence (h : Rd w v b pd wr p q A) (lv : Live A) (hs1 : A.steps + 1 < 4294967296) :
    Calls Try.prog 10 #[.int .i64 0, .func (.func 14) #[ptr b] #[]] wr fun e w' => e = .returned (.int .i64 0) ∧ Fr (fun _ => False) w w' := by
  obtain ⟨L, d, hL⟩ := h.dev
  refine (tell_ok (word := 0) (first := #[ptr b]) (cap := #[]) enters14 d (G := noG) (fun A' G' => G' = noG) (fun k o e => by cases e) (fun A' G' p k => by rw [p]) (fun a => ?_)).mono ?_
  · refine (at_fence a lv hs1).mono ?_
    rintro e w' ⟨rfl, a'⟩
    exact ⟨⟨_, rfl⟩, _, noG, rfl, a'⟩
  · rintro e w' ⟨rfl, A', G', rfl, a⟩
    exact ⟨rfl, (h.of hL a).fr⟩
end
end Go.Proofs.Ytmhlbhbakfcdeaa
