/- MarkFrom: the function value that it gives. -/
import Derived.Test.YtkdehhmmcchgfaaFc
namespace Go.Proofs.Ytkdehhmmcchgfaa
open Go.RowKit

theorem Own.three (w : World) (x y z : Int) : Own (w.alloc (.cells #[iv x, iv y, iv z] 3)) w.heap.size (.slice (some ⟨w.heap.size, 0, none⟩) 3 3) [x, y, z] :=
  ⟨rfl, .inr ⟨w.heap.size, 3, #[iv x, iv y, iv z], rfl, Nat.le_refl _, heap_alloc_new w _, Nat.le_refl _, by unfold maxLen; omega, rfl, rfl⟩⟩

/-- What the closures read: all of it lies below base, and not in the box of what was asked. -/
structure Env (base bA bB bO bW bC : Nat) (bad : Int) (a : Option Addr) (len cap : Nat) (A : Nat → Option Addr) (L C : Nat → Nat) (Z : Nat → List Int) (W : World) : Prop where
  cB : W.cell? ⟨bB, 0, none⟩ = some (.int .i64 bad)
  cO : W.cell? ⟨bO, 0, none⟩ = some (.func (.func 14) #[] #[ptr bW, ptr bC])
  cW : W.cell? ⟨bW, 0, none⟩ = some (.slice a len cap)
  cC : W.cell? ⟨bC, 0, none⟩ = some (.func (.func 13) #[] #[])
  rows : Rows2 W a len A L C Z
  nB : bB < base ∧ bB ≠ bA
  nO : bO < base ∧ bO ≠ bA
  nW : bW < base ∧ bW ≠ bA
  nC : bC < base ∧ bC ≠ bA
  nr : ∀ k, k < len → ∀ xb xo, a = some ⟨xb, xo, none⟩ → xb < base ∧ xb ≠ bA
  nn : ∀ k, k < len → ∀ i, i < L k → ∀ xb xo, A k = some ⟨xb, xo, none⟩ → xb < base ∧ xb ≠ bA

section
variable {base bA bB bO bW bC len cap : Nat} {bad : Int} {a : Option Addr} {A : Nat → Option Addr} {L C : Nat → Nat} {Z : Nat → List Int}
theorem Env.on {W W' : World} {F : Nat → Prop} (h : Env base bA bB bO bW bC bad a len cap A L C Z W) (f : Fr F W W') (hF : ∀ k, k < base → k ≠ bA → ¬ F k) : Env base bA bB bO bW bC bad a len cap A L C Z W' where
  cB := f.cell' h.cB (hF _ h.nB.1 h.nB.2)
  cO := f.cell' h.cO (hF _ h.nO.1 h.nO.2)
  cW := f.cell' h.cW (hF _ h.nW.1 h.nW.2)
  cC := f.cell' h.cC (hF _ h.nC.1 h.nC.2)
  rows := fun k hk => by
    obtain ⟨⟨xb, xo, e, c⟩, hn, hm⟩ := h.rows k hk
    have h1 := h.nr k hk xb xo e
    refine ⟨⟨xb, xo, e, f.cell' c (hF _ h1.1 h1.2)⟩, fun i hi => ?_, hm⟩
    obtain ⟨yb, yo, e2, c2⟩ := hn i hi
    have h2 := h.nn k hk i hi yb yo e2
    exact ⟨yb, yo, e2, f.cell' c2 (hF _ h2.1 h2.2)⟩
  nB := h.nB
  nO := h.nO
  nW := h.nW
  nC := h.nC
  nr := h.nr
  nn := h.nn

/-- What is told of a number, and the error. -/
def webF (bad : Int) (len : Nat) (L : Nat → Nat) (Z : Nat → List Int) : OfF := fun x => if x = bad then ([1, 2, 3], 3) else (webOf len L Z x.toNat, 0)

set_option maxRecDepth 100000 in
set_option maxHeartbeats 4000000 in
theorem asks_ok (x : Nat) (hx : x < 41) (W : World) (E : Env base bA bB bO bW bC bad a len cap A L C Z W) (v : Value) (d : List Int) (hbx : W.heap[bA]? = some (.cells #[v] 22 (0, 0))) (ho : Own W base v d) (hd : d.length ≤ 900) (hb : base ≤ W.heap.size) (hlt : bA < base) :
    Calls Try.prog 15 #[iv x, ptr bA, ptr bB, ptr bO] W fun e W' => ∃ v' r, e = .returned (.tuple #[r, iv (webF bad len L Z x).2]) ∧ W'.heap[bA]? = some (.cells #[v'] 22 (0, 0)) ∧ Own W' base v' (d ++ [(x : Int)]) ∧ (v'.ownBlock = v.ownBlock ∨ ∃ g, v'.ownBlock = some g ∧ W.heap.size ≤ g) ∧
      Own W' W.heap.size r (webF bad len L Z x).1 ∧ Fr (fun k => k = bA ∨ v.ownBlock = some k) W W' := by
  obtain ⟨sa, sc, rfl⟩ := rows_form ho
  have c0 : W.cell? ⟨bA, 0, none⟩ = some (.slice sa d.length sc) := cell_of_obj hbx 0
  obtain ⟨n, hn⟩ : ∃ n, d.length = n := ⟨_, rfl⟩
  obtain ⟨pa, pq, u2, hap, o2, f2, hb2, hnn⟩ := Own.more Try.underlying22 W base _ d n (hn ▸ ho) hn.symm x (by omega) hb
  rw [hn] at ho c0 hbx ⊢
  have hov : ∀ k, Value.ownBlock (.slice sa n sc) = some k → base ≤ k := fun k hk => by
    rcases ho.form with ⟨hv, _⟩ | ⟨g, cap, hv, _, hg, _⟩
    · rw [hv] at hk; simp [Value.ownBlock] at hk
    · rw [hv] at hk
      have : g = k := by simpa [Value.ownBlock] using hk
      omega
  have hbu : u2.heap[bA]? = some (.cells #[.slice sa n sc] 22 (0, 0)) := f2.obj hbx fun h => by have := hov _ h; omega
  have cu : u2.cell? ⟨bA, 0, none⟩ = some (.slice sa n sc) := cell_of_obj hbu 0
  have zu : u2.frozen? ⟨bA, 0, none⟩ = false := frozen_of_obj hbu 0
  obtain ⟨W1, hW1⟩ : ∃ W1, u2.setCell ⟨bA, 0, none⟩ (.slice pa (n + 1) pq) = W1 := ⟨_, rfl⟩
  have f3 : Fr (fun k => k = bA ∨ Value.ownBlock (.slice sa n sc) = some k) W W1 := hW1 ▸ (f2.mono (G := fun k => k = bA ∨ Value.ownBlock (.slice sa n sc) = some k) fun k hk => .inl (.inr hk)).setCell (.inl (.inl rfl)) _
  have hb1 : W1.heap[bA]? = some (.cells #[.slice pa (n + 1) pq] 22 (0, 0)) := by
    rw [← hW1]; simp [World.setCell, Array.getElem?_modify, hbu]
  have g1 : Fr (fun k => k = bA) u2 W1 := hW1 ▸ (Fr.refl (fun k => k = bA) u2).setCell (.inl rfl) _
  have hov2 : ∀ k, Value.ownBlock (.slice pa (n + 1) pq) = some k → base ≤ k := fun k hk => by
    rcases hb2 with e | e
    · exact hov k (e ▸ hk)
    · rw [e] at hk; cases hk; omega
  have o3 : Own W1 base (.slice pa (n + 1) pq) (d ++ [(x : Int)]) := o2.still g1 fun k hk h => by have := hov2 k hk; omega
  have E1 := E.on f3 fun k h1 h2 h => by
    rcases h with h | h
    · exact h2 h
    · have := hov k h; omega
  have hnew : Value.ownBlock (.slice pa (n + 1) pq) = Value.ownBlock (.slice sa n sc) ∨ ∃ g, Value.ownBlock (.slice pa (n + 1) pq) = some g ∧ W.heap.size ≤ g := by
    rcases hb2 with e | e
    · exact .inl e
    · exact .inr ⟨_, e, by omega⟩
  have HE := hide (And.intro f3 (And.intro hb1 (And.intro o3 hnew))); have HAP := hide hap; have HW1 := hide hW1
  have cB := E1.cB; have cO := E1.cO
  by_cases hbad : (x : Int) = bad
  · have hw : webF bad len L Z x = ([1, 2, 3], 3) := if_pos hbad
    rw [hw]
    have hbe : ((x : Int) == bad) = true := by simp [hbad]
    clear hw hbad E1 E hb2 f2 f3 hb1 o2 o3 g1 hnew hov hov2 hbu hap hW1 ho hbx hnn
    go_enter Try.func15, Try.ntmps15
    go_upto_region 2 with (first | (at_builtin; refine wpList_append_run rfl (.tmp 7) (.tmp 9) 22 rfl _ _ rfl rfl _ u2 (unhide HAP) ?_) | fail)
    rw [unhide HW1]
    clear cu zu c0 cO HW1 HAP
    go_wp2_with fail
    go_ret2
    obtain ⟨f3, hb1, o3, hnew⟩ := unhide HE
    refine ⟨_, _, rfl, ?_, ?_, hnew, Own.from (Own.three W1 1 2 3) f3.size, f3.alloc _⟩
    · exact (Below.heap_alloc _ _ _ (by have := (Array.getElem?_eq_some_iff.1 hb1).1; omega)).trans hb1
    · exact o3.still (F := fun _ => False) ((Fr.refl _ W1).alloc _) fun _ _ x => x
  · have hw : webF bad len L Z x = (webOf len L Z x, 0) := if_neg hbad
    rw [hw]
    have hbe : ((x : Int) == bad) = false := by simp [hbad]
    have OF := of_ok x hx bW bC W1 a len cap A L C Z E1.rows E1.cW E1.cC
    have HOF := @hide _ OF
    clear hw hbad E1 E hb2 f2 f3 hb1 o2 o3 g1 hnew hov hov2 hbu hap hW1 ho hbx hnn OF
    go_enter Try.func15, Try.ntmps15
    go_upto_region 2 with (first | (at_builtin; refine wpList_append_run rfl (.tmp 7) (.tmp 9) 22 rfl _ _ rfl rfl _ u2 (unhide HAP) ?_) | fail)
    rw [unhide HW1]
    clear cu zu c0 HW1 HAP
    go_wp2_with fail
    refine (unhide HOF).mono ?_
    rintro e w3 ⟨r, rfl, o4, f4⟩
    go_wp2_with fail
    go_ret2
    obtain ⟨f3, hb1, o3, hnew⟩ := unhide HE
    exact ⟨_, _, rfl, f4.obj hb1 (fun x => x), o3.still f4 (fun _ _ x => x), hnew, o4.from f3.size, f3.trans' f4 fun _ x => x.elim⟩
end
end Go.Proofs.Ytkdehhmmcchgfaa
