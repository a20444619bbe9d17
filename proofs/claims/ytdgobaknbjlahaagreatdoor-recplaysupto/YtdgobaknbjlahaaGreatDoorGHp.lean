/- A heap in memory, on a store. -/
import Derived.Test.YtdgobaknbjlahaaGreatDoorLw
import Derived.Test.YtdgobaknbjlahaaGreatDoorGHr
namespace Go.Proofs.YtdgobaknbjlahaaGreatDoor
open Go.RowKit

structure Hp (nu sz : Nat) (w : World) (hb sb b : Nat) (T : Tay) (A : Ab) (P : List (Int × Int)) : Prop where
  st : StL w sb b T sz A P false
  hp : HpL nu sz w hb sb
  nh : ¬ tfoot sb b T hb
  n0 : ¬ tfoot sb b T 0
  ha : A.dead = false

/-- The store has turned, and tells g; at most m words are put. -/
def To (sz : Nat) (w : World) (sb b : Nat) (T : Tay) (A : Ab) (w' : World) (g : Nat → Int) (m : Nat) : Prop := ∃ T' P', Onx w sb b T w' T' sz A P' false ∧ says P' A = g ∧ P'.length ≤ m

section
variable {nu sz : Nat} {w w' w0 : World} {hb sb b : Nat} {T T0 T' : Tay} {A : Ab} {P P' : List (Int × Int)} {g : Nat → Int}

theorem Hp.lth (h : Hp nu sz w hb sb b T A P) : hb < w.heap.size := World.block_lt_of_cell? _ _ h.hp.c0
theorem Hp.lt0 (h : Hp nu sz w hb sb b T A P) : 0 < w.heap.size := World.block_lt_of_cell? _ _ (h.hp.tab 0 (by omega))
theorem Hp.still (h : Hp nu sz w hb sb b T A P) (hf : Still w w') : Hp nu sz w' hb sb b T A P := ⟨h.st.still hf, h.hp.kept hf (fun x => x) (fun x => x), h.nh, h.n0, h.ha⟩
theorem Hp.call (h : Hp nu sz w hb sb b T A P) (o : Onx w sb b T w' T' sz A P' false) : Hp nu sz w' hb sb b T' A P' :=
  ⟨o.st, h.hp.kept o.fr h.nh h.n0, o.other h.lth h.nh, o.other h.lt0 h.n0, h.ha⟩
theorem Hp.turn (h : Hp nu sz w hb sb b T A P) {F : Nat → Prop} (hf : Fr F w w') (h1 : ∀ k, F k → ¬ tfoot sb b T k) (h2 : ¬ F hb) (h3 : ¬ F 0) : Hp nu sz w' hb sb b T A P :=
  ⟨h.st.kept hf (fun k hk hF => h1 k hF hk), h.hp.kept hf h2 h3, h.nh, h.n0, h.ha⟩
theorem To.here (h : Hp nu sz w hb sb b T A P) : To sz w sb b T A w (says P A) P.length := ⟨T, P, Onx.start h.st, rfl, Nat.le_refl _⟩
theorem To.le {m m' : Nat} (h : To sz w sb b T A w' g m) (e : m ≤ m') : To sz w sb b T A w' g m' := let ⟨T', P', o, e1, e2⟩ := h; ⟨T', P', o, e1, Nat.le_trans e2 e⟩
theorem To.quiet {m : Nat} (h : To sz w sb b T A w' g m) {w2 : World} (hf : Still w' w2) : To sz w sb b T A w2 g m := let ⟨T', P', o, e⟩ := h; ⟨T', P', o.quiet hf, e⟩
theorem To.after {m : Nat} {w1 : World} (h : To sz w1 sb b T A w' g m) (hf : Still w w1) : To sz w sb b T A w' g m := let ⟨T', P', o, e⟩ := h; ⟨T', P', o.after hf, e⟩
theorem To.trans {m : Nat} {w2 : World} {g2 : Nat → Int} (o : Onx w sb b T w' T' sz A P' false) (h : To sz w' sb b T' A w2 g2 m) : To sz w sb b T A w2 g2 m := let ⟨T2, P2, o2, e⟩ := h; ⟨T2, P2, o.trans o2, e⟩

theorem put_len (P : List (Int × Int)) (j v : Int) : (Go.Proofs.YtdgobaknbjlahaaGreatDoor.put P j v).length ≤ P.length + 1 := by
  unfold Go.Proofs.YtdgobaknbjlahaaGreatDoor.put
  split <;> simp

theorem Hp.load (h : Hp nu sz w hb sb b T A P) (i : Nat) (hi : i < sz) : Calls Tryz.prog 36 #[ptr sb, .int .i64 i] w fun e w' => e = .returned (u64 (says P A i)) ∧ w' = w := t_load h.st h.ha i hi

theorem says_put (ho : Once P) (A : Ab) (i : Nat) (v : Int) : says (put P (12400 + (i : Int)) v) A = upd (says P A) i v := by
  funext j
  have h1 := (homed_put ho (12400 + i) v A.now).1
  have e : ((12400 + i : Nat) : Int) = 12400 + (i : Int) := by omega
  rw [e] at h1
  show homed (put P (12400 + (i : Int)) v) A.now (12400 + j) = _
  rw [h1]
  by_cases hj : j = i
  · subst hj; rw [upd_same, upd_same]
  · rw [upd_other _ _ hj, upd_other _ _ (by omega)]

theorem Hp.put (h : Hp nu sz w hb sb b T A P) (hm : P.length < 6144) (i : Nat) (hi : i < sz) (v : Int) : Calls Tryz.prog 30 #[ptr sb, .int .i64 i, u64 v] w fun e w' => e = .returned (.tuple #[]) ∧ To sz w sb b T A w' (upd (says P A) i v) (P.length + 1) := by
  refine (t_put h.st h.ha i v hi (.inl hm)).mono ?_
  rintro e w' ⟨rfl, T', -, o⟩
  exact ⟨rfl, T', _, o, says_put h.st.once A i v, put_len _ _ _⟩
theorem Hp.reads (h : Hp nu sz w hb sb b T A P) : Rds sz w sb (says P A) := fun q i hi => (h.still ((Fr.refl _ w).drewN q)).load i hi
end
end Go.Proofs.YtdgobaknbjlahaaGreatDoor
