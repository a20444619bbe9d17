/- A heap in memory, on a store. -/
import Derived.Test.YtacfmmbdeajjbaaGreatDoorLw
import Derived.Test.YtacfmmbdeajjbaaGreatDoorHr
namespace Go.Proofs.YtacfmmbdeajjbaaGreatDoor
open Go.RowKit

structure Hp (w : World) (hb sb b : Nat) (T : Tay) (A : Ab) (P : List (Int × Int)) : Prop where
  st : StL w sb b T 3984 A P false
  hp : HpL w hb sb
  nh : ¬ tfoot sb b T hb
  n0 : ¬ tfoot sb b T 0
  ha : A.dead = false

/-- The store has turned, and tells g. -/
def To (w : World) (sb b : Nat) (T : Tay) (A : Ab) (w' : World) (g : Nat → Int) : Prop := ∃ T' P', Onx w sb b T w' T' 3984 A P' false ∧ says P' A = g

section
variable {w w' w0 : World} {hb sb b : Nat} {T T0 T' : Tay} {A : Ab} {P P' : List (Int × Int)} {g : Nat → Int}

theorem Hp.lth (h : Hp w hb sb b T A P) : hb < w.heap.size := World.block_lt_of_cell? _ _ h.hp.c0
theorem Hp.lt0 (h : Hp w hb sb b T A P) : 0 < w.heap.size := World.block_lt_of_cell? _ _ (h.hp.tab 0 (by omega))
theorem Hp.still (h : Hp w hb sb b T A P) (hf : Still w w') : Hp w' hb sb b T A P := ⟨h.st.still hf, h.hp.kept hf (fun x => x) (fun x => x), h.nh, h.n0, h.ha⟩
theorem Hp.call (h : Hp w hb sb b T A P) (o : Onx w sb b T w' T' 3984 A P' false) : Hp w' hb sb b T' A P' :=
  ⟨o.st, h.hp.kept o.fr h.nh h.n0, o.other h.lth h.nh, o.other h.lt0 h.n0, h.ha⟩
theorem Hp.turn (h : Hp w hb sb b T A P) {F : Nat → Prop} (hf : Fr F w w') (h1 : ∀ k, F k → ¬ tfoot sb b T k) (h2 : ¬ F hb) (h3 : ¬ F 0) : Hp w' hb sb b T A P :=
  ⟨h.st.kept hf (fun k hk hF => h1 k hF hk), h.hp.kept hf h2 h3, h.nh, h.n0, h.ha⟩
theorem To.here (h : Hp w hb sb b T A P) : To w sb b T A w (says P A) := ⟨T, P, Onx.start h.st, rfl⟩
theorem To.quiet (h : To w sb b T A w' g) {w2 : World} (hf : Still w' w2) : To w sb b T A w2 g := let ⟨T', P', o, e⟩ := h; ⟨T', P', o.quiet hf, e⟩
theorem To.after {w1 : World} (h : To w1 sb b T A w' g) (hf : Still w w1) : To w sb b T A w' g := let ⟨T', P', o, e⟩ := h; ⟨T', P', o.after hf, e⟩
theorem To.trans {w2 : World} {g2 : Nat → Int} (o : Onx w sb b T w' T' 3984 A P' false) (h : To w' sb b T' A w2 g2) : To w sb b T A w2 g2 := let ⟨T2, P2, o2, e⟩ := h; ⟨T2, P2, o.trans o2, e⟩

theorem range_len (n : Nat) : ∀ l : List Nat, l.Nodup → (∀ x ∈ l, x < n) → l.length ≤ n := by
  induction n with
  | zero =>
    intro l _ h
    cases l with
    | nil => simp
    | cons x l => exact absurd (h x (List.mem_cons_self ..)) (by omega)
  | succ n ih =>
    intro l hd h
    have h1 := ih (l.erase n) (hd.erase n) (fun x hx => by
      have a1 := h x (List.mem_of_mem_erase hx)
      have a2 : x ≠ n := fun e => by subst e; exact (List.Nodup.not_mem_erase hd) hx
      omega)
    have h2 := List.length_erase (a := n) (l := l)
    split at h2 <;> omega

theorem few_puts (h : StL w sb b T 3984 A P false) : P.length < 6144 := by
  have key : (P.map (fun x => (x.1 - 12400).toNat)).length ≤ 3984 := by
    refine range_len 3984 _ ?_ ?_
    · rw [List.nodup_iff_pairwise_ne, List.pairwise_iff_getElem]
      intro i j hi hj hij e
      simp only [List.length_map] at hi hj
      simp only [List.getElem_map] at e
      have k1 := h.keys _ (List.getElem_mem hi)
      have k2 := h.keys _ (List.getElem_mem hj)
      have := h.once i j _ _ (List.getElem?_eq_getElem hi) (List.getElem?_eq_getElem hj) (by omega)
      omega
    · intro x hx
      obtain ⟨y, hy, rfl⟩ := List.mem_map.1 hx
      have := h.keys y hy
      omega
  simp at key
  omega

theorem Hp.load (h : Hp w hb sb b T A P) (i : Nat) (hi : i < 3984) : Calls Tryz.prog 38 #[ptr sb, .int .i64 i] w fun e w' => e = .returned (u64 (says P A i)) ∧ w' = w := t_load h.st h.ha i hi

theorem says_put (ho : Once P) (A : Ab) (i : Nat) (v : Int) : says (put P (12400 + (i : Int)) v) A = upd (says P A) i v := by
  funext j
  have h1 := (homed_put ho (12400 + i) v A.now).1
  have e : ((12400 + i : Nat) : Int) = 12400 + (i : Int) := by omega
  rw [e] at h1
  show homed (put P (12400 + (i : Int)) v) A.now (12400 + j) = _
  rw [h1]
  by_cases hj : j = i
  · subst hj; rw [upd_same, upd_same]
  · rw [upd_other _ _ hj, upd_other _ _ (by omega)]

theorem Hp.put (h : Hp w hb sb b T A P) (i : Nat) (hi : i < 3984) (v : Int) : Calls Tryz.prog 37 #[ptr sb, .int .i64 i, u64 v] w fun e w' => e = .returned (.tuple #[]) ∧ To w sb b T A w' (upd (says P A) i v) := by
  refine (t_put h.st h.ha i v hi (.inl (few_puts h.st))).mono ?_
  rintro e w' ⟨rfl, T', -, o⟩
  exact ⟨rfl, T', _, o, says_put h.st.once A i v⟩
theorem Hp.reads (h : Hp w hb sb b T A P) : Rds w sb (says P A) := fun q i hi => (h.still ((Fr.refl _ w).drewN q)).load i hi
end
end Go.Proofs.YtacfmmbdeajjbaaGreatDoor
