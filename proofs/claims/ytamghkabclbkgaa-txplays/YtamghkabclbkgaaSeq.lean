/- Rows of puts; a row of ops in memory. -/
import Derived.Test.YtamghkabclbkgaaChg
namespace Go.Proofs.Ytamghkabclbkgaa
open Go.RowKit

theorem range_len : ∀ (n : Nat) (a : Int) (ks : List Int), ks.Nodup → (∀ x ∈ ks, a ≤ x ∧ x < a + n) → ks.length ≤ n
  | 0, a, ks, _, h => by
    cases ks with
    | nil => simp
    | cons x l => have := h x (by simp); omega
  | n + 1, a, ks, hd, h => by
    by_cases hc : a + n ∈ ks
    · have := range_len n a (ks.erase (a + n)) (hd.erase _) (fun x hx => by
        have hx' := (hd.mem_erase_iff).1 hx
        have := h x hx'.2
        have := hx'.1
        omega)
      rw [List.length_erase_of_mem hc] at this
      omega
    · have := range_len n a ks hd (fun x hx => by
        have h1 := h x hx
        have : x ≠ a + n := fun e => hc (e ▸ hx)
        omega)
      omega

theorem Once.nodup {P : List (Int × Int)} (h : Once P) : (P.map Prod.fst).Nodup := by
  rw [List.nodup_iff_pairwise_ne, List.pairwise_iff_getElem]
  intro i j hi hj hij e
  simp only [List.length_map] at hi hj
  simp only [List.getElem_map] at e
  have := h i j _ _ (List.getElem?_eq_getElem hi) (List.getElem?_eq_getElem hj) e
  omega

section
variable {w w' : World} {sb b : Nat} {T : Tay} {n : Nat} {A : Ab} {P : List (Int × Int)} {dd : Bool}
theorem StL.small (h : StL w sb b T n A P dd) : P.length ≤ n := by
  have := range_len n 12400 (P.map Prod.fst) h.once.nodup (fun x hx => by
    obtain ⟨y, hy, rfl⟩ := List.mem_map.1 hx
    exact h.keys y hy)
  simpa using this

/-- A put into a small store. -/
theorem t_put608 (h : StL w sb b T 608 A P false) (ha : A.dead = false) (i : Nat) (v : Int) (hi : i < 608) :
    Calls Try.prog 12 #[ptr sb, .int .i64 i, u64 v] w fun e w' => e = .returned (.tuple #[]) ∧ ∃ T', T'.L = T.L ∧ Onx w sb b T w' T' 608 A (put P (12400 + (i : Int)) v) false :=
  t_put h ha i v hi (.inl (by have := h.small; omega))

/-- A row of ops in memory, its cells in blocks of Y. -/
structure LsAt (w : World) (Y : Nat → Prop) (v : Value) (ls : List Op7) : Prop where
  form : ∃ a cap, v = .slice a ls.length cap ∧ ∀ (k : Nat) (x : Op7), ls[k]? = some x → ∃ g, a = some ⟨g, 0, none⟩ ∧ Y g ∧ w.cell? ⟨g, k * 3, none⟩ = some (.int .i64 x.kd) ∧ w.cell? ⟨g, k * 3 + 1, none⟩ = some (.int .i64 x.i) ∧ w.cell? ⟨g, k * 3 + 2, none⟩ = some (u64 x.v)

theorem LsAt.of {base : Nat} {v : Value} {ls : List Op7} (h : w.ownsRow base 31 3 v ls.length (ocells ls)) : LsAt w (fun r => v.ownBlock = some r) v ls := by
  rcases h.2 with ⟨h1, h2⟩ | ⟨g, cap, cur, h1, _⟩
  · have : ls = [] := List.eq_nil_of_length_eq_zero h2
    subst this
    exact ⟨none, 0, h1, fun k x hx => by simp at hx⟩
  · subst h1
    refine ⟨some ⟨g, 0, none⟩, cap, rfl, fun k x hx => ⟨g, rfl, rfl, ?_⟩⟩
    have hlt : k < ls.length := by
      rcases Nat.lt_or_ge k ls.length with h1 | h1
      · exact h1
      · rw [List.getElem?_eq_none h1] at hx; cases hx
    obtain ⟨a1, a2, a3⟩ := ocells_at ls k x hx
    exact ⟨by rw [h.cellAt _ (by omega)]; exact a1, by rw [h.cellAt _ (by omega)]; exact a2, by rw [h.cellAt _ (by omega)]; exact a3⟩

theorem LsAt.kept {Y F : Nat → Prop} {v : Value} {ls : List Op7} (h : LsAt w Y v ls) (f : Fr F w w') (hn : ∀ k, Y k → ¬ F k) : LsAt w' Y v ls := by
  obtain ⟨a, cap, e, hh⟩ := h.form
  refine ⟨a, cap, e, fun k x hx => ?_⟩
  obtain ⟨g, e1, y, c0, c1, c2⟩ := hh k x hx
  exact ⟨g, e1, y, f.cell' c0 (hn g y), f.cell' c1 (hn g y), f.cell' c2 (hn g y)⟩
end

/-- The puts of a row of ops, each at its word by i. -/
def puts (ix : Op7 → Nat) (P : List (Int × Int)) (ls : List Op7) : List (Int × Int) := ls.foldl (fun P x => put P (12400 + (ix x : Int)) x.v) P
theorem puts_more (ix : Op7 → Nat) (P : List (Int × Int)) (ls : List Op7) (k : Nat) (x : Op7) (h : ls[k]? = some x) : puts ix P (ls.take (k + 1)) = put (puts ix P (ls.take k)) (12400 + (ix x : Int)) x.v := by
  rw [List.take_add_one, h]
  simp [puts, List.foldl_append]
theorem puts_once (ix : Op7 → Nat) (ls : List Op7) : ∀ P, Once P → Once (puts ix P ls) := by
  induction ls with
  | nil => exact fun P h => h
  | cons x l ih =>
    intro P h
    have := (homed_put h (12400 + ix x) x.v (fun _ => 0)).2
    exact ih _ (by simpa using this)
end Go.Proofs.Ytamghkabclbkgaa
