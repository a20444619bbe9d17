/- A Framer beside a row of texts; what a run tells, counted. -/
import Derived.Test.YtpidfndcihljmaaAu
import Derived.Test.YtpidfndcihljmaaYk
namespace Go.Proofs.Ytpidfndcihljmaa
open Go.RowKit

theorem infoT : (Try.prog.info? 9).map (fun i => (i.zero, i.size, i.bytes)) = some (some (.string ⟨#[]⟩), 1, 16) := by kernel_rfl
theorem run_val {et st : TypeId} {z : Value} {bytes : Nat} (hinfo : (Try.prog.info? et).map (fun i => (i.zero, i.size, i.bytes)) = some (some z, 1, bytes)) (hz1 : z.cells.size = 1) (hbb : bytes ≤ 24) (hun : Try.prog.underlying st = some (.slice et))
    (w : World) (lo : Nat) (v : Value) (n : Nat) (xs : List Value) (hown : w.ownsRow lo et 1 v n xs) (y : Value) (hy : y.oneCell' = true) (hl : n ≤ 1000) (hlo : lo ≤ w.heap.size) :
    ∃ v' w', (Builtin.append_ #[st, st] st #[v, .slice (some ⟨w.heap.size, 0, none⟩) 1 1]).run Try.prog (w.alloc (.cells #[y] et)) = .ok v' w' ∧ w'.ownsRow lo et 1 v' (n + 1) (xs ++ [y]) ∧ Fr (fun k => v.ownBlock = some k) w w' ∧ (v'.ownBlock = v.ownBlock ∨ v'.ownBlock = some (w.heap.size + 1)) := by
  obtain ⟨i, hi, hzz⟩ := Option.map_eq_some_iff.1 hinfo
  simp only [Prod.mk.injEq] at hzz
  obtain ⟨hz, hsize, hby⟩ := hzz
  have hA : (w.alloc (.cells #[y] et)).heap.size = w.heap.size + 1 := by simp
  have own1 : (w.alloc (.cells #[y] et)).ownsRow lo et 1 v n xs := owns_same hown fun k hk => ((Fr.refl (fun _ => False) w).alloc _).block k (hown.lt k hk).2 (fun x => x)
  obtain ⟨v', w', hr, h2, h3, _, h5⟩ := run_append_own_at (P := Try.prog) (w.alloc (.cells #[y] et)) lo st st et i z 1 bytes hun hi hz hsize hby hz1 (by decide) v n xs own1 ⟨w.heap.size, 0, none⟩ 1 1 [y] rfl (cell_one_new w _ _) (by intro q hq; simp at hq; subst hq; exact hy) (by unfold maxLen; omega) (by have : (n + 1) * bytes ≤ 1001 * 24 := Nat.mul_le_mul (by omega) hbb; omega) (by rw [hA]; omega)
  exact ⟨v', w', hr, by simpa using h2, ((Fr.refl (fun k => v.ownBlock = some k) w).alloc _).grown h3 (fun r e => .inl e), by rw [hA] at h5; exact h5⟩
abbrev sv (s : List UInt8) : Value := .string (bs s)
/-- A row of texts of one's own. -/
def StrR (w : World) (base : Nat) (v : Value) (xs : List (List UInt8)) : Prop := w.ownsRow base 9 1 v xs.length (xs.map sv)
structure Lg (W w : World) (f : Nat) (g : Option Nat) (l : List UInt8) (lv : Bool) (N : Nat) (v : Value) (xs : List (List UInt8)) : Prop where
  fs : Fs W w f g l lv 0 N
  row : StrR w W.heap.size v xs
  ap : ∀ k, v.ownBlock = some k → k ≠ f ∧ g ≠ some k
theorem Lg.step {W w w' : World} {f : Nat} {g g' : Option Nat} {l l' : List UInt8} {lv lv' : Bool} {N N' : Nat} {v : Value} {xs : List (List UInt8)} (h : Lg W w f g l lv N v xs) (x : Fx w w' f g l' lv' 0 N' g') : Lg W w' f g' l' lv' N' v xs :=
  ⟨h.fs.step x, owns_same h.row fun k hk => x.fr.block k (h.row.lt k hk).2 (fun e => by
    rcases e with e | e
    · exact (h.ap k hk).1 e
    · exact (h.ap k hk).2 e), fun k hk => ⟨(h.ap k hk).1, fun e => by
    rcases x.ng k e with e2 | e2
    · exact (h.ap k hk).2 e2
    · have := (h.row.lt k hk).2; omega⟩⟩
theorem Lg.still {W w w' : World} {f : Nat} {g : Option Nat} {l : List UInt8} {lv : Bool} {N : Nat} {v : Value} {xs : List (List UInt8)} (h : Lg W w f g l lv N v xs) (x : Still w w') : Lg W w' f g l lv N v xs :=
  ⟨h.fs.still x, owns_same h.row fun k hk => x.block k (h.row.lt k hk).2 (fun e => e), h.ap⟩
/-- One text more. -/
theorem Lg.push {W w : World} {f : Nat} {g : Option Nat} {l : List UInt8} {lv : Bool} {N : Nat} {v : Value} {xs : List (List UInt8)} (h : Lg W w f g l lv N v xs) (s : List UInt8) (hx : xs.length ≤ 1000) :
    ∃ v' w', (Builtin.append_ #[53, 53] 53 #[v, .slice (some ⟨w.heap.size, 0, none⟩) 1 1]).run Try.prog (w.alloc (.cells #[sv s] 9)) = .ok v' w' ∧ Lg W w' f g l lv N v' (xs ++ [s]) := by
  obtain ⟨v', w', hr, h2, h3, h4⟩ := run_val infoT rfl (by decide) Try.underlying53 w W.heap.size v xs.length _ h.row (sv s) rfl hx h.fs.st.size
  have hf := h.fs.fm.lt
  refine ⟨v', w', hr, ⟨h.fs.fm.on h3 (fun e => (h.ap f e).1 rfl) (fun k e e2 => (h.ap k e2).2 e), h.fs.st.trans' h3 (fun k e => .inr (h.row.lt k e).1), h.fs.fge, h.fs.gge⟩, ?_, fun k hk => ?_⟩
  · unfold StrR
    simpa using h2
  · rcases h4 with e | e
    · exact h.ap k (by rw [← e, hk])
    · rw [e] at hk
      cases hk
      exact ⟨by omega, fun e2 => by have := hf.2 _ e2; omega⟩
/-- How many bytes wait. -/
def wt (w : World) (f : Nat) : Nat :=
  match w.cell? ⟨f, 0, none⟩, w.cell? ⟨f, 1, none⟩ with
  | some (.slice _ n _), some (.int _ t) => n - t.toNat
  | _, _ => 0
theorem Fm.wt {w : World} {f : Nat} {g : Option Nat} {l : List UInt8} {lv : Bool} {sk N : Nat} (h : Fm w f g l lv sk N) : wt w f = l.length := by
  obtain ⟨⟨v, cur, t, h1, h2, h3, h4, h5, h6⟩, h7⟩ := h
  obtain ⟨va, vc, rfl⟩ := rows_form h2
  have c0 : w.cell? ⟨f, 0, none⟩ = some (.slice va cur.length vc) := cell_of_obj h1 0
  have c1 : w.cell? ⟨f, 1, none⟩ = some (.int .i64 (t : Nat)) := cell_of_obj h1 1
  unfold Proofs.Ytpidfndcihljmaa.wt
  rw [c0, c1, h5, List.length_drop]
  rfl
/-- The lines too long, counted; the others. -/
def nN : List (Option (List UInt8)) → Nat
  | [] => 0
  | none :: o => nN o + 1
  | some _ :: o => nN o
def nS : List (Option (List UInt8)) → List (List UInt8)
  | [] => []
  | none :: o => nS o
  | some s :: o => s :: nS o
theorem nN_app (a b : List (Option (List UInt8))) : nN (a ++ b) = nN a + nN b := by
  induction a with
  | nil => simp [nN]
  | cons x a ih => cases x <;> simp only [List.cons_append, nN, ih] <;> omega
theorem nS_app (a b : List (Option (List UInt8))) : nS (a ++ b) = nS a ++ nS b := by
  induction a with
  | nil => rfl
  | cons x a ih => cases x <;> simp only [List.cons_append, nS, ih]
theorem nN_le (a : List (Option (List UInt8))) : nN a + (nS a).length = a.length := by
  induction a with
  | nil => rfl
  | cons x a ih => cases x <;> simp only [nN, nS, List.length_cons] <;> omega
theorem runA_len (m : List UInt8) : ∀ (b : List UInt8) (lv : Bool), (runA b lv m).1.length ≤ m.length := by
  induction m with
  | nil => intro b lv; simp [runA]
  | cons c m ih =>
    intro b lv
    have h1 := ih (stA b lv c).2.1 (stA b lv c).2.2
    have h2 : (stA b lv c).1.length ≤ 1 := by
      unfold stA
      split
      · split <;> simp
      · split
        · simp
        · split <;> simp
    simp only [runA, List.length_append, List.length_cons]
    omega
end Go.Proofs.Ytpidfndcihljmaa
