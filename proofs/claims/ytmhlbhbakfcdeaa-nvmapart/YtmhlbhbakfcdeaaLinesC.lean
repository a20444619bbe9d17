/- NvmLines' closure. -/
import Derived.Test.YtmhlbhbakfcdeaaArr
import Derived.Deep.RegionWith
import Derived.BigRegion
namespace Go.Proofs.Ytmhlbhbakfcdeaa
open Go.RowKit

/-- Three blocks of another's: two arrays of words and a truth. -/
def g3 (pN pS pO : Nat) (t : TypeId) (n : Nat) (f s : Nat → Int) (x : Bool) : Nat → Option Obj :=
  upd (upd (upd noG pN (some (.cells (arr n f) t))) pS (some (.cells (arr n s) t))) pO (some (.cells #[.bool x] 4))

section
variable {pN pS pO : Nat} {t : TypeId} {n : Nat} {f s : Nat → Int} {x : Bool}
theorem g3_O : g3 pN pS pO t n f s x pO = some (.cells #[.bool x] 4 (0, 0)) := upd_same _ _ _
theorem g3_S (h : pS ≠ pO) : g3 pN pS pO t n f s x pS = some (.cells (arr n s) t (0, 0)) := (upd_other _ _ h).trans (upd_same _ _ _)
theorem g3_N (h : pN ≠ pO) (h2 : pN ≠ pS) : g3 pN pS pO t n f s x pN = some (.cells (arr n f) t (0, 0)) := (upd_other _ _ h).trans ((upd_other _ _ h2).trans (upd_same _ _ _))
theorem g3_other {k : Nat} (h1 : k ≠ pN) (h2 : k ≠ pS) (h3 : k ≠ pO) : g3 pN pS pO t n f s x k = none := (upd_other _ _ h3).trans ((upd_other _ _ h2).trans (upd_other _ _ h1))
theorem g3_dom (f' s' : Nat → Int) (x' : Bool) (k : Nat) : (g3 pN pS pO t n f' s' x' k).isSome = (g3 pN pS pO t n f s x k).isSome := by
  simp only [g3, upd]
  split
  · rfl
  · split
    · rfl
    · split <;> rfl

theorem g3_ext {f' s' : Nat → Int} {x' : Bool} {G : Nat → Option Obj} (hO : G pO = some (.cells #[.bool x'] 4 (0, 0))) (hS : pS ≠ pO → G pS = some (.cells (arr n s') t (0, 0))) (hN : pN ≠ pO → pN ≠ pS → G pN = some (.cells (arr n f') t (0, 0))) (ho : ∀ k, k ≠ pN → k ≠ pS → k ≠ pO → G k = none) :
    G = g3 pN pS pO t n f' s' x' := by
  funext k
  by_cases e3 : k = pO
  · subst e3; rw [hO, g3_O]
  · by_cases e2 : k = pS
    · subst e2; rw [hS e3, g3_S e3]
    · by_cases e1 : k = pN
      · subst e1; rw [hN e3 e2, g3_N e3 e2]
      · rw [ho k e1 e2 e3, g3_other e1 e2 e3]

variable {w0 w : World} {b : Nat} {F : Nat → Prop} {A : Ab}
theorem At.setN (h : At w0 b F (g3 pN pS pO t n f s x) w A) (h1 : pN ≠ pO) (h2 : pN ≠ pS) (i : Nat) (v : Int) : At w0 b F (g3 pN pS pO t n (upd f i v) s x) (w.setCell ⟨pN, i, none⟩ (u64 v)) A := by
  have := h.setCell (g3_N h1 h2) i (u64 v)
  rw [arr_set] at this
  rwa [g3_ext (G := upd _ pN _) (f' := upd f i v) (s' := s) (x' := x) (by rw [upd_other _ _ (Ne.symm h1)]; exact g3_O) (fun e => by rw [upd_other _ _ (Ne.symm h2)]; exact g3_S e) (fun _ _ => upd_same _ _ _) (fun k a b c => by rw [upd_other _ _ a]; exact g3_other a b c)] at this
theorem At.setS (h : At w0 b F (g3 pN pS pO t n f s x) w A) (h1 : pS ≠ pO) (_h2 : pN ≠ pS) (i : Nat) (v : Int) : At w0 b F (g3 pN pS pO t n f (upd s i v) x) (w.setCell ⟨pS, i, none⟩ (u64 v)) A := by
  have := h.setCell (g3_S h1) i (u64 v)
  rw [arr_set] at this
  rwa [g3_ext (G := upd _ pS _) (f' := f) (s' := upd s i v) (x' := x) (by rw [upd_other _ _ (Ne.symm h1)]; exact g3_O) (fun _ => upd_same _ _ _) (fun a c => by rw [upd_other _ _ c]; exact g3_N a c) (fun k a b c => by rw [upd_other _ _ b]; exact g3_other a b c)] at this
theorem At.setO (h : At w0 b F (g3 pN pS pO t n f s x) w A) (y : Bool) : At w0 b F (g3 pN pS pO t n f s y) (w.setCell ⟨pO, 0, none⟩ (.bool y)) A := by
  have := h.setCell g3_O 0 (.bool y)
  rwa [g3_ext (G := upd _ pO _) (f' := f) (s' := s) (x' := y) (by rw [upd_same]; rfl) (fun e => by rw [upd_other _ _ e]; exact g3_S e) (fun a c => by rw [upd_other _ _ a]; exact g3_N a c) (fun k a b c => by rw [upd_other _ _ c]; exact g3_other a b c)] at this
end

/-- A device with power, without a fuse, of few steps; nothing said of its words. -/
structure Plain (A : Ab) (n : Nat) (k : Int) : Prop where
  n : A.n = n
  fuse : A.fuse = -1
  dead : A.dead = false
  few : A.steps ≤ k
theorem Plain.live {A : Ab} {n : Nat} {k : Int} (p : Plain A n k) (hk : k < 4294967296) : Live A := ⟨p.dead, by rw [p.fuse]; omega, by rw [p.fuse]; omega, by have := p.few; omega⟩
theorem Plain.tick {A : Ab} {n : Nat} {k : Int} (p : Plain A n k) : Plain A.tick n (k + 1) :=
  ⟨p.n, by simp only [Ab.tick]; rw [p.fuse]; rfl, p.dead, by have := p.few; simp only [Ab.tick]; omega⟩
theorem Plain.store {A : Ab} {n : Nat} {k : Int} (p : Plain A n k) (i : Nat) (v : Int) : Plain (A.store i v) n k := ⟨p.n, p.fuse, p.dead, p.few⟩
theorem Plain.send {A : Ab} {n : Nat} {k : Int} (p : Plain A n k) (i : Nat) : Plain (A.sendLine i) n k := ⟨p.n, p.fuse, p.dead, p.few⟩
theorem Plain.fenced {A : Ab} {n : Nat} {k : Int} (p : Plain A n k) : Plain A.fenced n k := ⟨p.n, p.fuse, p.dead, p.few⟩
theorem Plain.powered {A : Ab} {n : Nat} {k : Int} (p : Plain A n k) (fl : Bool) (nm : Nat → Bool) : Plain (A.powered fl nm) n k := ⟨p.n, rfl, rfl, p.few⟩

/-- A slice of the arguments', where the closure sees it. -/
structure Sees (w : World) (F : Nat → Prop) (G : Nat → Option Obj) (p : Nat) (a : Option Addr) (len cap : Nat) (zs : Nat → Int) : Prop where
  cell : w.cell? ⟨p, 0, none⟩ = some (.slice a len cap)
  nums : Nums w a len zs
  pF : ¬ F p
  pG : G p = none
  aF : 0 < len → ∀ xb xo, a = some ⟨xb, xo, none⟩ → ¬ F xb ∧ G xb = none
  len : len ≤ maxLen

theorem Sees.at {w0 w : World} {b : Nat} {F : Nat → Prop} {G G' : Nat → Option Obj} {A : Ab} {p : Nat} {a : Option Addr} {len cap : Nat} {zs : Nat → Int} (h : Sees w0 F G p a len cap zs) (ha : At w0 b F G' w A) (hG : ∀ k, G k = none → G' k = none) :
    w.cell? ⟨p, 0, none⟩ = some (.slice a len cap) ∧ ∀ k, k < len → ∃ xb xo, a = some ⟨xb, xo, none⟩ ∧ w.cell? ⟨xb, xo + k, none⟩ = some (.int .i64 (zs k)) := by
  refine ⟨ha.cell h.cell h.pF (hG _ h.pG), fun k hk => ?_⟩
  obtain ⟨xb, xo, e, hc⟩ := h.nums k hk
  exact ⟨xb, xo, e, ha.cell hc (h.aF (by omega) xb xo e).1 (hG _ (h.aF (by omega) xb xo e).2)⟩

/-- A slice that came in, where it lies: below all that the call makes. -/
theorem Nums.sees {w w' : World} {F : Nat → Prop} {G : Nat → Option Obj} {p : Nat} {a : Option Addr} {len cap : Nat} {zs : Nat → Int} (h : Nums w a len zs) (hl : len ≤ maxLen) (hf : Fr (fun _ => False) w w') (hc : w'.cell? ⟨p, 0, none⟩ = some (.slice a len cap))
    (pF : ¬ F p) (pG : G p = none) (lF : ∀ k, k < w.heap.size → ¬ F k) (lG : ∀ k, k < w.heap.size → G k = none) : Sees w' F G p a len cap zs := by
  refine ⟨hc, fun k hk => ?_, pF, pG, fun h0 xb xo e => ?_, hl⟩
  · obtain ⟨xb, xo, e, c⟩ := h k hk
    exact ⟨xb, xo, e, hf.cell' c (fun x => x)⟩
  · obtain ⟨xb', xo', e', c⟩ := h 0 h0
    rw [e] at e'
    cases e'
    have hlt : xb < w.heap.size := World.block_lt_of_cell? _ _ c
    exact ⟨lF _ hlt, lG _ hlt⟩
end Go.Proofs.Ytmhlbhbakfcdeaa
