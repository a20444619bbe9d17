/- Lines byte by byte: what Feed and Line tell together. -/
import Derived.Test.YtpidfndcihljmaaYj
namespace Go.Proofs.Ytpidfndcihljmaa
open Go.RowKit

/-- What a line tells: itself, or that it is too long. -/
def outL (b : List UInt8) : Option (List UInt8) := if (cut13 b).length ≤ 256 then some (cut13 b) else none
/-- One byte more: what is told, what waits, whether a line is left out. -/
def stA (b : List UInt8) (lv : Bool) (c : UInt8) : List (Option (List UInt8)) × List UInt8 × Bool :=
  if lv then (if c = 10 then ([], [], false) else ([], [], true))
  else if c = 10 then ([outL b], [], false)
  else if 258 ≤ b.length + 1 then ([none], [], true) else ([], b ++ [c], false)
def runA (b : List UInt8) (lv : Bool) : List UInt8 → List (Option (List UInt8)) × List UInt8 × Bool
  | [] => ([], b, lv)
  | c :: m => ((stA b lv c).1 ++ (runA (stA b lv c).2.1 (stA b lv c).2.2 m).1, (runA (stA b lv c).2.1 (stA b lv c).2.2 m).2)
theorem runA_app (b : List UInt8) (lv : Bool) (x y : List UInt8) : runA b lv (x ++ y) = ((runA b lv x).1 ++ (runA (runA b lv x).2.1 (runA b lv x).2.2 y).1, (runA (runA b lv x).2.1 (runA b lv x).2.2 y).2) := by
  induction x generalizing b lv with
  | nil => simp [runA]
  | cons c x ih => simp only [List.cons_append, runA, ih, List.append_assoc]
theorem runA_out (m : List UInt8) (h : ∀ x ∈ m, x ≠ 10) : runA [] true m = ([], [], true) := by
  induction m with
  | nil => rfl
  | cons c m ih =>
    have hc : c ≠ 10 := h c (by simp)
    simp only [runA, stA, if_true, if_neg hc, ih (fun x hx => h x (by simp [hx]))]
    rfl
theorem runA_none (m b : List UInt8) (h : ∀ x ∈ m, x ≠ 10) (hb : b.length < 258) : runA b false m = if b.length + m.length < 258 then ([], b ++ m, false) else ([none], [], true) := by
  induction m generalizing b with
  | nil => simp [runA, hb]
  | cons c m ih =>
    have hc : c ≠ 10 := h c (by simp)
    have hm : ∀ x ∈ m, x ≠ 10 := fun x hx => h x (by simp [hx])
    simp only [runA, stA, Bool.false_eq_true, if_false, if_neg hc, List.length_cons]
    by_cases h8 : 258 ≤ b.length + 1
    · rw [if_pos h8]
      simp only [runA_out m hm]
      rw [if_neg (by omega)]
      rfl
    · rw [if_neg h8]
      simp only []
      rw [ih (b ++ [c]) hm (by simp; omega)]
      simp only [List.length_append, List.length_cons, List.length_nil, List.append_assoc, List.cons_append, List.nil_append]
      by_cases h9 : b.length + (m.length + 1) < 258
      · rw [if_pos (by omega), if_pos h9]
      · rw [if_neg (by omega), if_neg h9]
theorem runA_line (a r : List UInt8) (h : ∀ x ∈ a, x ≠ 10) : runA [] false (a ++ 10 :: r) = (outL a :: (runA [] false r).1, (runA [] false r).2) := by
  rw [runA_app, runA_none a [] h (by simp)]
  by_cases hl : a.length < 258
  · rw [if_pos (by simpa using hl)]
    simp [runA, stA]
  · rw [if_neg (by simpa using hl)]
    have : outL a = none := by
      unfold outL
      have := cut13_len a
      rw [if_neg (by omega)]
    rw [this]
    simp [runA, stA]
/-- What waits when no line is there. -/
structure Dry (l : List UInt8) (lv : Bool) : Prop where
  no : ∀ x ∈ l, x ≠ 10
  len : l.length < 258
  lv : lv = true → l = []
theorem Dry.self {l : List UInt8} {lv : Bool} (h : Dry l lv) : runA [] lv l = ([], l, lv) := by
  cases lv with
  | true => rw [h.lv rfl]; rfl
  | false => rw [runA_none l [] h.no (by simp), if_pos (by simpa using h.len)]; rfl
/-- One Line. -/
theorem lineA (l : List UInt8) (lv : Bool) (hlv : lv = true → l = []) : ∃ s ok c l' lv', lineR l lv = ((s, ok, c), l', lv') ∧ (lv' = true → l' = []) ∧
    ((c = 0 ∧ ok = false ∧ s = [] ∧ l' = l ∧ lv' = lv ∧ Dry l lv) ∨
     (l'.length < l.length ∧ ((c = 0 ∧ ok = true ∧ s.length ≤ 256 ∧ runA [] lv l = (some s :: (runA [] lv' l').1, (runA [] lv' l').2)) ∨ (c = 2 ∧ ok = false ∧ s = [] ∧ runA [] lv l = (none :: (runA [] lv' l').1, (runA [] lv' l').2))))) := by
  rcases nl_split l with h | ⟨a, r, rfl, h, _⟩
  · rw [lineR_none l lv h]
    by_cases h8 : 258 ≤ l.length
    · rw [if_pos h8]
      refine ⟨_, _, _, _, _, rfl, fun _ => rfl, .inr ⟨by simp; omega, .inr ⟨rfl, rfl, rfl, ?_⟩⟩⟩
      have hf : lv = false := by cases lv with | true => rw [hlv rfl] at h8; simp at h8 | false => rfl
      subst hf
      rw [runA_none l [] h (by simp), if_neg (by simp; omega)]
      rfl
    · rw [if_neg h8]
      exact ⟨_, _, _, _, _, rfl, hlv, .inl ⟨rfl, rfl, rfl, rfl, rfl, h, by omega, hlv⟩⟩
  · have hf : lv = false := by cases lv with | true => have := hlv rfl; simp at this | false => rfl
    subst hf
    rw [lineR_app a r false h, runA_line a r h]
    unfold outL
    by_cases hc : (cut13 a).length ≤ 256
    · rw [if_pos hc, if_pos hc]
      exact ⟨_, _, _, _, _, rfl, (fun e => by cases e), .inr ⟨by simp; omega, .inl ⟨rfl, rfl, hc, rfl⟩⟩⟩
    · rw [if_neg hc, if_neg hc]
      exact ⟨_, _, _, _, _, rfl, (fun e => by cases e), .inr ⟨by simp; omega, .inr ⟨rfl, rfl, rfl, rfl⟩⟩⟩
/-- One Feed where no line is there. -/
theorem feedA (l : List UInt8) (lv : Bool) (m : List UInt8) (h : Dry l lv) : ∃ l1 lv1, feedR l lv 0 m = (l1, lv1, 0) ∧ (lv1 = true → l1 = []) ∧ runA l lv m = runA [] lv1 l1 ∧ l1.length ≤ l.length + m.length := by
  cases lv with
  | false =>
    refine ⟨l ++ m, false, by simp [feedR], (fun e => by cases e), ?_, by simp⟩
    rw [runA_app, h.self]
    simp
  | true =>
    obtain rfl := h.lv rfl
    rcases nl_split m with hm | ⟨a, r, rfl, ha, hn⟩
    · refine ⟨[], true, ?_, fun _ => rfl, runA_out m hm, by simp⟩
      unfold feedR
      rw [if_pos rfl, if_neg]
      intro hc
      have := nl_at m hc
      rw [List.getD_eq_getElem?_getD, List.getElem?_eq_getElem hc] at this
      exact hm _ (List.getElem_mem _) this
    · refine ⟨r, false, ?_, (fun e => by cases e), ?_, by simp; omega⟩
      · unfold feedR
        rw [if_pos rfl, if_pos (by rw [hn]; simp), hn]
        simp
      · rw [runA_app, runA_out a ha]
        simp [runA, stA]
end Go.Proofs.Ytpidfndcihljmaa
