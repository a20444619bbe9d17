/- Reply: what is read, as plain functions: words of a line, answers; what is read of a text does not hang on what is behind it. -/
import Derived.Lib.IndexMore
import Derived.Lib.AtoiAll
import Derived.Lib.ItoaNum
import Derived.Lib.Strings
import Derived.Lib.Slices
import Derived.Test.YticflknfkaoejaaGreatDoorRows
namespace Go.Proofs.YticflknfkaoejaaGreatDoor

/-- A text parted at its first c: what is ahead, what is behind, whether there is one. -/
def cutc (c : UInt8) : List UInt8 → List UInt8 × List UInt8 × Bool
  | [] => ([], [], false)
  | x :: l => if x = c then ([], l, true) else (x :: (cutc c l).1, (cutc c l).2.1, (cutc c l).2.2)
theorem index_c (c : UInt8) : ∀ l : List UInt8, (Lib.index l [c] = -1 ∧ cutc c l = (l, [], false)) ∨ ∃ k : Nat, k < l.length ∧ Lib.index l [c] = (k : Int) ∧ cutc c l = (l.take k, l.drop (k + 1), true)
  | [] => .inl ⟨rfl, rfl⟩
  | x :: l => by
    by_cases hc : x = c
    · subst hc
      exact .inr ⟨0, by simp, by simp [Lib.index], by simp [cutc]⟩
    · have hb : ([c] : List UInt8).isPrefixOf (x :: l) = false := by simp [List.isPrefixOf]; exact fun h => hc h.symm
      rcases index_c c l with ⟨h1, h2⟩ | ⟨k, h0, h1, h2⟩
      · exact .inl ⟨by simp [Lib.index, hb, h1], by simp [cutc, hc, h2]⟩
      · refine .inr ⟨k + 1, by simp; omega, ?_, by simp [cutc, hc, h2]⟩
        simp only [Lib.index, hb, h1]
        have : ((k : Int) == -1) = false := by simp
        simp [this]
theorem cut_eq (c : UInt8) (l : List UInt8) : Lib.cut l [c] = cutc c l := by
  unfold Lib.cut
  rcases index_c c l with ⟨h1, h2⟩ | ⟨k, h0, h1, h2⟩
  · rw [h1, h2, if_neg (by omega)]
  · rw [h1, h2, if_pos (by omega)]
    simp
theorem cut_none {c : UInt8} {l : List UInt8} (h : c ∉ l) : cutc c l = (l, [], false) := by
  induction l with
  | nil => rfl
  | cons x l ih =>
    simp at h
    unfold cutc
    rw [if_neg (fun e => h.1 e.symm), ih h.2]
theorem cut_some {c : UInt8} {a : List UInt8} (h : c ∉ a) (b : List UInt8) : cutc c (a ++ c :: b) = (a, b, true) := by
  induction a with
  | nil => simp [cutc]
  | cons x a ih =>
    simp at h
    show cutc c (x :: (a ++ c :: b)) = _
    unfold cutc
    rw [if_neg (fun e => h.1 e.symm), ih h.2]
theorem cut_le (c : UInt8) (l : List UInt8) : (cutc c l).1.length ≤ l.length ∧ (cutc c l).2.1.length ≤ l.length := by
  rcases index_c c l with ⟨_, h2⟩ | ⟨k, h0, h1, h2⟩ <;> rw [h2]
  · simp
  · simp; omega
theorem cut_true {c : UInt8} {l : List UInt8} (h : (cutc c l).2.2 = true) : l = (cutc c l).1 ++ c :: (cutc c l).2.1 ∧ c ∉ (cutc c l).1 := by
  induction l with
  | nil => cases h
  | cons x l ih =>
    unfold cutc at h ⊢
    by_cases hc : x = c
    · subst hc; simp
    · rw [if_neg hc] at h ⊢
      obtain ⟨h1, h2⟩ := ih h
      refine ⟨?_, ?_⟩
      · show x :: l = x :: ((cutc c l).1 ++ c :: (cutc c l).2.1)
        rw [← h1]
      · simp only [List.mem_cons, not_or]
        exact ⟨fun e => hc e.symm, h2⟩

/-- Whether a text may be a key or a name. -/
def isN (l : List UInt8) : Bool := decide (1 ≤ l.length ∧ l.length ≤ 64) && l.all fun c => decide (33 ≤ c.toNat ∧ c.toNat ≤ 126)
/-- The number that a word tells. -/
def numO (l : List UInt8) : Option Nat :=
  match Lib.atoiAll l with
  | .ok v => if 0 ≤ v ∧ v ≤ 999999999 ∧ Lib.decDigits v.toNat = l then some v.toNat else none
  | _ => none

/-- The words of a line: what is behind those that were taken, whether one is there yet, whether one was wrong. -/
structure WS where
  l : List UInt8
  m : Bool
  b : Bool
/-- A reader: what is behind what was gone through, whether something was wrong. -/
structure RS where
  r : List UInt8
  b : Bool
def WS.word (s : WS) : List UInt8 := (cutc 32 s.l).1
def WS.next (s : WS) : WS := ⟨(cutc 32 s.l).2.1, (cutc 32 s.l).2.2, s.b⟩
def WS.ask (s : WS) (r : Bool) : WS := ⟨s.l, s.m, s.b || !r⟩
def WS.name (s : WS) : WS := s.next.ask (isN s.word)
def WS.number (s : WS) : WS := s.next.ask (numO s.word).isSome
def WS.num (s : WS) : Nat := (numO s.word).getD 0
def WS.score (sc : List UInt8 → Bool) (s : WS) : WS := s.next.ask (sc s.word)
def WS.done (s : WS) : Bool := !s.b && !s.m
def RS.ask (s : RS) (r : Bool) : RS := ⟨s.r, s.b || !r⟩
/-- A reader takes a line: its words, and what is behind it. -/
def RS.words (s : RS) : WS := ⟨(cutc 10 s.r).1, true, false⟩
def RS.line (s : RS) : RS := ⟨(cutc 10 s.r).2.1, s.b || !(cutc 10 s.r).2.2⟩
def RS.done (s : RS) (w : WS) : RS := s.ask w.done
/-- What is behind so many bytes and a line feed. -/
def RS.load (s : RS) (n : Nat) : RS :=
  if s.b = true ∨ s.r.length < n then ⟨s.r, true⟩ else
  match s.r.drop n with
  | 10 :: d => ⟨d, s.b⟩
  | d => ⟨d, true⟩
def RS.value (s : RS) (w : WS) : RS := (s.done w.number).load w.num
def eachR (one : RS → RS) : Nat → RS → RS
  | 0, s => s
  | n + 1, s => if s.b = true then s else eachR one n (one s)
def RS.each (one : RS → RS) (s : RS) (w : WS) : RS := eachR one w.num (s.done w.number)
def manyW (one : WS → WS) : Nat → WS → WS
  | 0, s => s
  | n + 1, s => manyW one n (one s)
def RS.scores (sc : List UInt8 → Bool) (n : Nat) (s : RS) (w : WS) : RS := s.done (manyW (WS.score sc) n w)
def RS.pair (s : RS) : RS := s.line.value s.words.name
def RS.member (sc : List UInt8 → Bool) (s : RS) : RS := s.line.scores sc 1 s.words.name
/-- The word behind NUMBER. -/
def minusO (l : List UInt8) : Bool :=
  match l with
  | 45 :: d => (numO d).isSome && !((numO d).getD 0 == 0)
  | d => (numO d).isSome
def RS.number (s : RS) (w : WS) : RS := s.done (w.next.ask (minusO w.word))
def numbersW : Nat → WS → WS
  | 0, s => s
  | n + 1, s => if s.b = true then s else numbersW n s.number
def RS.numbers (s : RS) (w : WS) : RS := s.done (numbersW w.num w.number)
/-- The words of errors. -/
def isE (l : List UInt8) : Bool := l ∈ ([[83,89,78,84,65,88], [84,79,79,66,73,71], [78,79,83,78,65,80], [70,85,76,76], [78,65,78], [77,65,78,89], [68,69,65,68], [65,82,71]] : List (List UInt8))
def RS.reason (s : RS) (w : WS) : RS := (s.ask (isE w.word)).done w.next
/-- An answer by its first word. -/
def RS.kind (sc : List UInt8 → Bool) (s : RS) (k : List UInt8) (w : WS) : RS :=
  if k = [79,75] ∨ k = [78,79,78,69] ∨ k = [89,69,83] ∨ k = [78,79] then s.done w
  else if k = [69,82,82] then s.reason w
  else if k = [86,65,76,85,69] then s.value w
  else if k = [80,65,73,82,83] then s.each RS.pair w
  else if k = [83,67,79,82,69,68] then s.each (RS.member sc) w
  else if k = [83,67,79,82,69] then s.scores sc 1 w
  else if k = [78,85,77,66,69,82] then s.number w
  else if k = [78,85,77,66,69,82,83] then s.numbers w
  else if k = [83,80,82,69,65,68] then s.scores sc 4 w.number
  else ⟨s.r, true⟩
def RS.answer (sc : List UInt8 → Bool) (s : RS) : RS := s.line.kind sc s.words.word s.words.next

/-- What goes through a text from its front: it looks at nothing behind what it takes. -/
structure Front (f : RS → RS) : Prop where
  bad : ∀ s, s.b = true → (f s).b = true
  front : ∀ s, (f ⟨s, false⟩).b = false → ∃ p, s = p ++ (f ⟨s, false⟩).r ∧ ∀ t, f ⟨p ++ t, false⟩ = ⟨t, false⟩
theorem RS.eta (s : RS) : s = ⟨s.r, s.b⟩ := rfl
theorem Front.comp {f g : RS → RS} (hf : Front f) (hg : Front g) : Front (fun s => g (f s)) := by
  refine ⟨fun s h => hg.bad _ (hf.bad s h), fun s h => ?_⟩
  have h1 : (f ⟨s, false⟩).b = false := by
    rcases e : (f ⟨s, false⟩).b with _ | _
    · rfl
    · rw [hg.bad _ e] at h; cases h
  obtain ⟨p, e1, k1⟩ := hf.front s h1
  have e0 : f ⟨s, false⟩ = ⟨(f ⟨s, false⟩).r, false⟩ := (RS.eta _).trans (by rw [h1])
  rw [e0] at h
  obtain ⟨q, e2, k2⟩ := hg.front _ h
  refine ⟨p ++ q, ?_, fun t => ?_⟩
  · show s = (p ++ q) ++ (g (f ⟨s, false⟩)).r
    rw [e0, List.append_assoc, ← e2, ← e1]
  · show g (f ⟨(p ++ q) ++ t, false⟩) = _
    rw [List.append_assoc, k1, k2]
theorem Front.id : Front (fun s => s) := ⟨fun _ h => h, fun _ _ => ⟨[], rfl, fun _ => rfl⟩⟩
theorem Front.ask (b : Bool) : Front (fun s => s.ask b) := by
  refine ⟨fun s h => by simp [RS.ask, h], fun s h => ⟨[], rfl, fun t => ?_⟩⟩
  simp only [RS.ask, Bool.false_or, Bool.not_eq_false'] at h
  simp [RS.ask, h]
theorem Front.bad_all : Front (fun s => ⟨s.r, true⟩) := ⟨fun _ _ => rfl, fun _ h => by cases h⟩
theorem Front.load (n : Nat) : Front (fun s => s.load n) := by
  refine ⟨fun s h => by simp [RS.load, h], fun s h => ?_⟩
  show ∃ p, s = p ++ (RS.load ⟨s, false⟩ n).r ∧ ∀ t, RS.load ⟨p ++ t, false⟩ n = ⟨t, false⟩
  replace h : (RS.load ⟨s, false⟩ n).b = false := h
  unfold RS.load at h ⊢
  by_cases hl : s.length < n
  · rw [if_pos (.inr hl)] at h; cases h
  · rw [if_neg (by simp only [Bool.false_eq_true, false_or]; exact hl)] at h ⊢
    rcases hd : s.drop n with _ | ⟨x, d⟩
    · rw [hd] at h; cases h
    · rw [hd] at h
      by_cases hx : x = 10
      · subst hx
        refine ⟨s.take n ++ [10], ?_, fun t => ?_⟩
        · show s = (s.take n ++ [10]) ++ d
          rw [List.append_assoc, List.singleton_append, ← hd, List.take_append_drop]
        · have hn : (s.take n).length = n := by rw [List.length_take]; omega
          have e2 : (List.take n s ++ [10] ++ t).drop n = 10 :: t := by
            rw [List.append_assoc, List.drop_append_of_le_length (by omega), List.drop_of_length_le (by omega)]; rfl
          rw [if_neg (by simp only [Bool.false_eq_true, false_or, List.length_append]; omega)]
          show (match (List.take n s ++ [10] ++ t).drop n with | 10 :: d => (⟨d, false⟩ : RS) | d => ⟨d, true⟩) = ⟨t, false⟩
          rw [e2]; rfl
      · exfalso
        revert h
        show (match x :: d with | 10 :: d => (⟨d, false⟩ : RS) | d => ⟨d, true⟩).b = false → False
        split
        · rename_i e; cases e; exact absurd rfl hx
        · intro h; cases h
/-- A line first, then what its words ask for. -/
theorem Front.line {g : WS → RS → RS} (hg : ∀ w, Front (g w)) : Front (fun s => g s.words s.line) := by
  refine ⟨fun s h => (hg _).bad _ (by simp [RS.line, h]), fun s h => ?_⟩
  show ∃ p, s = p ++ (g (RS.words ⟨s, false⟩) (RS.line ⟨s, false⟩)).r ∧ ∀ t, g (RS.words ⟨p ++ t, false⟩) (RS.line ⟨p ++ t, false⟩) = ⟨t, false⟩
  replace h : (g (RS.words ⟨s, false⟩) (RS.line ⟨s, false⟩)).b = false := h
  have h1 : (cutc 10 s).2.2 = true := by
    rcases e : (cutc 10 s).2.2 with _ | _
    · rw [(hg _).bad _ (by simp [RS.line, e])] at h; cases h
    · rfl
  have e1 : RS.line ⟨s, false⟩ = ⟨(cutc 10 s).2.1, false⟩ := by simp [RS.line, h1]
  rw [e1] at h ⊢
  obtain ⟨q, e2, k⟩ := (hg _).front _ h
  obtain ⟨e3, e4⟩ := cut_true h1
  refine ⟨(cutc 10 s).1 ++ 10 :: q, ?_, fun t => ?_⟩
  · rw [List.append_assoc, List.cons_append, ← e2]; exact e3
  · have e5 : cutc 10 ((cutc 10 s).1 ++ 10 :: q ++ t) = ((cutc 10 s).1, q ++ t, true) := by
      rw [List.append_assoc, List.cons_append]; exact cut_some e4 _
    have e6 : RS.words ⟨(cutc 10 s).1 ++ 10 :: q ++ t, false⟩ = RS.words ⟨s, false⟩ := by unfold RS.words; rw [e5]
    have e7 : RS.line ⟨(cutc 10 s).1 ++ 10 :: q ++ t, false⟩ = ⟨q ++ t, false⟩ := by unfold RS.line; rw [e5]; rfl
    rw [e6, e7]
    exact k t
theorem Front.each {one : RS → RS} (h1 : Front one) : ∀ n, Front (eachR one n)
  | 0 => Front.id
  | n + 1 => by
    have ih := h1.comp (Front.each h1 n)
    refine ⟨fun s h => by simp [eachR, h], fun s h => ?_⟩
    have e : ∀ s, eachR one (n + 1) ⟨s, false⟩ = eachR one n (one ⟨s, false⟩) := fun s => by simp [eachR]
    rw [e] at h ⊢
    obtain ⟨p, a, b⟩ := ih.front s h
    exact ⟨p, a, fun t => by rw [e]; exact b t⟩
theorem Front.value (w : WS) : Front (fun s => s.value w) := (Front.ask _).comp (Front.load _)
theorem Front.pair : Front RS.pair := Front.line (g := fun w s => s.value w.name) fun _ => Front.value _
theorem Front.member (sc : List UInt8 → Bool) : Front (RS.member sc) := Front.line (g := fun w s => s.scores sc 1 w.name) fun _ => Front.ask _
theorem Front.kind (sc : List UInt8 → Bool) (k : List UInt8) (w : WS) : Front (fun s => s.kind sc k w) := by
  unfold RS.kind
  split
  · exact Front.ask _
  split
  · exact (Front.ask _).comp (Front.ask _)
  split
  · exact Front.value _
  split
  · exact (Front.ask _).comp (Front.each Front.pair _)
  split
  · exact (Front.ask _).comp (Front.each (Front.member sc) _)
  split
  · exact Front.ask _
  split
  · exact Front.ask _
  split
  · exact Front.ask _
  split
  · exact Front.ask _
  · exact Front.bad_all
theorem Front.answer (sc : List UInt8 → Bool) : Front (RS.answer sc) := Front.line (g := fun w s => s.kind sc w.word w.next) fun _ => Front.kind sc _ _
/-- An answer takes a byte or more. -/
theorem answer_some {sc : List UInt8 → Bool} {s : List UInt8} (h : (RS.answer sc ⟨s, false⟩).b = false) : (RS.answer sc ⟨s, false⟩).r.length < s.length := by
  have hl : (cutc 10 s).2.2 = true := by
    rcases e : (cutc 10 s).2.2 with _ | _
    · have : (RS.line ⟨s, false⟩).b = true := by simp [RS.line, e]
      have h2 := (Front.kind sc (RS.words ⟨s, false⟩).word (RS.words ⟨s, false⟩).next).bad _ this
      unfold RS.answer at h
      rw [h2] at h; cases h
    · rfl
  have e1 : RS.line ⟨s, false⟩ = ⟨(cutc 10 s).2.1, false⟩ := by simp [RS.line, hl]
  unfold RS.answer at h ⊢
  rw [e1] at h ⊢
  obtain ⟨p, e2, _⟩ := (Front.kind sc _ _).front _ h
  have e3 := (cut_true hl).1
  have e4 := congrArg List.length e3
  have e5 := congrArg List.length e2
  rw [List.length_append] at e4 e5
  simp only [List.length_cons] at e4
  omega

/-- What Parse tells: the answers, or none. -/
def partsF (sc : List UInt8 → Bool) : Nat → List UInt8 → Option (List (List UInt8))
  | 0, _ => none
  | f + 1, s => if s = [] then some [] else
    if (RS.answer sc ⟨s, false⟩).b = true then none else
    (partsF sc f (RS.answer sc ⟨s, false⟩).r).map fun l => s.take (s.length - (RS.answer sc ⟨s, false⟩).r.length) :: l
def ansL (sc : List UInt8 → Bool) (s : List UInt8) : Option (List (List UInt8)) := partsF sc (s.length + 1) s
theorem partsF_same (sc : List UInt8 → Bool) : ∀ f g s, s.length < f → s.length < g → partsF sc f s = partsF sc g s
  | 0, _, _, h, _ => by omega
  | _, 0, _, _, h => by omega
  | f + 1, g + 1, s, h1, h2 => by
    unfold partsF
    by_cases h0 : s = []
    · rw [if_pos h0, if_pos h0]
    · rw [if_neg h0, if_neg h0]
      rcases hb : (RS.answer sc ⟨s, false⟩).b with _ | _
      · have := answer_some hb
        rw [if_neg (by simp), if_neg (by simp), partsF_same sc f g _ (by omega) (by omega)]
      · rfl
theorem parts_nil (sc : List UInt8 → Bool) : ansL sc [] = some [] := rfl
theorem parts_bad {sc : List UInt8 → Bool} {s : List UInt8} (h0 : s ≠ []) (h : (RS.answer sc ⟨s, false⟩).b = true) : ansL sc s = none := by
  unfold ansL partsF
  rw [if_neg h0, if_pos h]
theorem parts_more {sc : List UInt8 → Bool} {s : List UInt8} (h0 : s ≠ []) (h : (RS.answer sc ⟨s, false⟩).b = false) :
    ansL sc s = (ansL sc (RS.answer sc ⟨s, false⟩).r).map fun l => s.take (s.length - (RS.answer sc ⟨s, false⟩).r.length) :: l := by
  have h1 := answer_some h
  unfold ansL
  rw [partsF, if_neg h0, if_neg (by rw [h]; simp), partsF_same sc s.length ((RS.answer sc ⟨s, false⟩).r.length + 1) _ h1 (by omega)]
/-- A text that is an answer, whatever is behind it. -/
def IsAns (sc : List UInt8 → Bool) (p : List UInt8) : Prop := p ≠ [] ∧ ∀ t, RS.answer sc ⟨p ++ t, false⟩ = ⟨t, false⟩
theorem IsAns.ansL {sc : List UInt8 → Bool} {p : List UInt8} (h : IsAns sc p) (t : List UInt8) : Go.Proofs.YticflknfkaoejaaGreatDoor.ansL sc (p ++ t) = (Go.Proofs.YticflknfkaoejaaGreatDoor.ansL sc t).map fun l => p :: l := by
  have e := h.2 t
  rw [parts_more (by have := h.1; simp [this]) (by rw [e]), e]
  simp
theorem IsAns.one {sc : List UInt8 → Bool} {p : List UInt8} (h : IsAns sc p) : Go.Proofs.YticflknfkaoejaaGreatDoor.ansL sc p = some [p] := by
  have := h.ansL []
  rw [List.append_nil, parts_nil] at this
  exact this
/-- Answers behind one another are parted as they were. -/
theorem parts_flat {sc : List UInt8 → Bool} : ∀ l : List (List UInt8), (∀ p ∈ l, IsAns sc p) → ansL sc l.flatten = some l
  | [], _ => parts_nil sc
  | p :: l, h => by
    rw [List.flatten_cons, (h p (by simp)).ansL, parts_flat l fun q hq => h q (by simp [hq])]
    rfl
/-- What is parted: answers each, and put together what was parted. -/
theorem parts_some {sc : List UInt8 → Bool} : ∀ (k : Nat) (s : List UInt8) (l : List (List UInt8)), s.length ≤ k → ansL sc s = some l → l.flatten = s ∧ ∀ p ∈ l, IsAns sc p := by
  intro k
  induction k with
  | zero =>
    intro s l h e
    obtain rfl : s = [] := List.length_eq_zero_iff.1 (by omega)
    rw [parts_nil] at e
    cases e
    simp
  | succ k ih =>
    intro s l h e
    by_cases h0 : s = []
    · subst h0
      rw [parts_nil] at e
      cases e
      simp
    · rcases hb : (RS.answer sc ⟨s, false⟩).b with _ | _
      · rw [parts_more h0 hb] at e
        obtain ⟨m, e1, rfl⟩ := Option.map_eq_some_iff.1 e
        have h1 := answer_some hb
        obtain ⟨k1, k2⟩ := ih _ m (by omega) e1
        obtain ⟨p, e2, e3⟩ := (Front.answer sc).front s hb
        have e4 : s.take (s.length - (RS.answer sc ⟨s, false⟩).r.length) = p := by
          have e5 := congrArg List.length e2
          rw [List.length_append] at e5
          rw [show s.length - (RS.answer sc ⟨s, false⟩).r.length = p.length by omega]
          conv => lhs; rw [e2]
          simp
        rw [e4]
        refine ⟨by rw [List.flatten_cons, k1]; exact e2.symm, ?_⟩
        intro q hq
        rcases List.mem_cons.1 hq with rfl | hq
        · refine ⟨fun hp => ?_, e3⟩
          rw [hp, List.nil_append] at e2
          rw [← e2] at h1
          omega
        · exact k2 q hq
      · rw [parts_bad h0 hb] at e; cases e
end Go.Proofs.YticflknfkaoejaaGreatDoor
