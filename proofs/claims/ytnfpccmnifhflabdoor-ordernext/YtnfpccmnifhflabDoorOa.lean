/- order, plainly: texts as codes, words as bytes, what comes next. -/
import Derived.Lib.SplitLaws
namespace Go.Proofs.YtnfpccmnifhflabDoor

/-- A text's bytes, each nought followed by 255. -/
def enc : List UInt8 → List UInt8
  | [] => []
  | c :: l => if c = 0 then 0 :: 255 :: enc l else c :: enc l
/-- A text's code. -/
def code (a : List UInt8) : List UInt8 := enc a ++ [0, 1]
/-- What is told of a text: an error's number, or the text and what is behind. -/
structure Tk where
  e : Nat
  s : List UInt8
  r : List UInt8
def Tk.app (l : List UInt8) (t : Tk) : Tk := if t.e = 0 then ⟨0, l ++ t.s, t.r⟩ else ⟨t.e, [], []⟩
def tk : List UInt8 → Tk
  | [] => ⟨4, [], []⟩
  | [c] => if c = 0 then ⟨4, [], []⟩ else Tk.app [c] (tk [])
  | c :: d :: l => if c = 0 then (if d = 255 then Tk.app [0] (tk l) else if d = 1 then ⟨0, [], l⟩ else ⟨3, [], []⟩) else Tk.app [c] (tk (d :: l))
theorem Tk.app_app (l m : List UInt8) (t : Tk) : Tk.app l (Tk.app m t) = Tk.app (l ++ m) t := by
  unfold Tk.app
  by_cases h : t.e = 0
  · simp [h]
  · simp [h]
theorem tk_cons (c : UInt8) (l : List UInt8) (h : c ≠ 0) : tk (c :: l) = Tk.app [c] (tk l) := by
  cases l with
  | nil => simp [tk, h]
  | cons d l => simp [tk, h]
theorem tk_nil : tk [] = ⟨4, [], []⟩ := by rw [tk]
theorem tk_zero : tk [0] = ⟨4, [], []⟩ := by rw [tk, if_pos rfl]
theorem tk_byte (l : List UInt8) : tk (0 :: 255 :: l) = Tk.app [0] (tk l) := by rw [tk, if_pos rfl, if_pos rfl]
theorem tk_end (l : List UInt8) : tk (0 :: 1 :: l) = ⟨0, [], l⟩ := by rw [tk, if_pos rfl, if_neg (by decide), if_pos rfl]
theorem tk_bad (d : UInt8) (l : List UInt8) (h1 : d ≠ 255) (h2 : d ≠ 1) : tk (0 :: d :: l) = ⟨3, [], []⟩ := by rw [tk, if_pos rfl, if_neg h1, if_neg h2]
theorem tk_code : ∀ (a x : List UInt8), tk (enc a ++ 0 :: 1 :: x) = ⟨0, a, x⟩
  | [], x => by rw [enc, List.nil_append, tk_end]
  | c :: a, x => by
    have ih := tk_code a x
    by_cases h : c = 0
    · subst h
      rw [enc, if_pos rfl, List.cons_append, List.cons_append, tk_byte, ih]
      simp [Tk.app]
    · rw [enc, if_neg h, List.cons_append, tk_cons c _ h, ih]
      simp [Tk.app]
theorem enc_inj (a b x y : List UInt8) (h : enc a ++ 0 :: 1 :: x = enc b ++ 0 :: 1 :: y) : a = b ∧ x = y := by
  have h1 := tk_code a x
  rw [h, tk_code b y] at h1
  injection h1 with _ h2 h3
  exact ⟨h2.symm, h3.symm⟩
theorem u8_pos (c : UInt8) (h : c ≠ 0) : 0 < c := by
  rw [UInt8.lt_iff_toNat_lt]
  have : c.toNat ≠ 0 := fun e => h (UInt8.toNat_inj.1 e)
  simp; omega
/-- Texts stand as their codes do, whatever follows. -/
theorem enc_lt : ∀ (a b x y : List UInt8), a ≠ b → ((enc a ++ 0 :: 1 :: x < enc b ++ 0 :: 1 :: y) ↔ a < b)
  | [], [], _, _, h => absurd rfl h
  | [], d :: b, x, y, _ => by
    have e : ([] : List UInt8) < d :: b := by simp
    refine iff_of_true ?_ e
    rw [enc, List.nil_append, enc]
    by_cases h : d = 0
    · rw [if_pos h, List.cons_append, List.cons_append, List.cons_lt_cons_iff]
      exact .inr ⟨rfl, by rw [List.cons_lt_cons_iff]; exact .inl (by decide)⟩
    · rw [if_neg h, List.cons_append, List.cons_lt_cons_iff]
      exact .inl (u8_pos d h)
  | c :: a, [], x, y, _ => by
    have e : ¬ (c :: a) < ([] : List UInt8) := by simp
    refine iff_of_false ?_ e
    rw [enc, enc, List.nil_append]
    by_cases h : c = 0
    · rw [if_pos h, List.cons_append, List.cons_append, List.cons_lt_cons_iff, List.cons_lt_cons_iff]
      rintro (h | ⟨_, h | ⟨h, _⟩⟩)
      · exact absurd h (by decide)
      · exact absurd h (by decide)
      · exact absurd h (by decide)
    · rw [if_neg h, List.cons_append, List.cons_lt_cons_iff]
      rintro (g | ⟨g, _⟩)
      · exact absurd (UInt8.lt_trans (u8_pos c h) g) (UInt8.lt_irrefl _)
      · exact h g
  | c :: a, d :: b, x, y, hn => by
    by_cases e : c = d
    · subst e
      have ih := enc_lt a b x y (fun e => hn (by rw [e]))
      rw [List.cons_lt_cons_iff]
      have r : ((c < c) ∨ c = c ∧ a < b) ↔ a < b := ⟨fun h => h.elim (fun h => absurd h (UInt8.lt_irrefl _)) (·.2), fun h => .inr ⟨rfl, h⟩⟩
      rw [r, ← ih, enc, enc]
      by_cases h : c = 0
      · rw [if_pos h, if_pos h]
        simp only [List.cons_append, List.cons_lt_cons_iff]
        exact ⟨fun h => h.elim (fun h => absurd h (UInt8.lt_irrefl _)) (fun h => h.2.elim (fun h => absurd h (UInt8.lt_irrefl _)) (·.2)), fun h => .inr ⟨trivial, .inr ⟨trivial, h⟩⟩⟩
      · rw [if_neg h, if_neg h]
        simp only [List.cons_append, List.cons_lt_cons_iff]
        exact ⟨fun h => h.elim (fun h => absurd h (UInt8.lt_irrefl _)) (·.2), fun h => .inr ⟨trivial, h⟩⟩
    · have g1 : ∀ l m : List UInt8, (c :: l < d :: m) ↔ c < d := fun l m => by
        rw [List.cons_lt_cons_iff]; exact ⟨fun h => h.elim id fun h => absurd h.1 e, .inl⟩
      rw [g1, enc, enc]
      by_cases h : c = 0
      · rw [if_pos h, if_neg (fun k => e (h.trans k.symm))]
        simp only [List.cons_append]
        rw [← h, g1]
      · by_cases k : d = 0
        · rw [if_neg h, if_pos k]
          simp only [List.cons_append]
          rw [← k, g1]
        · rw [if_neg h, if_neg k]
          simp only [List.cons_append]
          rw [g1]

/-- Texts coded one behind the other. -/
def chain (L : List (List UInt8)) : List UInt8 := (L.map code).flatten
theorem chain_cons (a : List UInt8) (L : List (List UInt8)) : chain (a :: L) = enc a ++ 0 :: 1 :: chain L := by simp [chain, code]
theorem chain_nil : chain [] = [] := rfl
theorem app_lt (p x y : List UInt8) : (p ++ x < p ++ y) ↔ x < y := by
  induction p with
  | nil => exact Iff.rfl
  | cons c p ih =>
    rw [List.cons_append, List.cons_append, List.cons_lt_cons_iff, ih]
    exact ⟨fun h => h.elim (fun h => absurd h (UInt8.lt_irrefl _)) (·.2), fun h => .inr ⟨rfl, h⟩⟩

/-- A word's k lowest bytes, the highest first. -/
def be : Nat → Nat → List UInt8
  | 0, _ => []
  | k + 1, c => UInt8.ofNat (c / 256 ^ k) :: be k c
theorem be_len : ∀ k c, (be k c).length = k
  | 0, _ => rfl
  | k + 1, c => by rw [be, List.length_cons, be_len k c]
theorem be_mod : ∀ k c, be k (c % 256 ^ k) = be k c
  | 0, _ => rfl
  | k + 1, c => by
    have e1 : (c % 256 ^ (k + 1)) / 256 ^ k = c / 256 ^ k % 256 := by
      rw [Nat.pow_succ, Nat.mod_mul_right_div_self]
    have e2 : be k (c % 256 ^ (k + 1)) = be k c := by
      rw [← be_mod k (c % 256 ^ (k + 1)), ← be_mod k c, Nat.pow_succ, Nat.mod_mul_right_mod]
    rw [be, be, e1, e2]
    congr 1
    apply UInt8.toNat_inj.1
    simp
theorem ofNat_lt (q r : Nat) (hq : q < 256) (hr : r < 256) : (UInt8.ofNat q < UInt8.ofNat r) ↔ q < r := by
  rw [UInt8.lt_iff_toNat_lt, UInt8.toNat_ofNat_of_lt' hq, UInt8.toNat_ofNat_of_lt' hr]
theorem ofNat_eq (q r : Nat) (hq : q < 256) (hr : r < 256) : (UInt8.ofNat q = UInt8.ofNat r) ↔ q = r := by
  rw [← UInt8.toNat_inj, UInt8.toNat_ofNat_of_lt' hq, UInt8.toNat_ofNat_of_lt' hr]
theorem be_lt : ∀ (k c d : Nat) (x y : List UInt8), c < 256 ^ k → d < 256 ^ k → ((be k c ++ x < be k d ++ y) ↔ (c < d ∨ c = d ∧ x < y))
  | 0, c, d, x, y, hc, hd => by
    have : c = d := by rw [Nat.pow_zero] at hc hd; omega
    subst this
    simp [be]
  | k + 1, c, d, x, y, hc, hd => by
    have hp : 0 < 256 ^ k := Nat.pow_pos (by decide)
    have hcq : c / 256 ^ k < 256 := Nat.div_lt_of_lt_mul (by rw [Nat.pow_succ] at hc; omega)
    have hdq : d / 256 ^ k < 256 := Nat.div_lt_of_lt_mul (by rw [Nat.pow_succ] at hd; omega)
    have ih := be_lt k (c % 256 ^ k) (d % 256 ^ k) x y (Nat.mod_lt _ hp) (Nat.mod_lt _ hp)
    rw [be_mod, be_mod] at ih
    have hc2 := Nat.div_add_mod c (256 ^ k)
    have hd2 := Nat.div_add_mod d (256 ^ k)
    have hcm := Nat.mod_lt c hp
    have hdm := Nat.mod_lt d hp
    rw [be, be, List.cons_append, List.cons_append, List.cons_lt_cons_iff, ih]
    have l1 := ofNat_lt _ _ hcq hdq
    have l2 := ofNat_eq _ _ hcq hdq
    rw [l1, l2]
    generalize c / 256 ^ k = q at *
    generalize d / 256 ^ k = r at *
    generalize c % 256 ^ k = m at *
    generalize d % 256 ^ k = n at *
    generalize 256 ^ k = p at *
    rcases Nat.lt_trichotomy q r with h | h | h
    · have : p * q + p ≤ p * r := by rw [← Nat.mul_succ]; exact Nat.mul_le_mul_left _ h
      exact iff_of_true (.inl h) (.inl (by omega))
    · subst h
      constructor
      · rintro (h | ⟨_, h | ⟨h, g⟩⟩)
        · omega
        · exact .inl (by omega)
        · exact .inr ⟨by omega, g⟩
      · rintro (h | ⟨h, g⟩)
        · exact .inr ⟨rfl, .inl (by omega)⟩
        · exact .inr ⟨rfl, .inr ⟨by omega, g⟩⟩
    · have : p * r + p ≤ p * q := by rw [← Nat.mul_succ]; exact Nat.mul_le_mul_left _ h
      refine iff_of_false ?_ ?_
      · rintro (k | ⟨k, _⟩) <;> omega
      · rintro (k | ⟨k, _⟩) <;> omega
theorem be_inj (k c d : Nat) (hc : c < 256 ^ k) (hd : d < 256 ^ k) (h : be k c = be k d) : c = d := by
  have h1 := be_lt k c d [] [0] hc hd
  rw [h, List.append_nil] at h1
  have h2 : be k d < be k d ++ [0] := by
    have := (app_lt (be k d) [] [0]).2 (by decide)
    rwa [List.append_nil] at this
  rcases h1.1 h2 with h3 | h3
  · have h4 := be_lt k d c [] [0] hd hc
    rw [h, List.append_nil] at h4
    rcases h4.1 h2 with h5 | h5 <;> omega
  · exact h3.1
/-- The word whose bytes stand at the front. -/
def unbe (l : List UInt8) : Nat := l.foldl (fun c b => c * 256 + b.toNat) 0
theorem unbe_from (l : List UInt8) : ∀ c, l.foldl (fun c b => c * 256 + b.toNat) c = c * 256 ^ l.length + unbe l := by
  induction l with
  | nil => intro c; simp [unbe]
  | cons b l ih =>
    intro c
    have e : unbe (b :: l) = b.toNat * 256 ^ l.length + unbe l := by
      show List.foldl _ (0 * 256 + b.toNat) l = _
      rw [ih, Nat.zero_mul, Nat.zero_add]
    rw [List.foldl_cons, ih, e, List.length_cons, Nat.pow_succ, Nat.add_mul, Nat.mul_assoc, Nat.mul_comm 256, Nat.add_assoc]
theorem unbe_lt (l : List UInt8) : unbe l < 256 ^ l.length := by
  induction l with
  | nil => simp [unbe]
  | cons b l ih =>
    have h : unbe (b :: l) = b.toNat * 256 ^ l.length + unbe l := by
      rw [unbe, List.foldl_cons, unbe_from, Nat.zero_mul, Nat.zero_add]
    have hb := b.toNat_lt
    rw [h, List.length_cons, Nat.pow_succ]
    have : (b.toNat + 1) * 256 ^ l.length ≤ 256 * 256 ^ l.length := Nat.mul_le_mul_right _ (by omega)
    rw [Nat.add_mul] at this
    omega
theorem unbe_be : ∀ k c, c < 256 ^ k → unbe (be k c) = c
  | 0, c, h => by rw [Nat.pow_zero] at h; simp [be, unbe]; omega
  | k + 1, c, h => by
    have hp : 0 < 256 ^ k := Nat.pow_pos (by decide)
    have hq : c / 256 ^ k < 256 := Nat.div_lt_of_lt_mul (by rw [Nat.pow_succ] at h; omega)
    rw [be, unbe, List.foldl_cons, unbe_from, be_len, ← be_mod, unbe_be k _ (Nat.mod_lt _ hp), Nat.zero_mul, Nat.zero_add]
    have : (UInt8.ofNat (c / 256 ^ k)).toNat = c / 256 ^ k := by simp; omega
    rw [this, Nat.mul_comm]
    exact Nat.div_add_mod c (256 ^ k)

/-- The least text above all that begin so. -/
def nxt : List UInt8 → Option (List UInt8)
  | [] => none
  | c :: l => match nxt l with
    | some m => some (c :: m)
    | none => if c = 255 then none else some [c + 1]
theorem nxt_some {c : UInt8} {l m : List UInt8} (h : nxt l = some m) : nxt (c :: l) = some (c :: m) := by simp [nxt, h]
theorem nxt_none {c : UInt8} {l : List UInt8} (h : nxt l = none) : nxt (c :: l) = if c = 255 then none else some [c + 1] := by simp [nxt, h]
theorem nxt_all : ∀ (l : List UInt8), nxt l = none ↔ ∀ c, c ∈ l → c = 255
  | [] => by simp [nxt]
  | c :: l => by
    have ih := nxt_all l
    cases h : nxt l with
    | some m =>
      rw [nxt_some h]
      refine iff_of_false (by simp) fun k => ?_
      rw [h] at ih
      have := ih.2 fun d hd => k d (List.mem_cons_of_mem _ hd)
      cases this
    | none =>
      rw [nxt_none h]
      have k := ih.1 h
      by_cases e : c = 255
      · rw [if_pos e]
        exact iff_of_true rfl fun d hd => (List.mem_cons.1 hd).elim (fun x => x.trans e) (k d)
      · rw [if_neg e]
        exact iff_of_false (by simp) fun g => e (g c (List.mem_cons_self ..))
theorem nxt_of (c : UInt8) (q : List UInt8) (hc : c ≠ 255) (hq : ∀ d, d ∈ q → d = 255) : ∀ (p : List UInt8), nxt (p ++ c :: q) = some (p ++ [c + 1])
  | [] => by rw [List.nil_append, nxt_none ((nxt_all q).2 hq), if_neg hc]; rfl
  | d :: p => by rw [List.cons_append, nxt_some (nxt_of c q hc hq p)]; rfl
theorem u8_succ (c : UInt8) (h : c ≠ 255) : (c + 1).toNat = c.toNat + 1 := by
  have h1 : c.toNat ≠ 255 := fun e => h (UInt8.toNat_inj.1 e)
  have h2 := c.toNat_lt
  rw [UInt8.toNat_add]
  simp
  omega
theorem u8_top (d : UInt8) : ¬ (255 : UInt8) < d := by
  rw [UInt8.lt_iff_toNat_lt]
  have := d.toNat_lt
  simp
  omega
theorem top_pre : ∀ (l o : List UInt8), (∀ c, c ∈ l → c = 255) → (¬ o < l ↔ l <+: o)
  | [], o, _ => by simp
  | c :: l, [], _ => by simp
  | c :: l, d :: o, h => by
    have ih := top_pre l o fun e he => h e (List.mem_cons_of_mem _ he)
    obtain rfl := h c (List.mem_cons_self ..)
    rw [List.cons_lt_cons_iff, List.cons_prefix_cons, ← ih]
    by_cases e : d = 255
    · subst e
      simp [UInt8.lt_irrefl]
    · have : d < 255 := by
        rw [UInt8.lt_iff_toNat_lt]
        have h1 : d.toNat ≠ 255 := fun x => e (UInt8.toNat_inj.1 x)
        have h2 := d.toNat_lt
        simp
        omega
      exact iff_of_false (fun k => k (.inl this)) fun k => e k.1.symm
/-- Just what begins so stands between. -/
theorem nxt_pre : ∀ (k n o : List UInt8), nxt k = some n → ((¬ o < k ∧ o < n) ↔ k <+: o)
  | [], n, o, h => by simp [nxt] at h
  | c :: l, n, o, h => by
    cases hl : nxt l with
    | some m =>
      rw [nxt_some hl] at h
      obtain rfl := Option.some.inj h
      cases o with
      | nil => simp
      | cons d o =>
        have ih := nxt_pre l m o hl
        rw [List.cons_lt_cons_iff, List.cons_lt_cons_iff, List.cons_prefix_cons, ← ih]
        by_cases e : d = c
        · subst e
          simp [UInt8.lt_irrefl]
        · have e' : c ≠ d := fun x => e x.symm
          by_cases g : d < c
          · exact iff_of_false (fun k => k.1 (.inl g)) fun k => e' k.1
          · exact iff_of_false (fun k => k.2.elim g fun k => e k.1) fun k => e' k.1
    | none =>
      rw [nxt_none hl] at h
      by_cases hc : c = 255
      · rw [if_pos hc] at h; cases h
      rw [if_neg hc] at h
      obtain rfl := Option.some.inj h
      have hq := (nxt_all l).1 hl
      cases o with
      | nil => simp
      | cons d o =>
        have ih := top_pre l o hq
        rw [List.cons_lt_cons_iff, List.cons_lt_cons_iff, List.cons_prefix_cons, ← ih]
        have hs := u8_succ c hc
        have hlt : d < c + 1 ↔ d.toNat < c.toNat + 1 := by rw [UInt8.lt_iff_toNat_lt, hs]
        have hno : ¬ o < ([] : List UInt8) := by simp
        by_cases e : d = c
        · subst e
          have : d < d + 1 := hlt.2 (by omega)
          simp [UInt8.lt_irrefl, this]
        · have e' : c ≠ d := fun x => e x.symm
          refine iff_of_false (fun k => ?_) fun k => e' k.1
          have k2 : d < c + 1 := k.2.elim id fun x => absurd x.2 hno
          have k1 : ¬ d < c := fun x => k.1 (.inl x)
          rw [UInt8.lt_iff_toNat_lt] at k1
          exact e (UInt8.toNat_inj.1 (by have := hlt.1 k2; omega))
theorem nxt_len : ∀ (k n : List UInt8), nxt k = some n → n.length ≤ k.length ∧ 0 < n.length
  | [], n, h => by simp [nxt] at h
  | c :: l, n, h => by
    cases hl : nxt l with
    | some m =>
      rw [nxt_some hl] at h
      obtain rfl := Option.some.inj h
      have := nxt_len l m hl
      simp only [List.length_cons]
      omega
    | none =>
      rw [nxt_none hl] at h
      by_cases hc : c = 255
      · rw [if_pos hc] at h; cases h
      rw [if_neg hc] at h
      obtain rfl := Option.some.inj h
      simp
theorem nxt_lt (k n : List UInt8) (h : nxt k = some n) : k < n := ((nxt_pre k n k h).2 (List.prefix_refl _)).2
end Go.Proofs.YtnfpccmnifhflabDoor
