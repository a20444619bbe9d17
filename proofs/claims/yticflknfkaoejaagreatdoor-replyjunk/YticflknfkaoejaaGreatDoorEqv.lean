/- Digits of a number lead back to it, in both ways of reading. -/
import Derived.Test.YticflknfkaoejaaGreatDoorRefP
import Derived.Lib.ParseIntB
import Derived.Lib.ItoaMem
namespace Go.Proofs.YticflknfkaoejaaGreatDoor
open Go.RowKit

theorem dec_of_digs (k : Nat) : ∀ l : List UInt8, l.length = k → l ≠ [] → (∀ c ∈ l, 48 ≤ c.toNat ∧ c.toNat ≤ 57) → l[0]? ≠ some 48 → Lib.decDigits (dv l 0) = l ∧ 1 ≤ dv l 0 := by
  induction k with
  | zero => intro l hl hne; exact absurd (List.eq_nil_of_length_eq_zero hl) hne
  | succ k ih =>
    intro l hl hne hd h0
    obtain ⟨r, c, rfl⟩ : ∃ r c, l = r ++ [c] := ⟨l.dropLast, l.getLast hne, (List.dropLast_concat_getLast hne).symm⟩
    have hc := hd c (by simp)
    have hrl : r.length = k := by simp at hl; omega
    have hch : UInt8.ofNat (48 + (c.toNat - 48)) = c := by
      rw [show 48 + (c.toNat - 48) = c.toNat by omega]; simp
    rw [dv_append]
    rcases r with _ | ⟨a, r⟩
    · simp only [dv, Nat.mul_zero, Nat.zero_add, List.nil_append]
      have hne48 : c.toNat ≠ 48 := fun e => h0 (by simp; exact UInt8.toNat_inj.1 (by rw [e]; rfl))
      refine ⟨?_, by omega⟩
      rw [Lib.decDigits_one (by omega), hch]
    · have h1 := ih (a :: r) hrl (by simp) (fun x hx => hd x (by simp at hx ⊢; rcases hx with h | h; exact .inl h; exact .inr (.inl h))) (by simpa using h0)
      generalize dv (a :: r) 0 = u at *
      refine ⟨?_, by omega⟩
      rw [Lib.decDigits, dif_neg (by omega), show (10 * u + (c.toNat - 48)) / 10 = u by omega, show (10 * u + (c.toNat - 48)) % 10 = c.toNat - 48 by omega, hch, h1.1]
theorem dec_digs (l : List UInt8) (h : Digs l) : Lib.decDigits (dv l 0) = l := by
  obtain ⟨h1, h2, h3, h4⟩ := h
  by_cases h0 : l[0]? = some 48
  · rcases h4 with h4 | h4
    · exact absurd h0 h4
    · rcases l with _ | ⟨a, r⟩
      · exact absurd rfl h1
      · rcases r with _ | ⟨b, r⟩
        · simp at h0
          subst h0
          simp only [dv]
          rw [Lib.decDigits_one (by decide)]; decide
        · simp at h4
  · exact (dec_of_digs l.length l rfl h1 h2 h0).1
theorem dec_length (k : Nat) : ∀ q, q < 10 ^ (k + 1) → (Lib.decDigits q).length ≤ k + 1 := by
  induction k with
  | zero => intro q hq; rw [Lib.decDigits_one (by simpa using hq)]; simp
  | succ k ih =>
    intro q hq
    rw [Lib.decDigits]
    split
    · simp
    · have := ih (q / 10) (Nat.div_lt_of_lt_mul (by rw [Nat.pow_succ] at hq; omega))
      simp; omega
theorem dec_head (q : Nat) (h : 1 ≤ q) : (Lib.decDigits q)[0]? ≠ some 48 := by
  induction q using Nat.strongRecOn with
  | ind q ih =>
    rw [Lib.decDigits]
    split
    · rename_i h9
      simp
      intro e
      have := congrArg UInt8.toNat e
      have hd : ∀ k, k < 10 → (UInt8.ofNat (48 + k)).toNat = 48 + k := by decide
      simp at this
      omega
    · have h1 := ih (q / 10) (by omega) (by omega)
      obtain ⟨_, _, h3, _⟩ := dec_props (q / 10)
      rw [List.getElem?_append_left (by omega)]
      exact h1
theorem digs_dec (q : Nat) (h : q < 1000000000000000) : Digs (Lib.decDigits q) := by
  obtain ⟨h1, h2, h3, _⟩ := dec_props q
  refine ⟨fun e => by rw [e] at h3; simp at h3, h1, dec_length 14 q (by simpa using h), ?_⟩
  by_cases h0 : q = 0
  · subst h0; right; rw [Lib.decDigits_one (by decide)]; rfl
  · exact .inl (dec_head q (by omega))

theorem uint_digs (m : Nat) (l : List UInt8) (a : Nat) (h : ∀ c ∈ l, 48 ≤ c.toNat ∧ c.toNat ≤ 57) (hb : dv l a < 1000000000000000) (hm : 10000000000000000 ≤ m) : Lib.parseUintM m a l = .ok (dv l a) := by
  induction l generalizing a with
  | nil => rfl
  | cons c l ih =>
    have hc := h c (by simp)
    have hg := dv_ge l (10 * a + (c.toNat - 48))
    rw [dv] at hb
    rw [dv, ← ih (10 * a + (c.toNat - 48)) (fun x hx => h x (by simp [hx])) hb]
    rw [Lib.parseUintM, if_pos hc, if_neg (by omega), if_neg (by omega), Nat.mul_comm a 10]

theorem parse_itoa (v : Int) (hv : v.natAbs < 1000000000000000) : Lib.parseIntB 64 (Lib.itoa v) = .ok v := by
  obtain ⟨h1, h2, h3, _⟩ := dec_props v.natAbs
  have hne : Lib.decDigits v.natAbs ≠ [] := fun e => by rw [e] at h3; simp at h3
  have hu : Lib.parseUintB 64 (Lib.decDigits v.natAbs) = .ok v.natAbs := by
    unfold Lib.parseUintB
    rw [if_neg hne, uint_digs _ _ _ h1 (by rw [h2]; exact hv) (by decide), h2]
  unfold Lib.itoa
  by_cases hn : v < 0
  · rw [if_pos hn]
    unfold Lib.parseIntB
    simp only
    rw [if_pos (by decide), hu]
    simp only
    rw [if_neg (by simp), if_neg (by have : (2 : Nat) ^ (64 - 1) = 9223372036854775808 := by decide
                                     rw [this]; omega), if_pos (by decide)]
    congr 1
    omega
  · rw [if_neg hn, show v.toNat = v.natAbs by omega]
    generalize hD : Lib.decDigits v.natAbs = D at *
    rcases D with _ | ⟨c, r⟩
    · exact absurd rfl hne
    · have hc := h1 c (by simp)
      unfold Lib.parseIntB
      simp only
      rw [if_neg (by omega), hu]
      simp only
      have h63 : (2 : Nat) ^ (64 - 1) = 9223372036854775808 := by decide
      rw [if_neg (by rw [h63]; omega), if_neg (by omega), if_neg (by omega)]
      congr 1
      omega

/-- What num's Parse makes of a text that is no name and no bits. -/
def ParseW (l : List UInt8) (o : Option Nat) : Prop :=
  (∃ v : Int, Lib.parseIntB 64 l = .ok v ∧ v.natAbs < 1000000000000000 ∧ Lib.itoa v = l ∧ o = some (fl v)) ∨ ((∀ v : Int, Lib.parseIntB 64 l = .ok v → v.natAbs < 1000000000000000 → Lib.itoa v ≠ l) ∧ o = none)

/-- The two readings are one. -/
theorem one_reading (neg : Bool) (l r : List UInt8) (hl : l = if neg then 45 :: r else r) (hneg : neg = false → r[0]? ≠ some 45) (hi : r ≠ [105, 110, 102]) (h0 : ¬ (neg = true ∧ r = [48])) : ∃ o, WholeR neg r o ∧ ParseW l o := by
  by_cases hD : Digs r
  · refine ⟨some (wb neg (dv r 0)), .inr (.inl ⟨hi, hD, rfl⟩), .inl ?_⟩
    have hq := digs_lt r hD
    have hdec := dec_digs r hD
    cases neg with
    | true =>
      rw [if_pos rfl] at hl
      have hq1 : 1 ≤ dv r 0 := by
        rcases Nat.eq_zero_or_pos (dv r 0) with e | e
        · rw [e, Lib.decDigits_one (by decide)] at hdec
          exact absurd ⟨rfl, hdec.symm⟩ h0
        · exact e
      refine ⟨-(dv r 0 : Int), ?_, by omega, ?_, ?_⟩
      · rw [hl]
        have := parse_itoa (-(dv r 0 : Int)) (by omega)
        rw [Lib.itoa_neg _ hq1, hdec] at this
        exact this
      · rw [Lib.itoa_neg _ hq1, hdec, hl]
      · rw [fl_small _ (by omega), show decide (-(dv r 0 : Int) < 0) = true from decide_eq_true (by omega), show (-(dv r 0 : Int)).natAbs = dv r 0 by omega]
    | false =>
      rw [if_neg (by decide)] at hl
      refine ⟨(dv r 0 : Int), ?_, by omega, ?_, ?_⟩
      · rw [hl]
        have := parse_itoa (dv r 0 : Int) (by omega)
        rw [Lib.itoa_nonneg, hdec] at this
        exact this
      · rw [Lib.itoa_nonneg, hdec, hl]
      · rw [fl_small _ (by omega), show decide ((dv r 0 : Int) < 0) = false from decide_eq_false (by omega), show ((dv r 0 : Int)).natAbs = dv r 0 by omega]
  · refine ⟨none, .inr (.inr ⟨hi, hD, rfl⟩), .inr ⟨fun v _ hv e => hD ?_, rfl⟩⟩
    unfold Lib.itoa at e
    by_cases hn : v < 0
    · rw [if_pos hn] at e
      cases neg with
      | true => rw [hl, if_pos rfl] at e; injection e with _ e2; rw [← e2]; exact digs_dec _ hv
      | false =>
        rw [hl, if_neg (by decide)] at e
        exact absurd (by rw [← e]; rfl) (hneg rfl)
    · rw [if_neg hn] at e
      have hg := digs_dec v.toNat (by omega)
      cases neg with
      | true =>
        rw [hl, if_pos rfl] at e
        have := hg.2.1 45 (by rw [e]; simp)
        exact absurd this.1 (by decide)
      | false => rw [hl, if_neg (by decide)] at e; rw [← e]; exact hg
end Go.Proofs.YticflknfkaoejaaGreatDoor
