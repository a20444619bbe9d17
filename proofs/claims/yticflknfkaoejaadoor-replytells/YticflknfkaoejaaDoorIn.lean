/- What came in: slices of numbers and of bytes, rows of bytes, as the row's frame tells them. -/
import Derived.Test.YticflknfkaoejaaDoorYb
import Derived.Below
import Derived.Deep.Grids
import Derived.Deep.Matrix
namespace Go.Proofs.YticflknfkaoejaaDoor
open Go.RowKit

/-- A slice of bytes that is read. -/
structure Sl (w : World) (a : Option Addr) (n cap : Nat) (m : List UInt8) : Prop where
  len : n = m.length
  le : n ≤ cap
  rd : Rd w a m
  nil : a = none → cap = 0
  form : ∀ x, a = some x → 0 < cap → ∃ b o, x = ⟨b, o, none⟩
theorem Sl.empty {w : World} {a : Option Addr} {n cap : Nat} {m : List UInt8} (h : Sl w a n cap m) (e : a = none) : cap = 0 ∧ m = [] :=
  ⟨h.nil e, List.length_eq_zero_iff.1 (by have := h.nil e; have := h.le; have := h.len; omega)⟩
theorem Sl.on {w w' : World} {a : Option Addr} {n cap : Nat} {m : List UInt8} {F : Nat → Prop} (h : Sl w a n cap m) (f : Fr F w w') (hF : ∀ b o, a = some ⟨b, o, none⟩ → 0 < n → ¬ F b) : Sl w' a n cap m :=
  ⟨h.len, h.le, fun i hi => by
    obtain ⟨b, o, e, c⟩ := h.rd i hi
    exact ⟨b, o, e, f.cell' c (hF b o e (by rw [h.len]; omega))⟩, h.nil, h.form⟩
theorem Sl.still {w w' : World} {a : Option Addr} {n cap : Nat} {m : List UInt8} (h : Sl w a n cap m) (f : Still w w') : Sl w' a n cap m := h.on f fun _ _ _ _ x => x
theorem wf_u64 (a : Int) (h : (Lit.int .u64 a).wf = true) : ∃ n : Nat, a = n ∧ n < 18446744073709551616 := by
  simp [Lit.wf, IntKind.min, IntKind.max, IntKind.signed, IntKind.bits] at h
  exact ⟨a.toNat, by omega, by omega⟩
theorem wf_i64 (a : Int) (h : (Lit.int .i64 a).wf = true) : -9223372036854775808 ≤ a ∧ a ≤ 9223372036854775807 := by
  simp [Lit.wf, IntKind.min, IntKind.max, IntKind.signed, IntKind.bits] at h
  exact h
/-- A slice of numbers that came in: its first 'len' numbers. -/
def Nums (w : World) (a : Option Addr) (len : Nat) (zs : Nat → Int) : Prop := ∀ i, i < len → ∃ xb xo, a = some ⟨xb, xo, none⟩ ∧ w.cell? ⟨xb, xo + i, none⟩ = some (.int .i64 (zs i))
/-- It is nil; or it leads to a row of 'cap' cells, the numbers 'zs'. -/
def IsRow (k : IntKind) (w : World) (a : Option Addr) (len cap : Nat) (zs : List Int) : Prop :=
  (a = none ∧ len = 0 ∧ cap = 0 ∧ zs = []) ∨
  ∃ x, a = some x ∧ len ≤ cap ∧ cap ≤ maxLen ∧ zs.length = cap ∧ (∀ i, i < zs.length → w.cell? (x.add i) = some (.int k (zs.getD i 0))) ∧ ∀ n ∈ zs, (Lit.int k n).wf = true

theorem IsRow.nums {w : World} {a : Option Addr} {len cap : Nat} {zs : List Int} (h : IsRow .i64 w a len cap zs) : Nums w a len (fun k => zs.getD k 0) ∧ len ≤ maxLen := by
  rcases h with ⟨_, rfl, _, _⟩ | ⟨x, rfl, hl, hm, hz, hc, _⟩
  · exact ⟨fun k hk => by omega, Nat.zero_le _⟩
  · refine ⟨fun k hk => ?_, Nat.le_trans hl hm⟩
    have c := hc k (by omega)
    obtain ⟨xb, xo, sp⟩ := x
    cases sp with
    | none =>
      refine ⟨xb, xo, rfl, ?_⟩
      have hadd : (⟨xb, xo, none⟩ : Addr).add k = ⟨xb, xo + k, none⟩ := by unfold Addr.add; split <;> simp_all
      rw [hadd] at c; exact c
    | some q =>
      exfalso
      have c0 := hc 0 (by omega)
      have hadd : (⟨xb, xo, some q⟩ : Addr).add 0 = ⟨xb, xo, some q⟩ := by unfold Addr.add; split <;> simp_all
      rw [hadd] at c0
      simp only [World.cell?] at c0
      split at c0
      · simp at c0
      · simp at c0
theorem IsRow.bound {w : World} {a : Option Addr} {len cap : Nat} {zs : List Int} (h : IsRow .i64 w a len cap zs) : ∀ k, k < len → zs.getD k 0 < 9223372036854775808 := by
  intro k hk
  rcases h with ⟨_, rfl, _, _⟩ | ⟨x, rfl, hl, hm, hz, hc, hw⟩
  · omega
  · have hm : zs.getD k 0 ∈ zs := by
      rw [List.getD_eq_getElem?_getD, List.getElem?_eq_getElem (by omega)]
      exact List.getElem_mem _
    have := wf_i64 _ (hw _ hm)
    omega
theorem wf_u8 (a : Int) (h : (Lit.int .u8 a).wf = true) : ∃ n : Nat, a = n ∧ n < 256 := by
  simp [Lit.wf, IntKind.min, IntKind.max, IntKind.signed, IntKind.bits] at h
  exact ⟨a.toNat, by omega, by omega⟩
/-- The bytes that a row of numbers tells. -/
def byt (zs : List Int) (n : Nat) : List UInt8 := (zs.take n).map fun z => UInt8.ofNat z.toNat
theorem byt_len (zs : List Int) (n : Nat) (h : n ≤ zs.length) : (byt zs n).length = n := by simp [byt]; omega
theorem IsRow.sl {w : World} {a : Option Addr} {len cap : Nat} {zs : List Int} (h : IsRow .u8 w a len cap zs) : Sl w a len cap (byt zs len) ∧ len ≤ maxLen := by
  rcases h with ⟨rfl, rfl, rfl, rfl⟩ | ⟨x, rfl, hl, hm, hz, hc, hw⟩
  · exact ⟨⟨rfl, Nat.le_refl _, Rd.nil _ _, (fun _ => rfl), fun x e => by cases e⟩, Nat.zero_le _⟩
  · have hx : ∀ i, i < len → ∃ b o, x = ⟨b, o, none⟩ ∧ w.cell? ⟨b, o + i, none⟩ = some (.int .u8 (zs.getD i 0)) := fun i hi => by
      have c := hc i (by omega)
      obtain ⟨xb, xo, sp⟩ := x
      cases sp with
      | none =>
        refine ⟨xb, xo, rfl, ?_⟩
        have hadd : (⟨xb, xo, none⟩ : Addr).add i = ⟨xb, xo + i, none⟩ := by unfold Addr.add; split <;> simp_all
        rw [hadd] at c; exact c
      | some q =>
        exfalso
        have c0 := hc 0 (by omega)
        have hadd : (⟨xb, xo, some q⟩ : Addr).add 0 = ⟨xb, xo, some q⟩ := by unfold Addr.add; split <;> simp_all
        rw [hadd] at c0
        simp only [World.cell?] at c0
        split at c0
        · simp at c0
        · simp at c0
    have hfo : 0 < cap → ∃ b o, x = ⟨b, o, none⟩ := fun h0 => by
      have c0 := hc 0 (by omega)
      obtain ⟨xb, xo, sp⟩ := x
      cases sp with
      | none => exact ⟨xb, xo, rfl⟩
      | some q =>
        exfalso
        have hadd : (⟨xb, xo, some q⟩ : Addr).add 0 = ⟨xb, xo, some q⟩ := by unfold Addr.add; split <;> simp_all
        rw [hadd] at c0
        simp only [World.cell?] at c0
        split at c0
        · simp at c0
        · simp at c0
    refine ⟨⟨(byt_len zs len (by omega)).symm, hl, fun i hi => ?_, (fun e => by cases e), fun y e h0 => by cases e; exact hfo h0⟩, Nat.le_trans hl hm⟩
    rw [byt_len zs len (by omega)] at hi
    obtain ⟨b, o, rfl, c⟩ := hx i hi
    refine ⟨b, o, rfl, ?_⟩
    have hin : zs.getD i 0 ∈ zs := by
      rw [List.getD_eq_getElem?_getD, List.getElem?_eq_getElem (by omega)]
      exact List.getElem_mem _
    obtain ⟨n, e, hn⟩ := wf_u8 _ (hw _ hin)
    have e2 : (byt zs len).getD i 0 = UInt8.ofNat n := by
      unfold byt
      rw [List.getD_eq_getElem?_getD, List.getElem?_map, List.getElem?_take_of_lt hi, List.getElem?_eq_getElem (by omega)]
      rw [List.getD_eq_getElem?_getD, List.getElem?_eq_getElem (by omega)] at e
      simp only [Option.getD_some] at e
      simp [e]
    rw [c, e2, e]
    simp [bv, Nat.mod_eq_of_lt hn]
theorem flat_addr {w : World} {x : Addr} {V : Nat → Value} {len : Nat} (hc : ∀ i, i < len → w.cell? (x.add i) = some (V i)) (k : Nat) (hk : k < len) : ∃ xb xo, x = ⟨xb, xo, none⟩ ∧ w.cell? ⟨xb, xo + k, none⟩ = some (V k) := by
  have c := hc k hk
  obtain ⟨xb, xo, sp⟩ := x
  cases sp with
  | none =>
    refine ⟨xb, xo, rfl, ?_⟩
    have hadd : (⟨xb, xo, none⟩ : Addr).add k = ⟨xb, xo + k, none⟩ := by unfold Addr.add; split <;> simp_all
    rw [hadd] at c; exact c
  | some q =>
    exfalso
    have c0 := hc 0 (by omega)
    have hadd : (⟨xb, xo, some q⟩ : Addr).add 0 = ⟨xb, xo, some q⟩ := by unfold Addr.add; split <;> simp_all
    rw [hadd] at c0
    simp only [World.cell?] at c0
    split at c0
    · simp at c0
    · simp at c0

/-- A row of rows of bytes that came in. -/
def PartsAt (w : World) (a : Option Addr) (len : Nat) (A : Nat → Option Addr) (L C : Nat → Nat) (Z : Nat → List UInt8) : Prop :=
  ∀ k, k < len → (∃ xb xo, a = some ⟨xb, xo, none⟩ ∧ w.cell? ⟨xb, xo + k, none⟩ = some (.slice (A k) (L k) (C k))) ∧ Sl w (A k) (L k) (C k) (Z k) ∧ L k ≤ maxLen
section
variable {H : Type} {enc : TypeId × Value → H} {P : Program} {w : World} {base : Nat} {held : Bool}
theorem in_parts {t e q : TypeId} {fuel : Nat} {a : Option Addr} {len cap : Nat} {x : DataW H × List MemPlace} (ht : P.underlying t = some (.slice e)) (he : P.underlying e = some (.slice q)) (hq : P.underlying q = some (.int .u8))
    (ce : P.cellsOf e = 1) (cq : P.cellsOf q = 1) (h : DataW.trod enc P w base (fun _ => true) held fuel t [.slice a len cap] = some x) : ∃ A L C Z, PartsAt w a len A L C Z ∧ len ≤ maxLen := by
  rcases Go.Deep.open_int_rows ht he hq ce cq h with ⟨hcs, _⟩ | ⟨y, l, c, A, L, C, Z, hcs, _, hl, hm, _, hcell⟩
  · simp at hcs
    obtain ⟨rfl, rfl, rfl⟩ := hcs
    exact ⟨fun _ => none, fun _ => 0, fun _ => 0, fun _ => [], fun k hk => by omega, Nat.zero_le _⟩
  · simp at hcs
    obtain ⟨rfl, rfl, rfl⟩ := hcs
    refine ⟨A, L, C, fun k => byt (Z k) (L k), fun k hk => ?_, Nat.le_trans hl hm⟩
    obtain ⟨xb, xo, rfl, h2⟩ := flat_addr (V := fun i => .slice (A i) (L i) (C i)) (fun i (hi : i < len) => (hcell i (by omega)).1) k hk
    obtain ⟨_, r1, r2, r3, r4, r5, r6⟩ := hcell k (by omega)
    have hrow : IsRow .u8 w (A k) (L k) (C k) (Z k) := by
      cases ha : A k with
      | none =>
        have hc0 := r5 ha
        exact .inl ⟨rfl, by omega, hc0, List.length_eq_zero_iff.1 (by omega)⟩
      | some y => exact .inr ⟨y, rfl, r1, r2, r3, fun i hi => (r6 y ha).2 i (by omega), r4⟩
    exact ⟨⟨xb, xo, rfl, h2⟩, hrow.sl.1, hrow.sl.2⟩
end
end Go.Proofs.YticflknfkaoejaaDoor
