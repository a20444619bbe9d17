/- Texts that came in, as the row's frame tells them; chains of codes. -/
import Derived.Test.YtnfpccmnifhflaaDoorTextsW
import Derived.SliceStrings
namespace Go.Proofs.YtnfpccmnifhflaaDoor
open Go.RowKit

/-- A row of texts that is read. -/
def StrsAt (w : World) (a : Option Addr) (n : Nat) (S : Nat → List UInt8) : Prop := ∀ i, i < n → ∃ b o, a = some ⟨b, o, none⟩ ∧ w.cell? ⟨b, o + i, none⟩ = some (.string (bs (S i)))
theorem StrsAt.on {w w' : World} {a : Option Addr} {n : Nat} {S : Nat → List UInt8} (h : StrsAt w a n S) (bl : Below w.heap.size w w') : StrsAt w' a n S := by
  intro i hi
  obtain ⟨xb, xo, e, c⟩ := h i hi
  exact ⟨xb, xo, e, (bl.cell (World.block_lt_of_cell? w _ c)).trans c⟩
theorem flat_addr {w : World} {x : Addr} {V : Nat → Value} {len : Nat} (hc : ∀ i, i < len → w.cell? (x.add i) = some (V i)) (k : Nat) (hk : k < len) : ∃ xb xo, x = ⟨xb, xo, none⟩ ∧ w.cell? ⟨xb, xo + k, none⟩ = some (V k) := by
  have c := hc k hk
  obtain ⟨xb, xo, sp⟩ := x
  cases sp with
  | none =>
    refine ⟨xb, xo, rfl, ?_⟩
    have hadd : (⟨xb, xo, none⟩ : Addr).add k = ⟨xb, xo + k, none⟩ := by unfold Addr.add; split <;> simp_all
    rw [hadd] at c; exact c
  | some q =>
    exfalso
    have c0 := hc 0 (by omega)
    have hadd : (⟨xb, xo, some q⟩ : Addr).add 0 = ⟨xb, xo, some q⟩ := by unfold Addr.add; split <;> simp_all
    rw [hadd] at c0
    simp only [World.cell?] at c0
    split at c0
    · simp at c0
    · simp at c0
section
variable {H : Type} {enc : TypeId × Value → H} {P : Program} {w : World} {base : Nat} {held : Bool}
theorem in_strs {t e : TypeId} {fuel : Nat} {a : Option Addr} {len cap : Nat} {x : DataW H × List MemPlace} (ht : P.underlying t = some (.slice e)) (he : P.underlying e = some .string)
    (ce : P.cellsOf e = 1) (h : DataW.trod enc P w base (fun _ => true) held fuel t [.slice a len cap] = some x) : ∃ S, StrsAt w a len S ∧ len ≤ maxLen := by
  rcases Go.ChangeShapes.open_strings ht he ce h with ⟨hcs, _⟩ | ⟨y, l, c, ss, hcs, _, hl, hm, hz, _, hcell, _⟩
  · simp at hcs
    obtain ⟨rfl, rfl, rfl⟩ := hcs
    exact ⟨fun _ => [], fun k hk => by omega, Nat.zero_le _⟩
  · simp at hcs
    obtain ⟨rfl, rfl, rfl⟩ := hcs
    simp only [if_true] at hz
    refine ⟨fun i => (ss.getD i ByteArray.empty).data.toList, fun k hk => ?_, Nat.le_trans hl hm⟩
    obtain ⟨xb, xo, rfl, h2⟩ := flat_addr (V := fun i => .string (ss.getD i ByteArray.empty)) (fun i (hi : i < len) => hcell i (by omega)) k hk
    refine ⟨xb, xo, rfl, ?_⟩
    rw [h2]
    rfl
end

/-- The codes of the first n. -/
def chs (A : Nat → List UInt8) (n : Nat) : List UInt8 := chain ((List.range n).map A)
theorem chs_succ (A : Nat → List UInt8) (n : Nat) : chs A (n + 1) = chs A n ++ code (A n) := by
  simp [chs, chain, List.range_succ]
theorem chs_cons (A : Nat → List UInt8) (n : Nat) : chs A (n + 1) = enc (A 0) ++ 0 :: 1 :: chs (fun j => A (j + 1)) n := by
  unfold chs
  rw [List.range_succ_eq_map, List.map_cons, chain_cons, List.map_map]
  rfl
theorem chs_split (A : Nat → List UInt8) (i : Nat) : ∀ n, chs A (i + n) = chs A i ++ chs (fun j => A (i + j)) n
  | 0 => by simp [chs, chain]
  | n + 1 => by rw [← Nat.add_assoc, chs_succ, chs_split A i n, chs_succ, List.append_assoc]
theorem chs_congr (A B : Nat → List UInt8) (n : Nat) (h : ∀ j, j < n → A j = B j) : chs A n = chs B n := by
  unfold chs
  congr 1
  exact List.map_congr_left fun i hi => h i (by simpa using hi)
theorem chs_len (A : Nat → List UInt8) : ∀ n, (∀ j, j < n → (A j).length ≤ 200) → (chs A n).length ≤ 402 * n
  | 0, _ => by simp [chs, chain]
  | n + 1, h => by
    have h1 := chs_len A n fun j hj => h j (by omega)
    have h2 := code_len (A n)
    have h3 := h n (by omega)
    rw [chs_succ, List.length_append]
    omega
theorem chs_at (A : Nat → List UInt8) (i n : Nat) (h : i < n) : chs A n = chs A i ++ (enc (A i) ++ 0 :: 1 :: chs (fun j => A (i + (j + 1))) (n - i - 1)) := by
  obtain ⟨q, rfl⟩ : ∃ q, n = i + (q + 1) := ⟨n - i - 1, by omega⟩
  rw [chs_split, chs_cons, show i + (q + 1) - i - 1 = q by omega]
  rfl
/-- They part at the i-th. -/
theorem chs_part (A B : Nat → List UInt8) (n m i : Nat) (h : ∀ j, j < i → A j = B j) (hn : i < n) (hm : i < m) (hl : A i < B i) : chs A n < chs B m := by
  rw [chs_at A i n hn, chs_at B i m hm, chs_congr A B i h, app_lt]
  exact (enc_lt _ _ _ _ (fun e => by rw [e] at hl; exact List.lt_irrefl _ hl)).2 hl
/-- One is done first. -/
theorem chs_short (A B : Nat → List UInt8) (n m : Nat) (h : ∀ j, j < n → A j = B j) (hm : n < m) : chs A n < chs B m := by
  rw [chs_at B n m hm, chs_congr A B n h]
  have : chs B n ++ [] < chs B n ++ (enc (B n) ++ 0 :: 1 :: chs (fun j => B (n + (j + 1))) (m - n - 1)) := by
    rw [app_lt]
    cases hx : enc (B n) with
    | nil => simp
    | cons c l => simp
  rwa [List.append_nil] at this
end Go.Proofs.YtnfpccmnifhflaaDoor
