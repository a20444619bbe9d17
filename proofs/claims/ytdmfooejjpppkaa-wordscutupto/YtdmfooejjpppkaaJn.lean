/- Parts joined: what they are as bytes, and Join. -/
import Derived.Test.YtdmfooejjpppkaaRp
namespace Go.Proofs.Ytdmfooejjpppkaa
open Go.RowKit

/-- Parts that came in. -/
def PartsAt (w : World) (a : Option Addr) (len : Nat) (A : Nat → Option Addr) (L C : Nat → Nat) (Z : Nat → Nat → Nat) : Prop :=
  ∀ k, k < len → (∃ xb xo, a = some ⟨xb, xo, none⟩ ∧ w.cell? ⟨xb, xo + k, none⟩ = some (.slice (A k) (L k) (C k))) ∧ Nats .u8 w (A k) (L k) (Z k) ∧ (∀ i, i < L k → Z k i < 256) ∧ (A k = none → L k = 0 ∧ C k = 0)
theorem PartsAt.on {w w' : World} {a : Option Addr} {len : Nat} {A : Nat → Option Addr} {L C : Nat → Nat} {Z : Nat → Nat → Nat} (h : PartsAt w a len A L C Z) (b : Below w.heap.size w w') : PartsAt w' a len A L C Z := by
  intro k hk
  obtain ⟨⟨xb, xo, e, c⟩, hN, hb, hn⟩ := h k hk
  exact ⟨⟨xb, xo, e, (b.cell (World.block_lt_of_cell? w _ c)).trans c⟩, hN.on b, hb, hn⟩

/-- A part behind its length. -/
def partL (L : Nat → Nat) (Z : Nat → Nat → Nat) (i : Nat) : List Nat := uvN (L i) ++ rowL (Z i) (L i)
def joinL (L : Nat → Nat) (Z : Nat → Nat → Nat) : Nat → List Nat
  | 0 => []
  | i + 1 => joinL L Z i ++ partL L Z i
/-- How many bytes a small length takes. -/
def ul (n : Nat) : Nat := if n < 128 then 1 else 2
def offL (L : Nat → Nat) : Nat → Nat
  | 0 => 0
  | i + 1 => offL L i + (ul (L i) + L i)
theorem ul_pos (n : Nat) : 1 ≤ ul n ∧ ul n ≤ 2 := by unfold ul; split <;> omega
theorem uv_two (n : Nat) (h1 : ¬ n < 128) (h2 : n < 16384) : uvN n = [n % 128 + 128, n / 128] := by rw [uv_hi n h1, uv_lo _ (by omega)]
theorem uv_ul (n : Nat) (h : n < 16384) : (uvN n).length = ul n := by
  unfold ul
  split
  · rename_i h1; rw [uv_lo n h1]; rfl
  · rename_i h1; rw [uv_two n h1 h]; rfl
theorem join_len (L : Nat → Nat) (Z : Nat → Nat → Nat) (n : Nat) (hL : ∀ i, i < n → L i < 16384) : (joinL L Z n).length = offL L n := by
  induction n with
  | zero => rfl
  | succ n ih => simp [joinL, offL, partL, ih (fun i hi => hL i (by omega)), uv_ul _ (hL n (by omega)), rowL_len]
theorem off_lt (L : Nat → Nat) (i j : Nat) (h : i < j) : offL L i < offL L j := by
  induction j with
  | zero => omega
  | succ j ih =>
    have := (ul_pos (L j)).1
    show offL L i < offL L j + (ul (L j) + L j)
    by_cases e : i = j
    · subst e; omega
    · have := ih (by omega); omega
theorem off_inj (L : Nat → Nat) (i j : Nat) (h : offL L i = offL L j) : i = j := by
  rcases Nat.lt_trichotomy i j with h1 | h1 | h1
  · have := off_lt L i j h1; omega
  · exact h1
  · have := off_lt L j i h1; omega
theorem join_part (L : Nat → Nat) (Z : Nat → Nat → Nat) (n i : Nat) (h : i < n) : ∃ rest, joinL L Z n = joinL L Z i ++ (partL L Z i ++ rest) := by
  induction n with
  | zero => omega
  | succ n ih =>
    by_cases e : i = n
    · subst e; exact ⟨[], by simp [joinL]⟩
    · obtain ⟨rest, hr⟩ := ih (by omega)
      exact ⟨rest ++ partL L Z n, by rw [joinL, hr]; simp⟩
/-- The bytes of the joined parts. -/
def joinF (L : Nat → Nat) (Z : Nat → Nat → Nat) (n : Nat) (t : Nat) : Nat := (joinL L Z n).getD t 0
theorem joinF_at (L : Nat → Nat) (Z : Nat → Nat → Nat) (n i : Nat) (h : i < n) (hL : ∀ i, i < n → L i < 16384) :
    (L i < 128 → joinF L Z n (offL L i) = L i) ∧ (¬ L i < 128 → joinF L Z n (offL L i) = L i % 128 + 128 ∧ joinF L Z n (offL L i + 1) = L i / 128) := by
  obtain ⟨rest, hr⟩ := join_part L Z n i h
  have hl := join_len L Z i (fun j hj => hL j (by omega))
  unfold joinF
  rw [hr]
  constructor
  · intro h1
    rw [List.getD_eq_getElem?_getD, List.getElem?_append_right (by omega), hl, Nat.sub_self, partL, uv_lo _ h1]
    simp
  · intro h1
    constructor
    · rw [List.getD_eq_getElem?_getD, List.getElem?_append_right (by omega), hl, Nat.sub_self, partL, uv_two _ h1 (hL i h)]
      simp
    · rw [List.getD_eq_getElem?_getD, List.getElem?_append_right (by omega), hl, show offL L i + 1 - offL L i = 1 by omega, partL, uv_two _ h1 (hL i h)]
      simp
theorem uv_lt (n : Nat) (h : n < 16384) : ∀ x ∈ uvN n, x < 256 := by
  by_cases h1 : n < 128
  · rw [uv_lo n h1]; simp; omega
  · rw [uv_two n h1 h]; simp; omega
theorem join_lt (L : Nat → Nat) (Z : Nat → Nat → Nat) (n : Nat) (hL : ∀ i, i < n → L i < 16384) (hZ : ∀ i, i < n → ∀ t, t < L i → Z i t < 256) : ∀ x ∈ joinL L Z n, x < 256 := by
  induction n with
  | zero => intro x hx; cases hx
  | succ n ih =>
    intro x hx
    rw [joinL, partL] at hx
    rcases List.mem_append.1 hx with h | h
    · exact ih (fun i hi => hL i (by omega)) (fun i hi => hZ i (by omega)) x h
    · rcases List.mem_append.1 h with h | h
      · exact uv_lt _ (hL n (by omega)) x h
      · simp [rowL] at h
        obtain ⟨t, ht, rfl⟩ := h
        exact hZ n (by omega) t ht
theorem joinF_lt (L : Nat → Nat) (Z : Nat → Nat → Nat) (n t : Nat) (hL : ∀ i, i < n → L i < 16384) (hZ : ∀ i, i < n → ∀ t, t < L i → Z i t < 256) : joinF L Z n t < 256 := by
  unfold joinF
  rw [List.getD_eq_getElem?_getD]
  cases h : (joinL L Z n)[t]? with
  | none => simp
  | some x => exact join_lt L Z n hL hZ x (List.mem_of_getElem? h)

set_option maxRecDepth 100000 in
set_option maxHeartbeats 2000000 in
theorem join_ok (a : Option Addr) (len cap : Nat) (A : Nat → Option Addr) (L C : Nat → Nat) (Z : Nat → Nat → Nat) (w : World) (hP : PartsAt w a len A L C Z) (hl : len ≤ 20) (hL : ∀ i, i < len → L i ≤ 3000) :
    Calls Try.prog 8 #[.slice a len cap] w fun e w' => ∃ v, e = .returned v ∧ More .u8 5 w w.heap.size v (joinL L Z len) w' := by
  have HP := hide hP
  have HL := hide hL
  have KN := hide number_ok
  have HLen := hide (show ∀ k, k ≤ len → (joinL L Z k).length ≤ 3010 * k by
    intro k hk
    rw [join_len L Z k (fun i hi => by have := hL i (by omega); omega)]
    induction k with
    | zero => exact Nat.le_refl _
    | succ k ih =>
      have h1 := ih (by omega)
      have h2 := hL k (by omega)
      have h3 := (ul_pos (L k)).2
      unfold offL; omega)
  clear hP hL
  go_enter Try.func8, Try.ntmps8
  go_wp2_with fail
  go_loopw [3, 8] (fun v vi wr => ∃ k : Nat, vi = .int .i64 k ∧ Hid (k ≤ len) ∧ Hid (OwnL .u8 5 wr w.heap.size v (joinL L Z k)) ∧ Hid (Below w.heap.size w wr)) (fun v vi wr => len - (RowKit.intOf vi).toNat)
  case atStart => exact ⟨0, rfl, hide (Nat.zero_le _), hide (OwnL.nil _ _ _ _), hide (Below.refl _ _)⟩
  case round =>
    obtain ⟨k, rfl, HK, HO, HB⟩ := hrel
    by_cases hlt : k < len
    · have hlt' : (k : Int) < len := by omega
      obtain ⟨⟨xb, xo, rfl, c⟩, hN, _, hnil⟩ := (unhide HP).on (unhide HB) k hlt
      have HNF := hide (show ∀ w2, Below w.heap.size w w2 → Nats .u8 w2 (A k) (L k) (Z k) from fun w2 h => ((unhide HP).on h k hlt).2.1)
      have HNI := hide hnil
      have hlk := unhide HL k hlt
      have HJ := hide (show joinL L Z (k + 1) = joinL L Z k ++ (uvN (L k) ++ rowL (Z k) (L k)) from rfl)
      have HJL := unhide HLen k (unhide HK)
      have HUL := hide (uv_len 9 (L k) (by omega))
      have KN1 := hide (unhide KN _ (joinL L Z k) (L k) wr w.heap.size (unhide HB).size (unhide HO) (by omega) (by omega))
      clear hN hnil
      generalize A k = ak at *
      generalize C k = ck at *
      generalize L k = lk at *
      generalize Z k = zk at *
      generalize joinL L Z k = J at *
      go_wp2_with fail
      refine (unhide KN1).mono ?_
      rintro e w2 ⟨v2, rfl, hM⟩
      have HB2 := hide ((unhide HB).trans hM.bel)
      have HO2 := hide hM.own
      have hbs : w.heap.size ≤ w2.heap.size := (unhide HB2).size
      clear hM
      go_wp2_with (at_builtin; refine append_row infoB (by decide) Try.underlying22 w2 rfl (.tmp 17) (.tmp 18) rfl w.heap.size _ (J ++ uvN lk) rfl (unhide HO2) ak lk ck zk rfl (unhide HNI) (unhide HNF w2 (unhide HB2)) ?len hbs ?_)
      case len =>
        have := unhide HUL
        simp only [List.length_append]
        omega
      intro v3 w3 hM
      have HM := hide hM
      clear hM
      go_wp2
      go_roundw
      case rel =>
        refine ⟨k + 1, by go_num, hide hlt, hide ?_, hide ((unhide HB2).trans (unhide HM).bel)⟩
        have := (unhide HM).own
        rw [unhide HJ]
        simpa using this
      case measure => simp [RowKit.intOf]; omega
    · have hlt' : ¬ (k : Int) < len := by omega
      obtain rfl : k = len := by have := unhide HK; omega
      go_wp2
      go_ret
      exact ⟨_, rfl, unhide HO, unhide HB⟩
end Go.Proofs.Ytdmfooejjpppkaa
