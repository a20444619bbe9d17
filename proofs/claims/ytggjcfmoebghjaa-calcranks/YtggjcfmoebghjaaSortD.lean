/- A row of numbers that is put in order in place: two of them changed about. -/
import Derived.Test.YtggjcfmoebghjaaOwns
import Derived.Test.YtggjcfmoebghjaaSame
import Derived.BigRegion
import Derived.BigQuiet
namespace Go.Proofs.Ytggjcfmoebghjaa
open Go.RowKit

/-- The i-th number. -/
abbrev at_ (l : List Nat) (i : Nat) : Nat := l.getD i 0
/-- Two numbers changed about. -/
def swp (l : List Nat) (i j : Nat) : List Nat := (l.set i (at_ l j)).set j (at_ l i)
theorem swp_len (l : List Nat) (i j : Nat) : (swp l i j).length = l.length := by simp [swp]
theorem at_set (l : List Nat) (i k v : Nat) (hi : i < l.length) : at_ (l.set i v) k = if k = i then v else at_ l k := by
  unfold at_
  by_cases h : k = i
  · subst h; simp [hi]
  · rw [if_neg h]
    simp only [List.getD_eq_getElem?_getD, List.getElem?_set_ne (fun e => h e.symm)]
theorem swp_at (l : List Nat) (i j k : Nat) (hi : i < l.length) (hj : j < l.length) : at_ (swp l i j) k = if k = j then at_ l i else if k = i then at_ l j else at_ l k := by
  unfold swp
  rw [at_set _ _ _ _ (by simpa using hj), at_set _ _ _ _ hi]
theorem swp_perm (l : List Nat) (i j : Nat) (hi : i < l.length) (hj : j < l.length) : (swp l i j).Perm l := by
  unfold swp at_
  rw [List.getD_eq_getElem?_getD, List.getD_eq_getElem?_getD, List.getElem?_eq_getElem hi, List.getElem?_eq_getElem hj]
  exact List.set_set_perm hi hj

/-- Block g holds the row; nothing else that was there has turned. -/
structure Dat (w : World) (g : Nat) (l : List Nat) (wr : World) : Prop where
  cell : ∀ i, i < l.length → wr.cell? ⟨g, i, none⟩ = some (.float .f64 (at_ l i))
  fz : ∀ i, wr.frozen? ⟨g, i, none⟩ = false
  lt : ∀ i, i < l.length → at_ l i < 18446744073709551616
  gr : w.grownBy wr (some g)
theorem Dat.drew {w wr : World} {g : Nat} {l : List Nat} (h : Dat w g l wr) : Dat w g l wr.drew := ⟨h.cell, h.fz, h.lt, ⟨h.gr.os, h.gr.tape, h.gr.output, h.gr.size, h.gr.block⟩⟩
theorem Dat.drewN {w wr : World} {g : Nat} {l : List Nat} (h : Dat w g l wr) (n : Nat) : Dat w g l (wr.drewN n) := ⟨h.cell, h.fz, h.lt, ⟨h.gr.os, h.gr.tape, h.gr.output, h.gr.size, h.gr.block⟩⟩
theorem grown_trans {a b c : World} {r : Option Nat} (h : a.grownBy b r) (k : b.grownBy c r) : a.grownBy c r :=
  ⟨k.os.trans h.os, k.tape.trans h.tape, k.output.trans h.output, Nat.le_trans h.size k.size, fun i hi hne => (k.block i (Nat.lt_of_lt_of_le hi h.size) hne).trans (h.block i hi hne)⟩
theorem grown_setCell (w : World) (g i : Nat) (v : Value) : w.grownBy (w.setCell ⟨g, i, none⟩ v) (some g) :=
  ⟨rfl, rfl, rfl, by simp, fun k _ hne => Below.heap_setCell _ _ _ _ (fun e => hne (by rw [e]))⟩
theorem Dat.trans {w w1 w2 : World} {g : Nat} {l l' : List Nat} (h : Dat w g l w1) (k : Dat w1 g l' w2) : Dat w g l' w2 := ⟨k.cell, k.fz, k.lt, grown_trans h.gr k.gr⟩
theorem Dat.swap {w wr : World} {g : Nat} {l : List Nat} (h : Dat w g l wr) (i j : Nat) (hi : i < l.length) (hj : j < l.length) :
    Dat w g (swp l i j) ((wr.setCell ⟨g, i, none⟩ (.float .f64 (at_ l j))).setCell ⟨g, j, none⟩ (.float .f64 (at_ l i))) := by
  have ci := h.cell i hi
  have cj := h.cell j hj
  refine ⟨fun k hk => ?_, fun k => ?_, fun k hk => ?_, ?_⟩
  · rw [swp_len] at hk
    have ck := h.cell k hk
    rw [swp_at l i j k hi hj]
    have cj' : ∃ u, (wr.setCell ⟨g, i, none⟩ (.float .f64 (at_ l j))).cell? ⟨g, j, none⟩ = some u := by
      by_cases e : i = j
      · subst e; exact ⟨_, World.cell?_setCell_same _ _ _ ci⟩
      · exact ⟨_, (World.cell?_setCell_other _ _ _ _ (by simp)).trans cj⟩
    obtain ⟨u, hu⟩ := cj'
    by_cases e1 : k = j
    · subst e1; rw [if_pos rfl]; exact World.cell?_setCell_same _ _ _ hu
    · rw [if_neg e1, World.cell?_setCell_other _ _ _ _ (fun e => e1 (by injection e with _ e; exact e.symm))]
      by_cases e2 : k = i
      · subst e2; rw [if_pos rfl]; exact World.cell?_setCell_same _ _ _ ci
      · rw [if_neg e2, World.cell?_setCell_other _ _ _ _ (fun e => e2 (by injection e with _ e; exact e.symm))]; exact ck
  · rw [World.frozen?_setCell, World.frozen?_setCell]; exact h.fz k
  · rw [swp_len] at hk
    rw [swp_at l i j k hi hj]
    split
    · exact h.lt i hi
    · split
      · exact h.lt j hj
      · exact h.lt k hk
  · exact grown_trans h.gr (grown_trans (grown_setCell _ _ _ _) (grown_setCell _ _ _ _))
theorem store_float (w : World) (a : Addr) (x : Nat) (m : Mode) : (store a (.float .f64 x) m).run Try.prog w = stored Try.prog w a (.float .f64 x) m := run_store Try.prog w a _ m rfl

/-- So many numbers of two stretches changed about. -/
structure SwapR (a b n : Nat) (l l' : List Nat) : Prop where
  len : l'.length = l.length
  perm : l'.Perm l
  fst : ∀ t, t < n → at_ l' (a + t) = at_ l (b + t)
  snd : ∀ t, t < n → at_ l' (b + t) = at_ l (a + t)
  out : ∀ i, (i < a ∨ a + n ≤ i) → (i < b ∨ b + n ≤ i) → at_ l' i = at_ l i
theorem SwapR.step {a b n : Nat} {l l' : List Nat} (h : SwapR a b n l l') (hab : a + n < b) (hb : b + n < l.length) : SwapR a b (n + 1) l (swp l' (a + n) (b + n)) := by
  have h1 : a + n < l'.length := by rw [h.len]; omega
  have h2 : b + n < l'.length := by rw [h.len]; omega
  refine ⟨by rw [swp_len, h.len], (swp_perm _ _ _ h1 h2).trans h.perm, fun t ht => ?_, fun t ht => ?_, fun i hi hj => ?_⟩
  · rw [swp_at _ _ _ _ h1 h2, if_neg (by omega)]
    by_cases e : t = n
    · subst e; rw [if_pos rfl]; exact h.out _ (by omega) (by omega)
    · rw [if_neg (by omega)]; exact h.fst t (by omega)
  · rw [swp_at _ _ _ _ h1 h2]
    by_cases e : t = n
    · subst e; rw [if_pos rfl]; exact h.out _ (by omega) (by omega)
    · rw [if_neg (by omega), if_neg (by omega)]; exact h.snd t (by omega)
  · rw [swp_at _ _ _ _ h1 h2, if_neg (by omega), if_neg (by omega)]; exact h.out i (by omega) (by omega)

set_option maxRecDepth 100000 in
set_option maxHeartbeats 2000000 in
theorem swapRange_ok (g cap : Nat) (f : Value) (a b n : Nat) (l : List Nat) (w : World) (hab : a + n ≤ b) (hb : b + n ≤ l.length) (hl : l.length ≤ 1000) (hD : Dat w g l w) :
    Calls Try.prog 47 #[.slice (some ⟨g, 0, none⟩) l.length cap, .int .i64 a, .int .i64 b, .int .i64 n, f] w fun e w' => e = .returned (.tuple #[]) ∧ ∃ l', SwapR a b n l l' ∧ Dat w g l' w' := by
  have HD := hide hD
  clear hD
  go_enter Try.func47, Try.ntmps47
  go_wp2
  go_loopw [10] (fun vi wr => ∃ (k : Nat) (L : List Nat), k ≤ n ∧ vi = .int .i64 k ∧ SwapR a b k l L ∧ Dat w g L wr) (fun vi wr => n - (RowKit.intOf vi).toNat)
  case atStart => exact ⟨0, l, Nat.zero_le _, rfl, ⟨rfl, List.Perm.refl _, fun t ht => by omega, fun t ht => by omega, fun _ _ _ => rfl⟩, unhide HD⟩
  case round =>
    obtain ⟨k, L, hk, rfl, hS, hD⟩ := hrel
    by_cases hlt : k < n
    · have hlt' : (k : Int) < n := by omega
      have hlen := hS.len
      have c1 := hD.cell (a + k) (by omega)
      have c2 := hD.cell (b + k) (by omega)
      have z1 := hD.fz (a + k)
      have z2 := hD.fz (b + k)
      have hne : ¬ a + k = b + k := by omega
      have HN := hide (hS.step (by omega) (by omega))
      have HD2 := hide (hD.swap (a + k) (b + k) (by omega) (by omega)).drew
      have hst := store_float
      clear hS hD hlen
      generalize at_ L (a + k) = x at *
      generalize at_ L (b + k) = y at *
      go_wp2_with fail
      go_region
      go_wp2
      go_roundw
      case rel => exact ⟨k + 1, _, by omega, by go_num, unhide HN, unhide HD2⟩
      case measure => simp [RowKit.intOf]; omega
    · have hlt' : ¬ (k : Int) < n := by omega
      obtain rfl : k = n := by omega
      have HS := hide hS; have HD2 := hide hD
      clear hS hD
      go_wp2
      go_end0
      exact ⟨rfl, L, unhide HS, unhide HD2⟩
end Go.Proofs.Ytggjcfmoebghjaa
