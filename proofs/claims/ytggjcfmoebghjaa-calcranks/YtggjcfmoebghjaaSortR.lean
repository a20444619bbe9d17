/- Two stretches beside each other, turned about. -/
import Derived.Test.YtggjcfmoebghjaaSortD
namespace Go.Proofs.Ytggjcfmoebghjaa
open Go.RowKit

/-- What lay from m on lies from a on, and what lay from a on behind it. -/
structure Rot (a m b : Nat) (l l' : List Nat) : Prop where
  len : l'.length = l.length
  perm : l'.Perm l
  fst : ∀ t, t < b - m → at_ l' (a + t) = at_ l (m + t)
  snd : ∀ t, t < m - a → at_ l' (a + (b - m) + t) = at_ l (a + t)
  out : ∀ i, (i < a ∨ b ≤ i) → at_ l' i = at_ l i
theorem Rot.l {m i j : Nat} {L L' l' : List Nat} (h : SwapR (m - i) m j L L') (hij : j < i) (hi : i ≤ m) (k : Rot (m - (i - j)) m (m + j) L' l') : Rot (m - i) m (m + j) L l' := by
  refine ⟨k.len.trans h.len, k.perm.trans h.perm, fun t ht => ?_, fun t ht => ?_, fun p hp => ?_⟩
  · rw [k.out _ (by omega)]; exact h.fst t (by omega)
  · by_cases c : t < j
    · have e := k.fst t (by omega)
      rw [show m - i + (m + j - m) + t = m - (i - j) + t by omega, e]; exact h.snd t c
    · have e := k.snd (t - j) (by omega)
      rw [show m - i + (m + j - m) + t = m - (i - j) + (m + j - m) + (t - j) by omega, e, h.out _ (by omega) (by omega), show m - (i - j) + (t - j) = m - i + t by omega]
  · rw [k.out _ (by omega), h.out _ (by omega) (by omega)]
theorem Rot.r {m i j : Nat} {L L' l' : List Nat} (h : SwapR (m - i) (m + j - i) i L L') (hij : i < j) (hi : i ≤ m) (k : Rot (m - i) m (m + (j - i)) L' l') : Rot (m - i) m (m + j) L l' := by
  refine ⟨k.len.trans h.len, k.perm.trans h.perm, fun t ht => ?_, fun t ht => ?_, fun p hp => ?_⟩
  · by_cases c : t < j - i
    · rw [k.fst t (by omega), h.out _ (by omega) (by omega)]
    · have e := k.snd (t - (j - i)) (by omega)
      rw [show m - i + t = m - i + (m + (j - i) - m) + (t - (j - i)) by omega, e, h.fst _ (by omega), show m + j - i + (t - (j - i)) = m + t by omega]
  · rw [k.out _ (by omega), show m - i + (m + j - m) + t = m + j - i + t by omega]; exact h.snd t (by omega)
  · rw [k.out _ (by omega), h.out _ (by omega) (by omega)]
theorem Rot.last {m i : Nat} {L L' : List Nat} (h : SwapR (m - i) m i L L') (hi : i ≤ m) : Rot (m - i) m (m + i) L L' := by
  refine ⟨h.len, h.perm, fun t ht => h.fst t (by omega), fun t ht => ?_, fun p hp => h.out p (by omega) (by omega)⟩
  rw [show m - i + (m + i - m) + t = m + t by omega]; exact h.snd t (by omega)

theorem Dat.here {w wr : World} {g : Nat} {l : List Nat} (h : Dat w g l wr) : Dat wr g l wr := ⟨h.cell, h.fz, h.lt, ⟨rfl, rfl, rfl, Nat.le_refl _, fun _ _ _ => rfl⟩⟩

set_option maxRecDepth 100000 in
set_option maxHeartbeats 2000000 in
theorem rotate_ok (g cap : Nat) (f : Value) (a m b : Nat) (l : List Nat) (w : World) (ham : a < m) (hmb : m < b) (hb : b ≤ l.length) (hl : l.length ≤ 1000) (hD : Dat w g l w) :
    Calls Try.prog 46 #[.slice (some ⟨g, 0, none⟩) l.length cap, .int .i64 a, .int .i64 m, .int .i64 b, f] w fun e w' => e = .returned (.tuple #[]) ∧ ∃ l', Rot a m b l l' ∧ Dat w g l' w' := by
  have HD := hide hD
  clear hD
  go_enter Try.func46, Try.ntmps46
  go_wp2
  go_loopw [10, 11] (fun vi vj wr => ∃ (i j : Nat) (L : List Nat), vi = .int .i64 i ∧ vj = .int .i64 j ∧ Hid (0 < i ∧ 0 < j ∧ i ≤ m ∧ m + j ≤ l.length ∧ L.length = l.length ∧ ∀ l', Rot (m - i) m (m + j) L l' → Rot a m b l l') ∧ Dat w g L wr) (fun vi vj wr => (RowKit.intOf vi).toNat + (RowKit.intOf vj).toNat)
  case atStart => exact ⟨m - a, b - m, l, by go_num, by go_num, hide ⟨by omega, by omega, by omega, by omega, rfl, fun l' h => by rw [show m - (m - a) = a by omega, show m + (b - m) = b by omega] at h; exact h⟩, unhide HD⟩
  case round =>
    obtain ⟨i, j, L, rfl, rfl, HI, hD⟩ := hrel
    obtain ⟨i0, j0, im, jl, hlen, hR⟩ := unhide HI
    have HDh := hide hD
    by_cases hij : i = j
    · subst hij
      have K := swapRange_ok g cap f (m - i) m i L wr (by omega) (by omega) (by omega) hD.here
      rw [hlen] at K
      have HK := hide K
      have HR := hide hR
      have e1 : (((m - i : Nat)) : Int) = (m : Int) - i := by omega
      rw [e1] at HK
      clear HI hR hD K e1
      go_wp2_with fail
      refine (unhide HK).mono ?_
      rintro e w' ⟨rfl, L', hS, hD'⟩
      have HE := hide (unhide HR L' (Rot.last hS im))
      have HD2 := hide ((unhide HDh).trans hD')
      clear hS hD'
      go_wp2
      go_end0
      exact ⟨rfl, L', unhide HE, unhide HD2⟩
    · have hij' : ((i : Int) == (j : Int)) = false := by simpa using fun h => hij (by omega)
      by_cases hlt : j < i
      · have hlt' : ((j : Int) < (i : Int)) = True := by simp; omega
        have K := swapRange_ok g cap f (m - i) m j L wr (by omega) (by omega) (by omega) hD.here
        rw [hlen] at K
        have HK := hide K
        have HR := hide hR
        have e1 : (((m - i : Nat)) : Int) = (m : Int) - i := by omega
        rw [e1] at HK
        clear HI hR hD K e1
        go_wp2_with fail
        refine (unhide HK).mono ?_
        rintro e w' ⟨rfl, L', hS, hD'⟩
        have HE := hide (show 0 < i - j ∧ 0 < j ∧ i - j ≤ m ∧ m + j ≤ l.length ∧ L'.length = l.length ∧ ∀ l', Rot (m - (i - j)) m (m + j) L' l' → Rot a m b l l' from ⟨by omega, j0, by omega, jl, hS.len.trans hlen, fun l' h => unhide HR l' (Rot.l hS hlt im h)⟩)
        have HD2 := hide ((unhide HDh).trans hD')
        clear hS hD'
        go_wp2
        go_roundw
        case rel => exact ⟨i - j, j, L', by go_num, rfl, unhide HE, unhide HD2⟩
        case measure => simp [RowKit.intOf]; omega
      · have hlt' : ((j : Int) < (i : Int)) = False := by simp; omega
        have K := swapRange_ok g cap f (m - i) (m + j - i) i L wr (by omega) (by omega) (by omega) hD.here
        rw [hlen] at K
        have HK := hide K
        have HR := hide hR
        have e1 : (((m - i : Nat)) : Int) = (m : Int) - i := by omega
        have e2 : (((m + j - i : Nat)) : Int) = (m : Int) + j - i := by omega
        rw [e1, e2] at HK
        clear HI hR hD K e1 e2
        go_wp2_with fail
        refine (unhide HK).mono ?_
        rintro e w' ⟨rfl, L', hS, hD'⟩
        have HE := hide (show 0 < i ∧ 0 < j - i ∧ i ≤ m ∧ m + (j - i) ≤ l.length ∧ L'.length = l.length ∧ ∀ l', Rot (m - i) m (m + (j - i)) L' l' → Rot a m b l l' from ⟨i0, by omega, im, by omega, hS.len.trans hlen, fun l' h => unhide HR l' (Rot.r hS (by omega) im h)⟩)
        have HD2 := hide ((unhide HDh).trans hD')
        clear hS hD'
        go_wp2
        go_roundw
        case rel => exact ⟨i, j - i, L', rfl, by go_num, unhide HE, unhide HD2⟩
        case measure => simp [RowKit.intOf]; omega
end Go.Proofs.Ytggjcfmoebghjaa
