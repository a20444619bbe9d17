/- Feed, Skip, Payload. -/
import Derived.Test.YtpidfndcihljmabYf
import Derived.Test.YtpidfndcihljmabRt
namespace Go.Proofs.Ytpidfndcihljmab
open Go.RowKit

theorem Fm.cells {w : World} {f : Nat} {g : Option Nat} {l : List UInt8} {lv : Bool} {sk N : Nat} (h : Fm w f g l lv sk N) : ∃ va n vc, ∃ t : Nat, (w.cell? ⟨f, 0, none⟩ = some (.slice va n vc) ∧ w.cell? ⟨f, 1, none⟩ = some (iv t) ∧ w.cell? ⟨f, 2, none⟩ = some (.bool lv) ∧ w.cell? ⟨f, 3, none⟩ = some (iv sk)) ∧ ∀ i, w.frozen? ⟨f, i, none⟩ = false := by
  obtain ⟨⟨v, cur, t, h1, h2, h3, h4, h5, h6⟩, h7⟩ := h
  obtain ⟨va, vc, rfl⟩ := rows_form h2
  exact ⟨va, _, vc, t, ⟨cell_of_obj h1 0, cell_of_obj h1 1, cell_of_obj h1 2, cell_of_obj h1 3⟩, fun i => frozen_of_obj h1 i⟩
/-- Its third or fourth cell turned. -/
theorem Fm.setLv {w : World} {f : Nat} {g : Option Nat} {l : List UInt8} {lv : Bool} {sk N : Nat} (h : Fm w f g l lv sk N) (b : Bool) : Fx w (w.setCell ⟨f, 2, none⟩ (.bool b)) f g l b sk N g := by
  obtain ⟨⟨v, cur, t, h1, h2, h3, h4, h5, h6⟩, h7⟩ := h
  refine ⟨⟨⟨v, cur, t, ?_, ?_, h3, h4, h5, h6⟩, h7⟩, (Fr.refl _ w).setCell (.inl (.inl rfl)) _, Ng.refl _ _⟩
  · rw [obj_set h1]; rfl
  · exact h2.still ((Fr.refl (fun k => k = f) w).setCell (.inl rfl) _) (fun k hk e => h7 (by rw [← h3, hk, e]))
theorem Fm.setSk {w : World} {f : Nat} {g : Option Nat} {l : List UInt8} {lv : Bool} {sk N : Nat} (h : Fm w f g l lv sk N) (s : Nat) : Fx w (w.setCell ⟨f, 3, none⟩ (iv s)) f g l lv s N g := by
  obtain ⟨⟨v, cur, t, h1, h2, h3, h4, h5, h6⟩, h7⟩ := h
  refine ⟨⟨⟨v, cur, t, ?_, ?_, h3, h4, h5, h6⟩, h7⟩, (Fr.refl _ w).setCell (.inl (.inl rfl)) _, Ng.refl _ _⟩
  · rw [obj_set h1]; rfl
  · exact h2.still ((Fr.refl (fun k => k = f) w).setCell (.inl rfl) _) (fun k hk e => h7 (by rw [← h3, hk, e]))

/-- How many bytes a payload of k takes. -/
def plN (l : List UInt8) (k : Nat) : Nat := if l.getD k 0 = 10 then k + 1 else k
set_option maxRecDepth 100000 in
set_option maxHeartbeats 2000000 in
theorem payload_ok {w : World} {f : Nat} {g : Option Nat} {l : List UInt8} {lv : Bool} {sk N : Nat} (h : Fm w f g l lv sk N) (hN : N ≤ 100000000) (n : Int) :
    Calls Try.prog 8 #[ptr f, iv n] w fun e w' => (l.length ≤ n.toNat → e = .returned (.tuple #[.slice none 0 0, .bool false]) ∧ Fx w w' f g l lv sk N g) ∧
      (n.toNat < l.length → ∃ a cap g', e = .returned (.tuple #[.slice a n.toNat cap, .bool true]) ∧ Rd w' a (l.take n.toNat) ∧ Fx w w' f g (l.drop (plN l n.toNat)) lv sk N g' ∧ ∀ b o, a = some ⟨b, o, none⟩ → w.heap.size ≤ b) := by
  have H := hide h
  have hlen := h.len
  obtain ⟨m, hm⟩ : ∃ m, l.length = m := ⟨_, rfl⟩
  have HM := hide hm
  have hle : m ≤ 100000000 := by omega
  have KW := hide (waits_ok h hN)
  clear h hlen
  obtain ⟨k, hk⟩ : ∃ k, n.toNat = k := ⟨_, rfl⟩
  have HMAX := hide (show max n 0 = (k : Int) by omega)
  rw [hk]
  clear hk
  clear hm
  go_enter Try.func8, Try.ntmps8
  go_wp2_with fail
  refine (unhide KW).mono ?_
  rintro e w' ⟨a, cap, q, rfl, rfl, k1, k2, k3, k4⟩
  rw [unhide HMAX]
  rw [unhide HM]
  clear KW HMAX
  by_cases h1 : m ≤ k
  · have h1' : (m : Int) ≤ k := by omega
    have HH := hide h1
    clear h1 k1 k2 k3 k4
    go_wp2_with fail
    go_ret2
    refine ⟨fun _ => ⟨rfl, ?_⟩, fun h => ?_⟩
    · have hx := Fx.refl ((unhide H).drewN q)
      exact ⟨hx.fm, (Fr.refl _ w).drewN q, Ng.refl _ _⟩
    · have := unhide HH; have := unhide HM; omega
  · have h1' : ¬ (m : Int) ≤ k := by omega
    have hkm : (k : Int) < m := by omega
    have HH := hide (show k < m by omega)
    clear h1
    obtain ⟨b, o, e, c0⟩ := k2 k (by have := unhide HH; have := unhide HM; omega)
    subst e
    have hs := slice_to (some ⟨b, o, none⟩) m cap k .i64 (w.drewN q) (by have := unhide HH; have := unhide HM; omega)
    have K5 := hide (clone_ok (w := w.drewN q) (some ⟨b, o, none⟩) k cap (l.take k) (by rw [List.length_take]; have := unhide HH; have := unhide HM; omega) (k2.take k) (fun e => by cases e) (fun x e => by cases e; exact ⟨b, o, rfl⟩) (by have := unhide HH; omega))
    obtain ⟨x, hx⟩ : ∃ x, l.getD k 0 = x := ⟨_, rfl⟩
    rw [hx] at c0
    have HX := hide hx
    clear k1 k2 k3 k4 hx
    go_wp2_with fail
    refine (unhide K5).mono ?_
    rintro e w1 ⟨v', rfl, k6, k7⟩
    obtain ⟨a2, cap2, hv', j1, j2, j3, j4, j5⟩ := k6.rd
    have hlt : (l.take k).length = k := by rw [List.length_take]; have := unhide HH; have := unhide HM; omega
    rw [hlt] at hv'
    subst hv'
    have c1 : w1.cell? ⟨b, o + k, none⟩ = some (bv x) := k7.cell' c0 (fun h => h)
    have F1 : Fm w1 f g l lv sk N := ((unhide H).drewN q).still k7
    have hne : ∀ k9, g = some k9 → k9 < w.heap.size := (unhide H).lt.2
    have hfl : f < w.heap.size := (unhide H).lt.1
    have KZ := hide (fun j (hj : j ≤ l.length) => take_ok F1 hN j hj)
    have HR := hide (show ∀ w3, Fr (fb f g) w1 w3 → Rd w3 a2 (l.take k) from fun w3 r => j2.on r (fun b9 o9 e => by
      intro h
      have hb := (j3 b9 o9 e).1
      have hb' : w.heap.size ≤ b9 := hb
      rcases h with h | h
      · omega
      · have := hne b9 h; omega))
    have HJ3 := hide (show ∀ b o, a2 = some ⟨b, o, none⟩ → w.heap.size ≤ b from fun b9 o9 e => (j3 b9 o9 e).1)
    have HW := hide (show Fx w w1 f g l lv sk N g from ⟨F1, ⟨k7.os, k7.tape, k7.output, k7.size, fun k9 h9 _ => k7.block k9 h9 (fun h => h)⟩, Ng.refl _ _⟩)
    clear K5 k6 k7 j1 j2 j3 j4 j5 hne hfl F1 c0
    by_cases he : x = 10
    · have he' := eq8 x 10 10 rfl he
      have HT := hide (unhide KZ (k + 1) (by have := unhide HH; have := unhide HM; omega))
      have HE := hide he
      clear KZ he
      go_wp2_with fail
      rw [show (k : Int) + 1 = ((k + 1 : Nat) : Int) by omega]
      refine (unhide HT).mono ?_
      rintro e w3 ⟨rfl, g', hx⟩
      have HY := hide hx
      clear HT hx
      go_wp2_with fail
      go_ret2
      refine ⟨fun h => ?_, fun _ => ⟨a2, cap2, g', rfl, unhide HR _ (unhide HY).fr, ?_, unhide HJ3⟩⟩
      · have := unhide HH; have := unhide HM; omega
      · rw [show plN l k = k + 1 by unfold plN; rw [unhide HX, if_pos (unhide HE)]]
        exact (unhide HW).trans (unhide HY)
    · have he' := ne8 x 10 10 rfl he
      have HT := hide (unhide KZ k (by have := unhide HH; have := unhide HM; omega))
      have HE := hide he
      clear KZ he
      go_wp2_with fail
      refine (unhide HT).mono ?_
      rintro e w3 ⟨rfl, g', hx⟩
      have HY := hide hx
      clear HT hx
      go_wp2_with fail
      go_ret2
      refine ⟨fun h => ?_, fun _ => ⟨a2, cap2, g', rfl, unhide HR _ (unhide HY).fr, ?_, unhide HJ3⟩⟩
      · have := unhide HH; have := unhide HM; omega
      · rw [show plN l k = k by unfold plN; rw [unhide HX, if_neg (unhide HE)]]
        exact (unhide HW).trans (unhide HY)
end Go.Proofs.Ytpidfndcihljmab
