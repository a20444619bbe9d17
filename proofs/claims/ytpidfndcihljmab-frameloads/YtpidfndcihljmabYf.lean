/- Line. -/
import Derived.Test.YtpidfndcihljmabYe
namespace Go.Proofs.Ytpidfndcihljmab
open Go.RowKit

set_option maxRecDepth 100000 in
set_option maxHeartbeats 2000000 in
theorem takeLine_ok {w : World} {f : Nat} {g : Option Nat} {l : List UInt8} {lv : Bool} {sk N : Nat} (h : Fm w f g l lv sk N) (hN : N ≤ 100000000) :
    Calls Try.prog 13 #[ptr f] w fun e w' => e = .returned (.tuple #[]) ∧ ∃ g', (nl l < l.length → Fx w w' f g (l.drop (nl l + 1)) lv sk N g') ∧ (¬ nl l < l.length → Fx w w' f g [] true sk N g') := by
  have H := hide h
  have KW := hide (waits_ok h hN)
  have hlen := h.len
  obtain ⟨n, hn⟩ : ∃ n, l.length = n := ⟨_, rfl⟩
  have HN := hide hn
  have hle : n ≤ 100000000 := by omega
  have hnl := nl_le l
  rw [hn] at hnl
  clear h hlen hn
  go_enter Try.func13, Try.ntmps13
  go_wp2_with fail
  refine (unhide KW).mono ?_
  rintro e w' ⟨a, cap, q, rfl, rfl, k1, k2, k3, k4⟩
  rw [unhide HN]
  have K5 := hide (index_ok (w := w.drewN q) a n cap l (unhide HN).symm k2 k3 (fun x e => (k4 x e).imp fun b => .imp fun o h => h.1))
  clear k1 k2 k3 k4 KW
  by_cases hj : nl l < n
  · have HJ := hide hj
    have HT := hide (take_ok ((unhide H).drewN q) hN (nl l + 1) (by have := unhide HN; omega))
    rw [unhide HN, if_pos hj] at K5
    generalize hjj : nl l = j at *
    have HE := hide hjj
    clear hjj
    go_wp2_with fail
    refine (unhide K5).mono ?_
    rintro e w1 ⟨rfl, rfl⟩
    clear K5
    have hp : (0 : Int) ≤ j := by omega
    go_wp2_with fail
    rw [show (j : Int) + 1 = ((j + 1 : Nat) : Int) by omega]
    refine (unhide HT).mono ?_
    rintro e w2 ⟨rfl, g', hx⟩
    have HX := hide hx
    clear HT hx
    go_wp2_with fail
    go_end0
    have he := unhide HE
    subst he
    exact ⟨rfl, g', fun _ => ⟨(unhide HX).fm, ⟨(unhide HX).fr.os, (unhide HX).fr.tape, (unhide HX).fr.output, (unhide HX).fr.size, (unhide HX).fr.block⟩, (unhide HX).ng⟩, fun h => absurd (by rw [unhide HN]; exact unhide HJ) h⟩
  · have HJ := hide hj
    rw [unhide HN, if_neg hj] at K5
    obtain ⟨⟨v, cur, t, h1, h2, h3, h4, h5, h6⟩, h7⟩ := unhide H
    obtain ⟨w1, hw1⟩ : ∃ w1, w1 = (w.drewN q).setCell ⟨f, 2, none⟩ (.bool true) := ⟨_, rfl⟩
    have r1 : Fr (fb f g) w w1 := by rw [hw1]; exact ((Fr.refl _ w).drewN q).setCell (.inl (.inl rfl)) _
    have F1 : Fm w1 f g l true sk N := by
      rw [hw1]
      refine ⟨⟨v, cur, t, ?_, ?_, h3, h4, h5, h6⟩, h7⟩
      · rw [obj_set (w := w.drewN q) h1]; rfl
      · exact h2.still (((Fr.refl (fun k => k = f) w).drewN q).setCell (.inl rfl) _) (fun k hk e => h7 (by rw [← h3, hk, e]))
    have c2 : (w.drewN q).cell? ⟨f, 2, none⟩ = some (.bool lv) := cell_of_obj h1 2
    have z2 : (w.drewN q).frozen? ⟨f, 2, none⟩ = false := frozen_of_obj h1 2
    have HW := hide hw1
    have HR := hide r1
    have KT := hide (waiting_ok F1 hN)
    have KZ := hide (fun q => take_ok (F1.drewN q) hN l.length (Nat.le_refl _))
    rw [unhide HN] at KT KZ
    clear h1 h2 h3 h4 h5 h6 h7 r1 F1 hw1
    go_wp2_with fail
    refine (unhide K5).mono ?_
    rintro e w2 ⟨rfl, rfl⟩
    clear K5
    go_wp2_with fail
    rw [← unhide HW]
    clear HW c2 z2
    refine (unhide KT).mono ?_
    rintro e w2 ⟨rfl, q2, rfl⟩
    go_wp2_with fail
    refine (unhide KZ q2).mono ?_
    rintro e w2 ⟨rfl, g', hx⟩
    have HX := hide hx
    clear KZ hx
    go_wp2_with fail
    refine bodyPost_ret (results_none rfl _ _ _) rfl ?_
    refine ⟨rfl, g', fun h => absurd (by rw [← unhide HN]; exact h) (unhide HJ), fun _ => ?_⟩
    have hx := unhide HX
    have hl : l.drop n = [] := by rw [← unhide HN]; simp
    have h2 : Fx w1 w2 f g [] true sk N g' := ⟨hl ▸ hx.fm, ⟨hx.fr.os, hx.fr.tape, hx.fr.output, hx.fr.size, hx.fr.block⟩, hx.ng⟩
    exact ⟨h2.fm, (unhide HR).trans h2.fr, (Ng.refl w g).trans h2.ng (unhide HR).size⟩

/-- What Line tells of what waits; what then waits, and whether a line is left out. -/
def lineR (l : List UInt8) (lv : Bool) : (List UInt8 × Bool × Nat) × List UInt8 × Bool :=
  if nl l < l.length then if eol l ≤ 256 then ((l.take (eol l), true, 0), l.drop (nl l + 1), lv) else (([], false, 2), l.drop (nl l + 1), lv)
  else if 258 ≤ l.length then (([], false, 2), [], true) else (([], false, 0), l, lv)
theorem eol_le (l : List UInt8) : eol l ≤ nl l ∧ nl l ≤ eol l + 1 := by
  rcases eol_of l with ⟨_, _, e⟩ | ⟨_, e⟩ <;> omega

set_option maxRecDepth 100000 in
set_option maxHeartbeats 2000000 in
theorem line_ok {w : World} {f : Nat} {g : Option Nat} {l : List UInt8} {lv : Bool} {sk N : Nat} (h : Fm w f g l lv sk N) (hN : N ≤ 100000000) :
    Calls Try.prog 7 #[ptr f] w fun e w' => e = .returned (.tuple #[.string (bs (lineR l lv).1.1), .bool (lineR l lv).1.2.1, iv (lineR l lv).1.2.2]) ∧ ∃ g', Fx w w' f g (lineR l lv).2.1 (lineR l lv).2.2 sk N g' := by
  have H := hide h
  have KW := hide (waits_ok h hN)
  have hlen := h.len
  obtain ⟨n, hn⟩ : ∃ n, l.length = n := ⟨_, rfl⟩
  have HN := hide hn
  have hle : n ≤ 100000000 := by omega
  clear h hlen hn
  go_enter Try.func7, Try.ntmps7
  go_wp2_with fail
  refine (unhide KW).mono ?_
  rintro e w' ⟨a, cap, q, rfl, rfl, k1, k2, k3, k4⟩
  rw [unhide HN]
  have KE := hide (lineEnd_ok (w := w.drewN q) a n cap l (unhide HN).symm k2 hle)
  have KT := hide (takeLine_ok ((unhide H).drewN q) hN)
  have K2 := hide k2
  have hcap : n ≤ cap := by rw [← unhide HN]; exact k1
  clear k1 k2 k3 k4 KW
  go_wp2_with fail
  refine (unhide KE).mono ?_
  rintro e w' ⟨m, F, rfl, rfl, hc⟩
  have HC := hide hc
  clear KE
  have out : ∀ w2 g', Fx (w.drewN q) w2 f g (lineR l lv).2.1 (lineR l lv).2.2 sk N g' → Fx w w2 f g (lineR l lv).2.1 (lineR l lv).2.2 sk N g' := fun w2 g' hx => ⟨hx.fm, ⟨hx.fr.os, hx.fr.tape, hx.fr.output, hx.fr.size, hx.fr.block⟩, hx.ng⟩
  have OUT := hide out
  clear out
  by_cases hA : F = true ∧ m ≤ 256
  · obtain ⟨rfl, hm⟩ := hA
    have hm' : (m : Int) ≤ 256 := by omega
    rcases hc with ⟨_, c1, c2, c3⟩ | ⟨e, _⟩
    rotate_left
    · cases e
    have hmn : m ≤ n := by have := eol_le l; have := unhide HN; omega
    have HR := hide (show lineR l lv = ((l.take (eol l), true, 0), l.drop (nl l + 1), lv) by unfold lineR; rw [if_pos c1, if_pos (by omega)])
    have hs := slice_to a n cap m .i64 (w.drewN q) (by omega)
    have hv := conv_rd (w.drewN q) a m cap (l.take m) (by rw [List.length_take, unhide HN]; omega) ((unhide K2).take m)
    have H3 := hide c3; have H1 := hide c1
    clear c1 c2 c3 hm HC
    go_wp2_with fail
    refine (unhide KT).mono ?_
    rintro e w2 ⟨rfl, g', hx, _⟩
    have HX := hide (hx (unhide H1))
    clear hx
    go_wp2_with fail
    go_ret3
    have h3 := unhide H3
    subst h3
    refine ⟨by rw [unhide HR]; rfl, g', ?_⟩
    have := unhide OUT w2 g'
    rw [unhide HR] at this ⊢
    exact this (unhide HX)
  · by_cases hB : F = true ∨ 258 ≤ n
    · have HR : (nl l < l.length → lineR l lv = (([], false, 2), l.drop (nl l + 1), lv)) ∧ (¬ nl l < l.length → lineR l lv = (([], false, 2), [], true)) := by
        unfold lineR
        refine ⟨fun h1 => ?_, fun h1 => ?_⟩
        · rw [if_pos h1, if_neg]
          intro h2
          rcases hc with ⟨c0, _, _, c3⟩ | ⟨c0, _, c3⟩
          · exact hA ⟨c0, by omega⟩
          · have := eol_le l
            apply c3
            omega
        · have : F = false := by
            rcases hc with ⟨_, c1, _⟩ | ⟨c0, _⟩
            · exact absurd c1 h1
            · exact c0
          rw [if_neg h1, if_pos]
          rcases hB with h2 | h2
          · rw [this] at h2; cases h2
          · have := unhide HN; omega
      have HR := hide HR
      have hgo : ∀ w2 g', (nl l < l.length → Fx (w.drewN q) w2 f g (l.drop (nl l + 1)) lv sk N g') → (¬ nl l < l.length → Fx (w.drewN q) w2 f g [] true sk N g') → lineR l lv = (([], false, 2), (lineR l lv).2.1, (lineR l lv).2.2) ∧ Fx (w.drewN q) w2 f g (lineR l lv).2.1 (lineR l lv).2.2 sk N g' := fun w2 g' x1 x2 => by
        by_cases h1 : nl l < l.length
        · rw [(unhide HR).1 h1]; exact ⟨rfl, x1 h1⟩
        · rw [(unhide HR).2 h1]; exact ⟨rfl, x2 h1⟩
      have HG := hide hgo
      clear hgo HR
      cases F with
      | true =>
        have hm' : ¬ (m : Int) ≤ 256 := by have : ¬ m ≤ 256 := fun h => hA ⟨rfl, h⟩; omega
        clear hA hB hc HC
        go_wp2_with fail
        refine (unhide KT).mono ?_
        rintro e w2 ⟨rfl, g', hx, hy⟩
        have HX := hide (unhide HG w2 g' hx hy)
        clear hx hy
        go_wp2_with fail
        go_ret3
        have hx := unhide HX
        refine ⟨by rw [hx.1]; rfl, g', unhide OUT w2 g' hx.2⟩
      | false =>
        have hm' : (258 : Int) ≤ n := by rcases hB with h | h; cases h; omega
        clear hA hB hc HC
        go_wp2_with fail
        refine (unhide KT).mono ?_
        rintro e w2 ⟨rfl, g', hx, hy⟩
        have HX := hide (unhide HG w2 g' hx hy)
        clear hx hy
        go_wp2_with fail
        go_ret3
        have hx := unhide HX
        refine ⟨by rw [hx.1]; rfl, g', unhide OUT w2 g' hx.2⟩
    · have hF : F = false := by cases F with | true => exact absurd (Or.inl rfl) hB | false => rfl
      subst hF
      have hn8 : ¬ 258 ≤ n := fun h => hB (.inr h)
      have hn' : ¬ (258 : Int) ≤ n := by omega
      have HR := hide (show lineR l lv = (([], false, 0), l, lv) by
        unfold lineR
        rcases hc with ⟨c0, _⟩ | ⟨_, _, c3⟩
        · cases c0
        · have := nl_le l
          have := unhide HN
          rw [if_neg (by omega), if_neg (by omega)])
      clear hA hB hc HC hn8
      go_wp2_with fail
      go_ret3
      refine ⟨by rw [unhide HR]; rfl, g, unhide OUT _ g ?_⟩
      rw [unhide HR]
      exact Fx.refl ((unhide H).drewN q)
end Go.Proofs.Ytpidfndcihljmab
