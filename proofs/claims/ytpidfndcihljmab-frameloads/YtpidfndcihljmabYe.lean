/- What of a Framer is taken. -/
import Derived.Test.YtpidfndcihljmabYd
namespace Go.Proofs.Ytpidfndcihljmab
open Go.RowKit

/-- The blocks of a Framer. -/
def fb (f : Nat) (g : Option Nat) (k : Nat) : Prop := k = f ∨ g = some k
/-- Its row's block is as it was, or new. -/
def Ng (w : World) (g g' : Option Nat) : Prop := ∀ k, g' = some k → g = some k ∨ w.heap.size ≤ k
theorem Ng.refl (w : World) (g : Option Nat) : Ng w g g := fun _ h => .inl h
theorem Ng.trans {w w1 : World} {g g1 g2 : Option Nat} (h : Ng w g g1) (k : Ng w1 g1 g2) (hs : w.heap.size ≤ w1.heap.size) : Ng w g g2 := fun j hj => by
  rcases k j hj with h1 | h1
  · exact h j h1
  · exact .inr (by omega)
/-- What a call of a Framer leaves. -/
structure Fx (w w' : World) (f : Nat) (g : Option Nat) (l : List UInt8) (lv : Bool) (sk N : Nat) (g' : Option Nat) : Prop where
  fm : Fm w' f g' l lv sk N
  fr : Fr (fb f g) w w'
  ng : Ng w g g'
theorem Fx.refl {w : World} {f : Nat} {g : Option Nat} {l : List UInt8} {lv : Bool} {sk N : Nat} (h : Fm w f g l lv sk N) : Fx w w f g l lv sk N g := ⟨h, Fr.refl _ _, Ng.refl _ _⟩
theorem Fx.trans {w w1 w2 : World} {f : Nat} {g g1 g2 : Option Nat} {l l2 : List UInt8} {lv lv2 : Bool} {sk N sk2 N2 : Nat} (h : Fx w w1 f g l lv sk N g1) (k : Fx w1 w2 f g1 l2 lv2 sk2 N2 g2) : Fx w w2 f g l2 lv2 sk2 N2 g2 :=
  ⟨k.fm, h.fr.trans' k.fr (fun j hj => by
    rcases hj with e | e
    · exact .inl (.inl e)
    · rcases h.ng j e with h1 | h1
      · exact .inl (.inr h1)
      · exact .inr h1), h.ng.trans k.ng h.fr.size⟩
theorem Fm.drewN {w : World} {f : Nat} {g : Option Nat} {l : List UInt8} {lv : Bool} {sk N : Nat} (h : Fm w f g l lv sk N) (n : Nat) : Fm (w.drewN n) f g l lv sk N :=
  h.on ((Fr.refl (fun _ => False) w).drewN n) (fun x => x) fun _ _ x => x
theorem Fm.still {w w' : World} {f : Nat} {g : Option Nat} {l : List UInt8} {lv : Bool} {sk N : Nat} (h : Fm w f g l lv sk N) (r : Still w w') : Fm w' f g l lv sk N :=
  h.on r (fun x => x) fun _ _ x => x
/-- bytes.Clone at a row that is read. -/
theorem clone_ok {w : World} (a : Option Addr) (n cap : Nat) (l : List UInt8) (hn : n = l.length) (h : Rd w a l) (ha : a = none → cap = 0 ∧ l = []) (hx : ∀ x, a = some x → ∃ b o, x = ⟨b, o, none⟩) (hl : n ≤ 100000000) :
    Calls Try.prog 14 #[.slice a n cap] w fun e w' => ∃ v', e = .returned v' ∧ Own w' w.heap.size v' l ∧ Still w w' := by
  subst hn
  cases a with
  | none =>
    obtain ⟨rfl, rfl⟩ := ha rfl
    exact (Try.bytes_Clone_nil _ _ w).mono fun e w' h => ⟨_, h.1, Own.nil _ _, by rw [h.2]; exact Fr.refl _ _⟩
  | some x =>
    obtain ⟨b, o, rfl⟩ := hx x rfl
    refine (Try.bytes_Clone_at ⟨b, o, none⟩ l.length cap (l.map fun c => (c.toNat : Int)) w (by simp) (by omega) (fun i hi => ?_)).mono fun e w' h => ?_
    · obtain ⟨_, _, e, c⟩ := h i hi
      cases e
      have hadd : (⟨b, o, none⟩ : Addr).add i = ⟨b, o + i, none⟩ := by unfold Addr.add; split <;> simp_all
      rw [hadd, c]
      simp [hi]
    · obtain ⟨v', h1, h2, _, h4⟩ := h
      refine ⟨v', h1, ?_, Fr.ofBelow h4⟩
      have e : (l.map fun c => (c.toNat : Int)).map (Value.int .u8) = l.map bv := by simp [bv]
      rw [e] at h2
      exact h2
/-- The four cells of a Framer turned one by one. -/
theorem obj_set {w : World} {f : Nat} {cs : Array Value} {t : Nat} (h : w.heap[f]? = some (.cells cs t)) (i : Nat) (u : Value) : (w.setCell ⟨f, i, none⟩ u).heap[f]? = some (.cells (cs.setIfInBounds i u) t) := by
  simp [World.setCell, Array.getElem?_modify, h]

set_option maxRecDepth 100000 in
set_option maxHeartbeats 2000000 in
theorem take_ok {w : World} {f : Nat} {g : Option Nat} {l : List UInt8} {lv : Bool} {sk N : Nat} (h : Fm w f g l lv sk N) (hN : N ≤ 100000000) (n : Nat) (hn : n ≤ l.length) :
    Calls Try.prog 15 #[ptr f, iv n] w fun e w' => e = .returned (.tuple #[]) ∧ ∃ g', Fx w w' f g (l.drop n) lv sk N g' := by
  obtain ⟨⟨v, cur, t, h1, h2, h3, h4, h5, h6⟩, h7⟩ := h
  obtain ⟨va, vc, rfl⟩ := rows_form h2
  have hlen : l.length = cur.length - t := by rw [h5, List.length_drop]
  have ht : t + n ≤ 100000000 := by omega
  have c1 : w.cell? ⟨f, 1, none⟩ = some (iv t) := cell_of_obj h1 1
  have z1 := frozen_of_obj h1 1
  obtain ⟨w1, hw1⟩ : ∃ w1, w1 = w.setCell ⟨f, 1, none⟩ (iv ((t : Int) + n)) := ⟨_, rfl⟩
  have o1 : w1.heap[f]? = some (.cells #[.slice va cur.length vc, iv ((t + n : Nat) : Int), .bool lv, iv sk] 36) := by rw [hw1, obj_set h1]; rfl
  have r1 : Fr (fb f g) w w1 := by rw [hw1]; exact (Fr.refl _ w).setCell (.inl (.inl rfl)) _
  have q1 : Own w1 0 (.slice va cur.length vc) cur := by
    rw [hw1]
    exact h2.still ((Fr.refl (fun k => k = f) w).setCell (.inl rfl) _) (fun k hk e => h7 (by rw [← h3, hk, e]))
  have F1 : Fm w1 f g (l.drop n) lv sk N := ⟨⟨_, cur, t + n, o1, q1, h3, by omega, by rw [h5, List.drop_drop], h6⟩, h7⟩
  have d1 : ∀ q, (w1.drewN q).cell? ⟨f, 1, none⟩ = some (iv ((t + n : Nat) : Int)) := fun _ => cell_of_obj o1 1
  have HW := hide hw1
  have HF1 := hide F1
  have HR1 := hide r1
  have HO1 := hide o1
  have KW := hide (fun q => waiting_ok (F1.drewN q) hN)
  have hl : (l.drop n).length ≤ 100000000 := by have := F1.len; omega
  generalize hm : (l.drop n).length = m at *
  have HM := hide hm
  have hv := hide h3
  have hd := hide h7
  clear h1 h2 h3 h4 h5 h6 h7 F1 r1 q1 o1 hw1 hm
  go_enter Try.func15, Try.ntmps15
  go_wp2_with fail
  rw [← unhide HW]
  go_quiet (first | (go_at_call 9; exact Calls.quiet_of (unhide KW _)))
  clear d1 KW HW
  obtain ⟨w2, hw2⟩ : ∃ w2, w2 = w1.drewN nq := ⟨_, rfl⟩
  rw [← hw2]
  have F2 : Fm w2 f g (l.drop n) lv sk N := by rw [hw2]; exact (unhide HF1).drewN _
  have R2 := hide (show Fr (fb f g) w w2 by rw [hw2]; exact (unhide HR1).drewN _)
  have O2 : w2.heap[f]? = some (.cells #[.slice va cur.length vc, iv ((t + n : Nat) : Int), .bool lv, iv sk] 36) := by rw [hw2]; exact unhide HO1
  have KW := hide (fun q => waits_ok (F2.drewN q) hN)
  clear hw2 HF1 HR1 HO1 w1
  by_cases hge : m ≤ t + n
  · have hge' : (m : Int) ≤ (t : Int) + n := by omega
    have HF2 := hide F2; have HO2 := hide O2
    clear F2 O2
    go_wp2_with fail
    refine (unhide KW 0).mono ?_
    rintro e w' ⟨a, cap, q, rfl, rfl, k1, k2, k3, k4⟩
    rw [unhide HM]
    have K5 := hide (clone_ok (w := (w2.drewN 0).drewN q) a m cap (l.drop n) (unhide HM).symm k2 k3 (fun x e => (k4 x e).imp fun b => .imp fun o h => h.1) hl)
    clear k1 k2 k3 k4 KW
    go_wp2_with fail
    refine (unhide K5).mono ?_
    rintro e w3 ⟨v', rfl, k6, k7⟩
    clear K5
    obtain ⟨pa, pc, hv'⟩ := rows_form k6
    rw [unhide HM] at hv'
    subst hv'
    have O3 : w3.heap[f]? = some (.cells #[.slice va cur.length vc, iv ((t + n : Nat) : Int), .bool lv, iv sk] 36) := k7.obj (unhide HO2) (fun x => x)
    have e0 : w3.cell? ⟨f, 0, none⟩ = some (.slice va cur.length vc) := cell_of_obj O3 0
    have z0 := frozen_of_obj O3 0
    have e1 : (w3.setCell ⟨f, 0, none⟩ (.slice pa m pc)).cell? ⟨f, 1, none⟩ = some (iv ((t + n : Nat) : Int)) := cell_of_obj (obj_set O3 0 (.slice pa m pc)) 1
    have z1 := frozen_of_obj (obj_set O3 0 (.slice pa m pc)) 1
    have K := hide (And.intro O3 (And.intro k6 k7))
    clear O3 k6 k7
    go_wp2_with fail
    go_end0
    obtain ⟨O3, k6, k7⟩ := unhide K
    have hs : w2.heap.size ≤ w3.heap.size := k7.size
    have hf : f < w2.heap.size := (unhide HF2).lt.1
    have hb : ∀ k, (Value.slice pa m pc).ownBlock = some k → w2.heap.size ≤ k := fun k hk => (k6.lt k hk).1
    have hne : ∀ k, (Value.slice pa m pc).ownBlock = some k → k ≠ f := fun k hk e => by have := hb k hk; omega
    have hwl : (l.drop n).length ≤ N := (unhide HF2).len
    refine ⟨by trivial, (Value.slice pa m pc).ownBlock, ⟨⟨_, l.drop n, 0, ?_, ?_, rfl, Nat.zero_le _, rfl, hwl⟩, fun e => hne f e rfl⟩, ?_, fun k hk => .inr (Nat.le_trans (unhide R2).size (hb k hk))⟩
    · rw [obj_set (obj_set O3 0 (.slice pa m pc)) 1]; rfl
    · exact (k6.from (Nat.zero_le _)).still (((Fr.refl (fun k => k = f) w3).setCell (.inl rfl) _).setCell (.inl rfl) _) (fun k hk => hne k hk)
    · have k8 : Still w2 w3 := ⟨k7.os, k7.tape, k7.output, k7.size, k7.block⟩
      exact ((unhide R2).trans' (G := fun _ => False) k8 (fun _ h => h.elim)).setCell (.inl (.inl rfl)) _ |>.setCell (.inl (.inl rfl)) _
  · have hge' : ¬ (m : Int) ≤ (t : Int) + n := by omega
    have HF2 := hide F2
    clear F2 O2 KW
    go_wp2_with fail
    go_end0
    exact ⟨rfl, g, unhide HF2, unhide R2, Ng.refl _ _⟩
end Go.Proofs.Ytpidfndcihljmab
