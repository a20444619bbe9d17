/- drain: all lines that are there, as a text. -/
import Derived.Test.YtpidfndcihljmaaAu
namespace Go.Proofs.Ytpidfndcihljmaa
open Go.RowKit

/-- What is told, as a text. -/
def tx : List (Option (List UInt8)) → List UInt8
  | [] => []
  | some s :: o => s ++ 10 :: tx o
  | none :: o => [108, 111, 110, 103, 10] ++ tx o
theorem tx_app (a b : List (Option (List UInt8))) : tx (a ++ b) = tx a ++ tx b := by
  induction a with
  | nil => rfl
  | cons x a ih =>
    cases x with
    | none => simp only [List.cons_append, tx, ih, List.nil_append]
    | some s => simp only [List.cons_append, tx, ih, List.append_assoc]
set_option maxRecDepth 100000 in
set_option maxHeartbeats 2000000 in
theorem drain_ok {w : World} {f : Nat} {g : Option Nat} {l : List UInt8} {lv : Bool} {sk N : Nat} (h : Fm w f g l lv sk N) (hN : N ≤ 100000000) (hl : l.length ≤ 3999) (hlv : lv = true → l = []) :
    Calls Try.prog 20 #[ptr f] w fun e w' => e = .returned (.string (bs (tx (runA [] lv l).1))) ∧ ∃ g', Fx w w' f g (runA [] lv l).2.1 (runA [] lv l).2.2 sk N g' ∧ Dry (runA [] lv l).2.1 (runA [] lv l).2.2 ∧ (tx (runA [] lv l).1).length ≤ 262 * l.length := by
  have H := hide h
  have HLV := hide hlv
  have HL := hide hl
  clear h hlv hl
  go_enter Try.func20, Try.ntmps20
  go_wp2_with fail
  go_loopw [3, 4] (fun s i wr => ∃ (k : Nat) (S l1 : List UInt8) (lv1 : Bool) (g1 : Option Nat), s = .string (bs S) ∧ i = iv k ∧ Hid (k + l1.length ≤ l.length ∧ S.length ≤ 262 * k ∧ Fx w wr f g l1 lv1 sk N g1 ∧ (lv1 = true → l1 = []) ∧ S ++ tx (runA [] lv1 l1).1 = tx (runA [] lv l).1 ∧ (runA [] lv1 l1).2 = (runA [] lv l).2)) (fun s i wr => 4000 - (RowKit.intOf i).toNat)
  case atStart => exact ⟨0, [], l, lv, g, rfl, rfl, hide ⟨by omega, by simp, Fx.refl (unhide H), unhide HLV, by simp, rfl⟩⟩
  case round =>
    obtain ⟨k, S, l1, lv1, g1, rfl, rfl, HI⟩ := hrel
    obtain ⟨i1, i2, i3, i4, i5, i6⟩ := unhide HI
    have hk : (k : Int) < 4000 := by have := unhide HL; omega
    obtain ⟨s, ok, c, l', lv', e1, e2, e3⟩ := lineA l1 lv1 i4
    have KL := hide (line_ok i3.fm hN)
    rw [e1] at KL
    have hSl : S.length ≤ 1047738 := by have := unhide HL; omega
    rcases e3 with ⟨rfl, rfl, rfl, rfl, rfl, hd⟩ | ⟨hlt, ⟨rfl, rfl, hs, hr⟩ | ⟨rfl, rfl, rfl, hr⟩⟩
    · rw [hd.self] at i5 i6
      have hS : S = tx (runA [] lv l).1 := by rw [← i5]; simp [tx]
      have hi6 : (runA [] lv l).2 = (l', lv') := i6.symm
      have HS := hide (And.intro hS (And.intro hi6 (And.intro hd (And.intro i3 (And.intro i2 i1)))))
      clear HI i1 i2 i3 i4 i5 i6 hd hS hi6 e1 e2
      go_wp2_with fail
      refine (unhide KL).mono ?_
      rintro e w2 ⟨rfl, g2, x2⟩
      have HX := hide x2
      clear x2 KL
      go_wp2_with fail
      go_ret
      obtain ⟨a1, a2, a3, a4, a5, a6⟩ := unhide HS
      rw [a2, ← a1]
      exact ⟨rfl, g2, a4.trans (unhide HX), a3, by omega⟩
    · have hadd1 : ∀ w, (Op.stringOp .add (bs S) (bs s)).run Try.prog w = .ok (.string (bs (S ++ s))) w := fun w => bs_add S s (by omega) w
      have hadd2 : ∀ w, (Op.stringOp .add (bs (S ++ s)) ⟨#[10]⟩).run Try.prog w = .ok (.string (bs (S ++ s ++ [10]))) w := fun w => bs_add (S ++ s) [10] (by simp; omega) w
      rw [hr] at i5 i6
      have HS := hide (show k + 1 + l'.length ≤ l.length ∧ (S ++ (s ++ [10])).length ≤ 262 * (k + 1) ∧ (S ++ (s ++ [10])) ++ tx (runA [] lv' l').1 = tx (runA [] lv l).1 ∧ (runA [] lv' l').2 = (runA [] lv l).2 ∧ Fx w wr f g l1 lv1 sk N g1 ∧ (lv' = true → l' = []) from ⟨by omega, by simp; omega, by rw [← i5]; simp [tx], i6, i3, e2⟩)
      have hk2 : k + 1 ≤ 4000 := by have := unhide HL; omega
      clear HI i1 i2 i3 i4 i5 i6 hr e1 e2 hs hlt
      go_wp2_with fail
      refine (unhide KL).mono ?_
      rintro e w2 ⟨rfl, g2, x2⟩
      have HX := hide x2
      clear x2 KL
      go_wp2_with fail
      obtain ⟨a1, a2, a3, a4, a5, a6⟩ := unhide HS
      exact ⟨⟨k + 1, _, l', lv', g2, rfl, by go_num, hide ⟨a1, a2, a5.trans (unhide HX), a6, a3, a4⟩⟩, by simp [RowKit.intOf]; omega⟩
    · have hadd2 : ∀ w, (Op.stringOp .add (bs S) ⟨#[108, 111, 110, 103, 10]⟩).run Try.prog w = .ok (.string (bs (S ++ [108, 111, 110, 103, 10]))) w := fun w => bs_add S [108, 111, 110, 103, 10] (by simp; omega) w
      rw [hr] at i5 i6
      have HS := hide (show k + 1 + l'.length ≤ l.length ∧ (S ++ [108, 111, 110, 103, 10]).length ≤ 262 * (k + 1) ∧ (S ++ [108, 111, 110, 103, 10]) ++ tx (runA [] lv' l').1 = tx (runA [] lv l).1 ∧ (runA [] lv' l').2 = (runA [] lv l).2 ∧ Fx w wr f g l1 lv1 sk N g1 ∧ (lv' = true → l' = []) from ⟨by omega, by simp; omega, by rw [← i5]; simp [tx], i6, i3, e2⟩)
      have hk2 : k + 1 ≤ 4000 := by have := unhide HL; omega
      clear HI i1 i2 i3 i4 i5 i6 hr e1 e2 hlt
      go_wp2_with fail
      refine (unhide KL).mono ?_
      rintro e w2 ⟨rfl, g2, x2⟩
      have HX := hide x2
      clear x2 KL
      go_wp2_with fail
      obtain ⟨a1, a2, a3, a4, a5, a6⟩ := unhide HS
      exact ⟨⟨k + 1, _, l', lv', g2, rfl, by go_num, hide ⟨a1, a2, a5.trans (unhide HX), a6, a3, a4⟩⟩, by simp [RowKit.intOf]; omega⟩
end Go.Proofs.Ytpidfndcihljmaa
