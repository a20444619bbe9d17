/- The document's own Framer. -/
import Derived.Test.YtpidfndcihljmaaYj
import Derived.Deep.Cut
namespace Go.Proofs.Ytpidfndcihljmaa
open Go.RowKit

abbrev sv (s : List UInt8) : Value := .string (bs s)
/-- The document's Framer in memory. -/
def Rf (w : World) (b : Nat) (B : List UInt8) (left : Nat) (long : Bool) : Prop := w.heap[b]? = some (.cells #[sv B, iv left, .bool long] 41)
theorem Rf.on {w w' : World} {b : Nat} {B : List UInt8} {left : Nat} {long : Bool} {F : Nat → Prop} (h : Rf w b B left long) (r : Fr F w w') (hb : ¬ F b) : Rf w' b B left long := r.obj h hb
theorem Rf.cells {w : World} {b : Nat} {B : List UInt8} {left : Nat} {long : Bool} (h : Rf w b B left long) : w.cell? ⟨b, 0, none⟩ = some (sv B) ∧ w.cell? ⟨b, 1, none⟩ = some (iv left) ∧ w.cell? ⟨b, 2, none⟩ = some (.bool long) ∧ ∀ i, w.frozen? ⟨b, i, none⟩ = false :=
  ⟨cell_of_obj h 0, cell_of_obj h 1, cell_of_obj h 2, fun i => frozen_of_obj h i⟩
theorem Rf.setB {w : World} {b : Nat} {B : List UInt8} {left : Nat} {long : Bool} (h : Rf w b B left long) (C : List UInt8) : Rf (w.setCell ⟨b, 0, none⟩ (sv C)) b C left long := by
  unfold Rf; rw [obj_set h]; rfl
theorem Rf.setL {w : World} {b : Nat} {B : List UInt8} {left : Nat} {long : Bool} (h : Rf w b B left long) (n : Nat) : Rf (w.setCell ⟨b, 1, none⟩ (iv n)) b B n long := by
  unfold Rf; rw [obj_set h]; rfl
theorem Rf.setG {w : World} {b : Nat} {B : List UInt8} {left : Nat} {long : Bool} (h : Rf w b B left long) (x : Bool) : Rf (w.setCell ⟨b, 2, none⟩ (.bool x)) b B left x := by
  unfold Rf; rw [obj_set h]; rfl
theorem fr_set {b : Nat} {a w : World} (h : Fr (fun k => k = b) a w) (i : Nat) (u : Value) : Fr (fun k => k = b) a (w.setCell ⟨b, i, none⟩ u) := h.setCell (.inl rfl) u
/-- What drop leaves. -/
def dropR (B : List UInt8) (left : Nat) (long : Bool) : List UInt8 × Nat × Bool :=
  if long then (if nl B < B.length then ((B.drop (nl B + 1)).drop left, left - (B.drop (nl B + 1)).length, false) else ([], left, true)) else (B.drop left, left - B.length, false)
/-- What waits while something is left out: nothing. -/
def Good (l : List UInt8) (lv : Bool) (sk : Nat) : Prop := (lv = true → l = []) ∧ (0 < sk → l = [])
theorem drop_good (l : List UInt8) (lv : Bool) (sk : Nat) (h : Good l lv sk) : dropR l sk lv = (l, sk, lv) := by
  cases lv with
  | true => rw [h.1 rfl]; rfl
  | false =>
    show (l.drop sk, sk - l.length, false) = _
    by_cases h0 : 0 < sk
    · rw [h.2 h0]; simp
    · rw [show sk = 0 by omega]; simp
theorem drop_feed (l : List UInt8) (lv : Bool) (sk : Nat) (m : List UInt8) (h : Good l lv sk) : dropR (l ++ m) sk lv = ((feedR l lv sk m).1, (feedR l lv sk m).2.2, (feedR l lv sk m).2.1) ∧ Good (feedR l lv sk m).1 (feedR l lv sk m).2.1 (feedR l lv sk m).2.2 := by
  cases lv with
  | true =>
    rw [h.1 rfl]
    unfold dropR feedR
    simp only [List.nil_append, if_true]
    by_cases hn : nl m < m.length
    · rw [if_pos hn, if_pos hn]
      refine ⟨rfl, (fun e => by cases e), fun h0 => ?_⟩
      have h0 : 0 < sk - (m.drop (nl m + 1)).length := h0
      exact List.drop_eq_nil_of_le (by omega)
    · rw [if_neg hn, if_neg hn]
      exact ⟨rfl, fun _ => rfl, fun _ => rfl⟩
  | false =>
    show ((l ++ m).drop sk, sk - (l ++ m).length, false) = (l ++ m.drop sk, sk - m.length, false) ∧ Good (l ++ m.drop sk) false (sk - m.length)
    by_cases h0 : 0 < sk
    · rw [h.2 h0]
      refine ⟨by simp, (fun e => by cases e), fun h1 => ?_⟩
      rw [List.nil_append]
      exact List.drop_eq_nil_of_le (by omega)
    · obtain rfl : sk = 0 := by omega
      exact ⟨by simp, (fun e => by cases e), fun h1 => by omega⟩
theorem drop_skip (l : List UInt8) (lv : Bool) (sk k : Nat) (h : Good l lv sk) : dropR l (sk + k) lv = (l.drop k, sk + (k - l.length), lv) ∧ Good (l.drop k) lv (sk + (k - l.length)) := by
  have hg : Good (l.drop k) lv (sk + (k - l.length)) := ⟨fun e => by rw [h.1 e]; simp, fun h1 => by
    by_cases h0 : 0 < sk
    · rw [h.2 h0]; simp
    · exact List.drop_eq_nil_of_le (by omega)⟩
  refine ⟨?_, hg⟩
  cases lv with
  | true => rw [h.1 rfl]; simp [dropR, nl]
  | false =>
    show (l.drop (sk + k), sk + k - l.length, false) = _
    by_cases h0 : 0 < sk
    · rw [h.2 h0]; simp
    · obtain rfl : sk = 0 := by omega
      simp

set_option maxRecDepth 100000 in
set_option maxHeartbeats 4000000 in
theorem rdrop_ok {w : World} {b : Nat} {B : List UInt8} {left : Nat} {long : Bool} (h : Rf w b B left long) (hB : B.length ≤ 100000000) (hl : left ≤ 9223372036854775807) :
    Calls Try.prog 27 #[ptr b] w fun e w' => e = .returned (.tuple #[]) ∧ Rf w' b (dropR B left long).1 (dropR B left long).2.1 (dropR B left long).2.2 ∧ Fr (fun k => k = b) w w' := by
  obtain ⟨c0, c1, c2, z⟩ := h.cells
  have z0 := z 0
  have z1 := z 1
  have z2 := z 2
  have H := hide h
  obtain ⟨n, hn⟩ : ∃ n, B.length = n := ⟨_, rfl⟩
  have HN := hide hn
  have hsz : (bs B).size = n := by rw [bs_size]; exact hn
  rw [hn] at hB
  clear h z hn
  cases long with
  | false =>
    have c0 : ∀ q, (w.drewN q).cell? ⟨b, 0, none⟩ = some (sv B) := fun _ => c0
    have c1 : ∀ q, (w.drewN q).cell? ⟨b, 1, none⟩ = some (iv left) := fun _ => c1
    have z0 : ∀ q, (w.drewN q).frozen? ⟨b, 0, none⟩ = false := fun _ => z0
    have z1 : ∀ q, (w.drewN q).frozen? ⟨b, 1, none⟩ = false := fun _ => z1
    have hbase : Fr (fun k => k = b) w w := Fr.refl _ _
    have HB := hide hbase
    clear hbase
    go_enter Try.func27, Try.ntmps27
    go_wp2_with fail
    go_quiet (fail)
    obtain ⟨j, hj⟩ : ∃ j, min left n = j := ⟨_, rfl⟩
    rw [show min (left : Int) (n : Int) = (j : Int) by omega]
    have HJ := hide hj
    have hfr := fun w => bs_from B j .i64 (by rw [unhide HN]; omega) w
    have hjl : j ≤ left := by omega
    clear hj
    go_wp2_with fail
    go_end0
    have hj := unhide HJ
    have hn := unhide HN
    have e1 : B.drop j = B.drop left := by
      by_cases h : left ≤ n
      · rw [show j = left by omega]
      · rw [show j = n by omega, List.drop_eq_nil_of_le (by omega), List.drop_eq_nil_of_le (by omega)]
    rw [e1, show (left : Int) - (j : Int) = ((left - B.length : Nat) : Int) by omega]
    have hr : Rf (w.drewN nq) b B left false := unhide H
    exact ⟨by trivial, (hr.setB _).setL _, fr_set (fr_set ((unhide HB).drewN nq) _ _) _ _⟩
  | true =>
    go_enter Try.func27, Try.ntmps27
    go_wp2_with fail
    go_loop [2] (fun i => ∃ k : Nat, i = iv k ∧ Hid (k ≤ n ∧ ∀ j, j < k → B.getD j 0 ≠ 10)) (fun i => n - (RowKit.intOf i).toNat)
    case atStart => exact ⟨0, rfl, hide ⟨Nat.zero_le _, fun j hj => by omega⟩⟩
    case round =>
      obtain ⟨k, rfl, HI⟩ := hrel
      obtain ⟨hk, hno⟩ := unhide HI
      by_cases hlt : k < n
      · have hlt' : (k : Int) < n := by omega
        have hne : ¬ (k = n) := by omega
        have hne' : ((k : Int) == (n : Int)) = false := by simp; omega
        obtain ⟨x, hx⟩ : ∃ x, B[k]? = some x := ⟨_, List.getElem?_eq_getElem (by rw [unhide HN]; exact hlt)⟩
        have hix := fun w => bs_ix B k x hx w
        have hgx : B.getD k 0 = x := by rw [List.getD_eq_getElem?_getD, hx]; rfl
        have HX := hide hgx
        clear hx hgx
        by_cases he : x = 10
        · have he' : ((x.toNat : Int) != 10) = false := by rw [bne, eq8 x 10 10 rfl he]; rfl
          have HNL := hide (nl_eq B k hno (by rw [unhide HN]; exact hlt) (by rw [unhide HX]; exact he))
          have hfr := fun w => bs_from B (k + 1) .i64 (by rw [unhide HN]; omega) w
          have e1 : ((k + 1 : Nat) : Int) = (k : Int) + 1 := by omega
          simp only [e1] at hfr
          have HC := hide (show dropR B left true = ((B.drop (k + 1)).drop left, left - (B.drop (k + 1)).length, false) by
            unfold dropR
            rw [if_pos rfl, unhide HNL, if_pos (by rw [unhide HN]; exact hlt)])
          obtain ⟨C, hC⟩ : ∃ C, B.drop (k + 1) = C := ⟨_, rfl⟩
          have hCl : C.length = n - (k + 1) := by rw [← hC, List.length_drop, unhide HN]
          rw [hC] at hfr HC
          obtain ⟨n2, hn2⟩ : ∃ n2, C.length = n2 := ⟨_, rfl⟩
          have HN2 := hide hn2
          have hsz2 : (bs C).size = n2 := by rw [bs_size]; exact hn2
          have hB2 : n2 ≤ 100000000 := by omega
          clear he HI hno hC hCl hn2
          go_upto_region 8 with fail
          obtain ⟨w0, hw0⟩ : ∃ w0, w0 = (w.setCell ⟨b, 0, none⟩ (sv C)).setCell ⟨b, 2, none⟩ (.bool false) := ⟨_, rfl⟩
          rw [← hw0]
          have r0 : Rf w0 b C left false := by rw [hw0]; exact ((unhide H).setB C).setG false
          have f0 : Fr (fun k => k = b) w w0 := by rw [hw0]; exact fr_set (fr_set (Fr.refl _ _) _ _) _ _
          obtain ⟨d0, d1, _, y⟩ := r0.cells
          clear hw0 c0 c1 c2 z0 z1 z2 hfr hix
          have c0 : ∀ q, (w0.drewN q).cell? ⟨b, 0, none⟩ = some (sv C) := fun _ => d0
          have c1 : ∀ q, (w0.drewN q).cell? ⟨b, 1, none⟩ = some (iv left) := fun _ => d1
          have z0 : ∀ q, (w0.drewN q).frozen? ⟨b, 0, none⟩ = false := fun _ => y 0
          have z1 : ∀ q, (w0.drewN q).frozen? ⟨b, 1, none⟩ = false := fun _ => y 1
          clear d0 d1 y H
          have H := hide r0
          have HB := hide f0
          clear r0 f0
          go_quiet (fail)
          obtain ⟨j, hj⟩ : ∃ j, min left n2 = j := ⟨_, rfl⟩
          rw [show min (left : Int) (n2 : Int) = (j : Int) by omega]
          have HJ := hide hj
          have hfr := fun w => bs_from C j .i64 (by rw [unhide HN2]; omega) w
          have hjl : j ≤ left := by omega
          clear hj
          go_wp2_with fail
          go_end0
          have hj := unhide HJ
          have hn := unhide HN2
          have e1 : C.drop j = C.drop left := by
            by_cases h : left ≤ n2
            · rw [show j = left by omega]
            · rw [show j = n2 by omega, List.drop_eq_nil_of_le (by omega), List.drop_eq_nil_of_le (by omega)]
          rw [e1, show (left : Int) - (j : Int) = ((left - C.length : Nat) : Int) by omega]
          have hr : Rf (w0.drewN nq) b C left false := unhide H
          rw [unhide HC]
          exact ⟨by trivial, (hr.setB _).setL _, fr_set (fr_set ((unhide HB).drewN nq) _ _) _ _⟩
        · have he' : ((x.toNat : Int) != 10) = true := by rw [bne, ne8 x 10 10 rfl he]; rfl
          have HE := hide (show ∀ j, j < k + 1 → B.getD j 0 ≠ 10 from fun j hj => by
            by_cases hjk : j = k
            · subst hjk; rw [unhide HX]; exact he
            · exact hno j (by omega))
          clear he HI hno
          go_wp2_with fail
          exact ⟨⟨k + 1, by go_num, hide ⟨by omega, unhide HE⟩⟩, by simp [RowKit.intOf]; omega⟩
      · have hkn : k = n := by omega
        have hlt' : ¬ (k : Int) < n := by omega
        have he' : ((k : Int) == (n : Int)) = true := by simp; omega
        have HC := hide (show dropR B left true = ([], left, true) by
          have := nl_ge B k hno (by rw [unhide HN]; omega)
          unfold dropR
          rw [if_pos rfl, if_neg (by rw [unhide HN]; omega)])
        clear HI hno hkn
        go_wp2_with fail
        refine bodyPost_ret (results_none rfl _ _ _) rfl ?_
        rw [unhide HC]
        exact ⟨rfl, (unhide H).setB [], fr_set (Fr.refl _ _) _ _⟩
end Go.Proofs.Ytpidfndcihljmaa
