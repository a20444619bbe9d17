/- The law's has and same; the document's without and Split. -/
import Derived.Test.YtkdehhmmcchgfaaBa
namespace Go.Proofs.Ytkdehhmmcchgfaa
open Go.RowKit

set_option maxRecDepth 100000 in
set_option maxHeartbeats 1000000 in
theorem has_ok (a : Option Addr) (len cap : Nat) (l : List Int) (n : Int) (w : World) (h : Rd w a l) (hlen : len = l.length) (hl : len ≤ 1000000) : Calls Try.prog 10 #[.slice a len cap, iv n] w fun e w' => e = .returned (.bool (l.contains n)) ∧ w' = w := by
  have H := hide h; have HL := hide hlen
  clear h hlen
  go_enter Try.func10, Try.ntmps10
  go_wp2
  go_loopw [5] (fun i wr => ∃ k : Nat, i = iv k ∧ wr = w ∧ Hid (k ≤ len ∧ ∀ j, j < k → l.getD j 0 ≠ n)) (fun i wr => len - (RowKit.intOf i).toNat)
  case atStart => exact ⟨0, rfl, rfl, hide ⟨Nat.zero_le _, fun j hj => by omega⟩⟩
  case round =>
    obtain ⟨k, rfl, rfl, hno⟩ := hrel
    have hk := (unhide hno).1
    by_cases hlt : k < len
    · obtain ⟨b, o, rfl, c⟩ := unhide H k (unhide HL ▸ hlt)
      have hlt' : (k : Int) < len := by omega
      obtain ⟨x, hx⟩ : ∃ x, l.getD k 0 = x := ⟨_, rfl⟩
      rw [hx] at c
      have HX := hide hx
      clear hx
      by_cases he : x = n
      · have HE := hide he
        have he' : (x == n) = true := by simp [he]
        clear he
        go_wp2
        go_ret
        refine ⟨?_, rfl⟩
        have : n ∈ l := by
          rw [← unhide HE, ← unhide HX]
          have hk' : k < l.length := unhide HL ▸ hlt
          rw [show l.getD k 0 = l[k] by simp [hk']]
          exact List.getElem_mem _
        simp [this]
      · have HE := hide he
        have he' : (x == n) = false := by simp [he]
        clear he
        go_wp2
        exact ⟨⟨k + 1, by go_num, trivial, hide ⟨by omega, fun j hj => by
          by_cases hjk : j = k
          · subst hjk; rw [unhide HX]; exact unhide HE
          · exact (unhide hno).2 j (by omega)⟩⟩, by simp [RowKit.intOf]; omega⟩
    · have hlt' : ¬ (k : Int) < len := by omega
      go_wp2
      go_ret
      refine ⟨?_, rfl⟩
      have : n ∉ l := fun hm => by
        obtain ⟨j, hj, e⟩ := List.mem_iff_getElem.1 hm
        refine (unhide hno).2 j (by rw [← unhide HL] at hj; omega) ?_
        simp [hj, e]
      simp [this]

theorem drew_add (w : World) (a b : Nat) : (w.drewN a).drewN b = w.drewN (a + b) := by simp [World.drewN, Nat.add_assoc]
set_option maxRecDepth 100000 in
set_option maxHeartbeats 1000000 in
theorem same_ok (a b : Option Addr) (ca cb : Nat) (l m : List Int) (la lb : Nat) (w : World) (h : Rd w a l) (g : Rd w b m) (hla : la = l.length) (hlb : lb = m.length) (hl : la ≤ 1000000) : Calls Try.prog 12 #[.slice a la ca, .slice b lb cb] w fun e w' => e = .returned (.bool (decide (l = m))) ∧ Still w w' := by
  have H := hide h; have G := hide g; have HA := hide hla; have HB := hide hlb
  clear h g hla hlb
  go_enter Try.func12, Try.ntmps12
  by_cases hne : la = lb
  rotate_left
  · have hne' : ((la : Int) == lb) = false := by simp; omega
    go_wp2
    go_ret
    refine ⟨?_, Fr.refl _ _⟩
    have : l ≠ m := fun e => hne (by rw [unhide HA, unhide HB, e])
    simp [this]
  have HN := hide hne
  have hne' : ((la : Int) == lb) = true := by simp [hne]
  clear hne
  go_wp2
  go_loopw [5] (fun i wr => ∃ k : Nat, ∃ q : Nat, i = iv k ∧ wr = w.drewN q ∧ Hid (k ≤ la ∧ ∀ j, j < k → l.getD j 0 = m.getD j 0)) (fun i wr => la - (RowKit.intOf i).toNat)
  case atStart => exact ⟨0, 0, rfl, rfl, hide ⟨Nat.zero_le _, fun j hj => by omega⟩⟩
  case round =>
    obtain ⟨k, q, rfl, rfl, hno⟩ := hrel
    have hk := (unhide hno).1
    by_cases hlt : k < la
    · obtain ⟨xb, xo, rfl, c0⟩ := unhide H k (unhide HA ▸ hlt)
      obtain ⟨yb, yo, rfl, d0⟩ := unhide G k (unhide HB ▸ unhide HN ▸ hlt)
      have hlt' : (k : Int) < la := by omega
      have hlt2 : (k : Int) < lb := by have := unhide HN; omega
      obtain ⟨x, hx⟩ : ∃ x, l.getD k 0 = x := ⟨_, rfl⟩
      obtain ⟨y, hy⟩ : ∃ y, m.getD k 0 = y := ⟨_, rfl⟩
      rw [hx] at c0
      rw [hy] at d0
      have c : ∀ n, (w.drewN n).cell? ⟨xb, xo + k, none⟩ = some (.int .i64 x) := fun _ => c0
      have d : ∀ n, (w.drewN n).cell? ⟨yb, yo + k, none⟩ = some (.int .i64 y) := fun _ => d0
      have HX := hide hx; have HY := hide hy
      clear hx hy c0 d0
      by_cases he : x = y
      · have HE := hide he
        have he' : (x != y) = false := by simp [he]
        clear he
        go_wp2_with fail
        go_quiet (fail)
        rw [drew_add]
        go_wp2
        exact ⟨⟨k + 1, q + nq, by go_num, rfl, hide ⟨by omega, fun j hj => by
          by_cases hjk : j = k
          · subst hjk; rw [unhide HX, unhide HY]; exact unhide HE
          · exact (unhide hno).2 j (by omega)⟩⟩, by simp [RowKit.intOf]; omega⟩
      · have HE := hide he
        have he' : (x != y) = true := by simp [he]
        clear he
        go_wp2_with fail
        go_quiet (fail)
        rw [drew_add]
        go_wp2
        go_ret
        refine ⟨?_, (Fr.refl _ w).drewN _⟩
        have : l ≠ m := fun e => unhide HE (by rw [← unhide HX, ← unhide HY, e])
        simp [this]
    · have hlt' : ¬ (k : Int) < la := by omega
      go_wp2
      go_ret
      refine ⟨?_, (Fr.refl _ w).drewN _⟩
      have : l = m := by
        have hk' : k = la := by omega
        apply List.ext_getElem
        · rw [← unhide HA, ← unhide HB, unhide HN]
        · intro j h1 h2
          have := (unhide hno).2 j (by rw [hk', unhide HA]; exact h1)
          simpa [h1, h2] using this
      simp [this]
end Go.Proofs.Ytkdehhmmcchgfaa
