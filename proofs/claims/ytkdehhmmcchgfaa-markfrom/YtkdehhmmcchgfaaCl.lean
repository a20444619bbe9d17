/- The web of MarkCloses; what a run without errors leaves. -/
import Derived.Test.YtkdehhmmcchgfaaLv
namespace Go.Proofs.Ytkdehhmmcchgfaa
open Go.RowKit

theorem still_tr {a b c : World} (h : Still a b) (k : Still b c) : Still a c := h.trans' k fun _ x => x.elim
/-- The lowest bits of a number. -/
def msk (z : Int) (m : Nat) : Nat := (BitVec.ofInt 64 z).toNat &&& m
theorem mask_i64 (z : Int) (m : Nat) (hm : m < 4294967296) : bits .and .i64 z (m : Int) = (msk z m : Int) := by
  have hle : (BitVec.ofInt 64 z).toNat &&& m ≤ m := Nat.and_le_right
  have h2 : (BitVec.ofInt 64 (m : Int)).toNat = m := by
    rw [BitVec.ofInt_natCast, BitVec.toNat_ofNat]; exact Nat.mod_eq_of_lt (by omega)
  show IntKind.i64.wrap ((BitVec.ofInt 64 z &&& BitVec.ofInt 64 (m : Int)).toNat : Int) = _
  rw [BitVec.toNat_and, h2, IntKind.wrap_i64]
  simp only [msk]
  omega
theorem msk_le (z : Int) (m : Nat) : msk z m ≤ m := Nat.and_le_right

/-- A run without errors, and with room, ends; what was found is closed. -/
theorem run_closed (of : OfF) (most : Int) (U : List Int) (P : Int → Prop) (he : ∀ x, (of x).2 = 0) (hU : ∀ x ∈ U, ∀ y ∈ (of x).1, y ∈ U) (hm : (U.length : Int) ≤ most) (hP : ∀ x, P x → ∀ y ∈ (of x).1, y ≠ 0 → P y) :
    ∀ (k : Nat) (found done : List Int), found.Pairwise (· < ·) → (∀ x ∈ found, x ∈ U) → (∀ x ∈ found, P x) → done.Nodup → (∀ x ∈ done, x ∈ found) → (∀ x ∈ done, ∀ y ∈ (of x).1, y ≠ 0 → y ∈ found) → (∀ x ∈ found, x ≠ 0) → U.length < k + done.length →
    ∃ F d, run of most k found done = (F, d, 0) ∧ F.Pairwise (· < ·) ∧ (∀ x ∈ found, x ∈ F) ∧ (∀ x ∈ F, P x) ∧ (∀ x ∈ F, x ≠ 0) ∧ ∀ x ∈ F, ∀ y ∈ (of x).1, y ≠ 0 → y ∈ F
  | 0, found, done, hr, hsU, _, hd, hdf, _, _, hk => by
    have h1 := nodup_len done found hd hdf
    have h2 := nodup_len found U (lt_nodup hr) hsU
    omega
  | k + 1, found, done, hr, hsU, hsP, hd, hdf, hcl, h0, hk => by
    unfold run
    cases e : nxt found done with
    | none =>
      have hall := nxt_none e
      exact ⟨found, done, rfl, hr, fun _ h => h, hsP, h0, fun x hx y hy hy0 => hcl x (hall x hx) y hy hy0⟩
    | some x =>
      obtain ⟨hx, hxd, _⟩ := nxt_some e hr
      have hlen := nodup_len found U (lt_nodup hr) hsU
      simp only
      rw [if_neg (by omega), if_pos (he x)]
      have sub : ∀ y ∈ found, y ∈ rise (found ++ (of x).1) := fun y hy => (rise_mem _ y).2 ⟨List.mem_append.2 (.inl hy), h0 y hy⟩
      obtain ⟨F, d, h1, h2, h3, h4, h5, h6⟩ := run_closed of most U P he hU hm hP k (rise (found ++ (of x).1)) (done ++ [x]) (rise_lt _) (fun y hy => by
          rcases List.mem_append.1 ((rise_mem _ y).1 hy).1 with h | h
          · exact hsU y h
          · exact hU x (hsU x hx) y h) (fun y hy => by
          have hy' := (rise_mem _ y).1 hy
          rcases List.mem_append.1 hy'.1 with h | h
          · exact hsP y h
          · exact hP x (hsP x hx) y h hy'.2) (by
          rw [List.nodup_append]
          exact ⟨hd, by simp, fun y hy z hz e2 => by simp at hz; subst hz; subst e2; exact hxd hy⟩) (fun y hy => by
          rcases List.mem_append.1 hy with h | h
          · exact sub y (hdf y h)
          · simp at h; rw [h]; exact sub x hx) (fun y hy z hz hz0 => by
          rcases List.mem_append.1 hy with h | h
          · exact sub z (hcl y h z hz hz0)
          · simp at h; subst h; exact (rise_mem _ z).2 ⟨List.mem_append.2 (.inr hz), hz0⟩) (fun y hy => ((rise_mem _ y).1 hy).2) (by simp only [List.length_append, List.length_singleton]; omega)
      exact ⟨F, d, h1, h2, fun y hy => h3 y (sub y hy), h4, h5, h6⟩

/-- The web: what stands under a number. -/
def ofl (M : Nat) (x : Int) : Nat → List Int
  | 0 => []
  | t + 1 => if 2 * x + t ≤ M then ofl M x t ++ [2 * x + t] else ofl M x t
def clOf (M : Nat) : OfF := fun x => (ofl M x 2, 0)
theorem ofl_len (M : Nat) (x : Int) : ∀ t, (ofl M x t).length ≤ t
  | 0 => by simp [ofl]
  | t + 1 => by
    have := ofl_len M x t
    unfold ofl
    split
    · simp; omega
    · omega
theorem ofl_mem (M : Nat) (x y : Int) : y ∈ ofl M x 2 ↔ (y = 2 * x ∨ y = 2 * x + 1) ∧ y ≤ M := by
  unfold ofl ofl ofl
  simp only [Int.add_zero, List.nil_append, Int.cast_ofNat_Int]
  split <;> split <;> simp <;> omega

set_option maxRecDepth 100000 in
set_option maxHeartbeats 2000000 in
theorem clc_ok (M : Nat) (hM : M ≤ 256) (x : Nat) (hx : x ≤ 256) (bM : Nat) (W : World) (hc : W.cell? ⟨bM, 0, none⟩ = some (iv M)) :
    Calls Try.prog 7 #[iv x, ptr bM] W fun e W' => ∃ v, e = .returned (.tuple #[v, iv 0]) ∧ Own W' W.heap.size v (ofl M x 2) ∧ Still W W' := by
  have HC := hide hc
  clear hc
  go_enter Try.func7, Try.ntmps7
  have w1 : wrap64 (2 * (x : Int)) = 2 * x := by unfold wrap64; omega
  have w2 : wrap64 (2 * (x : Int) + 1) = 2 * x + 1 := by unfold wrap64; omega
  go_wp2
  go_loopw [5, 6] (fun v i wr => ∃ (t : Nat) (sa : Option Addr) (sn sc : Nat), i = iv (2 * x + t : Nat) ∧ v = .slice sa sn sc ∧ Hid (t ≤ 2 ∧ Own wr W.heap.size (.slice sa sn sc) (ofl M x t) ∧ sn = (ofl M x t).length ∧ Still W wr)) (fun v i wr => 2 * x + 2 - (RowKit.intOf i).toNat)
  case atStart => exact ⟨0, none, 0, 0, by simp, rfl, hide ⟨by omega, Own.nil _ _, rfl, Fr.refl _ _⟩⟩
  case round =>
    obtain ⟨t, sa, sn, sc, rfl, rfl, HI⟩ := hrel
    have ht := (unhide HI).1
    obtain ⟨y, hy⟩ : ∃ y, 2 * x + t = y := ⟨_, rfl⟩
    have HY := hide hy
    rw [hy]
    by_cases hlt : t < 2
    · have hlt' : (y : Int) ≤ 2 * x + 1 := by omega
      have cM := (unhide HI).2.2.2.cell' (unhide HC) (fun x => x)
      have hwy : wrap64 ((y : Int) + 1) = y + 1 := by unfold wrap64; omega
      by_cases hyM : y ≤ M
      · have hyM' : (y : Int) ≤ M := by omega
        have e : ofl M x (t + 1) = ofl M x t ++ [(y : Int)] := by
          show (if 2 * (x : Int) + t ≤ M then _ else _) = _
          rw [if_pos (by omega), ← hy]; simp
        obtain ⟨i1, i2, i3, i4⟩ := unhide HI
        obtain ⟨pa, pq, u2, hap, o2, f2, -, hnn⟩ := Own.more Try.underlying22 wr W.heap.size _ _ sn i2 i3 (y : Int) (by have := ofl_len M x t; omega) i4.size
        rw [← e] at o2 hnn
        have f3 : Still W u2 := i4.trans' f2 (fun g hg => .inr (i2.lt g hg).1)
        have HE := hide (And.intro o2 (And.intro hnn f3)); have HAP := hide hap
        clear i1 i2 i3 i4 hap o2 f2 hnn f3 e hy
        go_wp2_with (first | (at_builtin; refine wpList_append_run rfl (.tmp 19) (.tmp 21) 22 rfl _ _ rfl rfl _ u2 (unhide HAP) ?_) | fail)
        obtain ⟨o2, hnn, f3⟩ := unhide HE
        have hy := unhide HY
        exact ⟨⟨t + 1, _, _, _, by rw [← hy]; go_num, rfl, hide ⟨by omega, o2, hnn, f3⟩⟩, by simp [RowKit.intOf]; omega⟩
      · have hyM' : ¬ (y : Int) ≤ M := by omega
        have e : ofl M x (t + 1) = ofl M x t := by
          show (if 2 * (x : Int) + t ≤ M then _ else _) = _
          rw [if_neg (by omega)]
        have HE := hide e
        clear e hy
        go_wp2
        obtain ⟨i1, i2, i3, i4⟩ := unhide HI
        have hy := unhide HY
        exact ⟨⟨t + 1, _, _, _, by rw [← hy]; go_num, rfl, hide ⟨by omega, by rw [unhide HE]; exact i2, by rw [unhide HE]; exact i3, i4⟩⟩, by simp [RowKit.intOf]; omega⟩
    · have hlt' : ¬ (y : Int) ≤ 2 * x + 1 := by omega
      obtain rfl : t = 2 := by omega
      clear hy
      go_wp2
      go_ret2
      obtain ⟨i1, i2, i3, i4⟩ := unhide HI
      exact ⟨_, rfl, i2, i4⟩
end Go.Proofs.Ytkdehhmmcchgfaa
