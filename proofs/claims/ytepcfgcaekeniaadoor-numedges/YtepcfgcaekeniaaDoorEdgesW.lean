/- NumEdges walked. -/
import Derived.Test.YtepcfgcaekeniaaDoorAwake
import Derived.LoopTactic
import Derived.BigQuiet
namespace Go.Proofs.YtepcfgcaekeniaaDoor
open Go.RowKit

/-- The low bits of a number. -/
def msk (z : Int) (m : Nat) : Nat := (BitVec.ofInt 64 z).toNat &&& m

theorem mask_i64 (z : Int) (m : Nat) (hm : m < 4294967296) : bits .and .i64 z (m : Int) = (msk z m : Int) := by
  have hle : (BitVec.ofInt 64 z).toNat &&& m ≤ m := Nat.and_le_right
  have h2 : (BitVec.ofInt 64 (m : Int)).toNat = m := by
    rw [BitVec.ofInt_natCast, BitVec.toNat_ofNat]; exact Nat.mod_eq_of_lt (by omega)
  show IntKind.i64.wrap ((BitVec.ofInt 64 z &&& BitVec.ofInt 64 (m : Int)).toNat : Int) = _
  rw [BitVec.toNat_and, h2, IntKind.wrap_i64]
  simp only [msk]
  omega
theorem msk_le (z : Int) (m : Nat) : msk z m ≤ m := Nat.and_le_right

/-- The nine edges. -/
def edges : List Nat := [18442240474082181120, 18442240474082181119, 9223372036854775809, 9223372036854775808, 0, 1, 9218868437227405311, 9218868437227405312, 9221120237041090560]
def edge (k : Nat) : Nat := edges.getD k 0
theorem edge_lt (k : Nat) : edge k < 18446744073709551616 := by
  rcases Nat.lt_or_ge k 9 with h | h
  · have : ∀ k, k < 9 → edge k < 18446744073709551616 := by decide
    exact this k h
  · unfold edge; rw [List.getD_eq_getElem?_getD, List.getElem?_eq_none (by simpa [edges] using h)]; decide
theorem edge_mono : ∀ i, i < 9 → ∀ j, j < 9 → cmp3 (codeN (edge i)) (codeN (edge j)) = cmp3 i j := by decide

theorem mask16 (i : Int) : ∃ n : Nat, n < 9 ∧ (bits .and .i64 i 65535).tmod 9 = (n : Int) := by
  rw [show bits .and .i64 i 65535 = (msk i 65535 : Int) from mask_i64 i 65535 (by omega)]
  exact ⟨msk i 65535 % 9, by omega, by rw [Int.tmod_eq_emod_of_nonneg (by omega)]; omega⟩

theorem edge_le (i j : Nat) (h : i ≤ j) (hj : j < 9) : codeN (edge i) ≤ codeN (edge j) := by
  have e := edge_mono j hj i (by omega)
  unfold cmp3 at e
  rcases Nat.lt_or_ge (codeN (edge j)) (codeN (edge i)) with k | k
  · rw [if_pos k] at e
    rcases Nat.lt_or_eq_of_le h with h1 | h1
    · rw [if_neg (by omega), if_pos h1] at e; cases e
    · rw [if_neg (by omega), if_neg (by omega)] at e; cases e
  · exact k
theorem tab_drewN' {w : World} (h : Tab w) (n : Nat) : Tab (w.drewN n) := h
theorem below_drewN' (w : World) (n : Nat) : Below w.heap.size w (w.drewN n) := ⟨rfl, rfl, rfl, Nat.le_refl _, fun _ _ => rfl⟩
theorem low_code (x : Nat) (hx : x < 18446744073709551616) : codeN (edge 0) ≤ codeN x := by
  rw [show codeN (edge 0) = 4503599627370495 by decide]
  unfold codeN
  split
  · omega
  · rename_i h
    have h' : nanB x = false := by simpa using h
    simp only [nanB, decide_eq_false_iff_not, Nat.not_lt] at h'
    split <;> omega
theorem code_top (x : Nat) (hx : x < 18446744073709551616) : codeN x < 18446744073709551616 := by
  unfold codeN; split
  · omega
  · split <;> omega
theorem edge_cell (k : Nat) (hk : k < 9) : (#[Value.int .u64 18442240474082181120, .int .u64 18442240474082181119, .int .u64 9223372036854775809, .int .u64 9223372036854775808, .int .u64 0, .int .u64 1, .int .u64 9218868437227405311, .int .u64 9218868437227405312, .int .u64 9221120237041090560] : Array Value)[k]? = some (.int .u64 (edge k : Int)) := by
  match k, hk with
  | 0, _ | 1, _ | 2, _ | 3, _ | 4, _ | 5, _ | 6, _ | 7, _ | 8, _ => rfl

set_option maxRecDepth 100000 in
set_option maxHeartbeats 2000000 in
theorem edges_ok (i j : Int) (x : Nat) (hx : x < 18446744073709551616) (w : World) (ht : Tab w) : Calls Tryd.prog 3 #[.int .i64 i, .int .i64 j, .int .u64 x] w fun e w' => e = .returned (.bool true) ∧ Below w.heap.size w w' := by
  have hf := from_run
  obtain ⟨p, hp, ep⟩ := mask16 i
  obtain ⟨q, hq, eq⟩ := mask16 j
  go_enter Tryd.func3, Tryd.ntmps3
  go_wp2_with fail
  go_name_world W hW
  have hc : ∀ k, k < 9 → W.cell? ⟨w.heap.size, k, none⟩ = some (.int .u64 (edge k : Int)) := fun k hk => by
    rw [← hW, World.cell?_alloc_new]
    exact edge_cell k hk
  have hbel : Below w.heap.size w W := by rw [← hW]; exact (Below.refl _ w).alloc (Nat.le_refl _) _
  have htW : Tab W := ht.on hbel
  clear hW ep eq
  have cp := hc p hp
  have cq := hc q hq
  have lo : codeN (edge 0) ≤ codeN x := low_code x hx
  have hi1 : codeN 18442240474082181120 ≤ codeN x := lo
  have hi2 : codeN x ≤ codeN 9221120237041090561 := by rw [show codeN 9221120237041090561 = 18446744073709551615 by decide]; have := code_top x hx; omega
  have lo1 : ((codeN 18442240474082181120 : Int) ≤ codeN x) = True := by simp; omega
  have lo2 : ((codeN x : Int) ≤ codeN 9221120237041090561) = True := by simp; omega
  clear hi1 hi2
  go_quiet (fail)
  have cases3 : (cmp3 (codeN (edge p)) (codeN (edge q)) = -1 ∧ ((p : Int) < q) = True ∧ ((q : Int) < p) = False) ∨ (cmp3 (codeN (edge p)) (codeN (edge q)) = 0 ∧ ((p : Int) < q) = False ∧ ((q : Int) < p) = False) ∨ (cmp3 (codeN (edge p)) (codeN (edge q)) = 1 ∧ ((p : Int) < q) = False ∧ ((q : Int) < p) = True) := by
    rw [edge_mono p hp q hq]
    unfold cmp3
    rcases Nat.lt_trichotomy p q with h | h | h
    · exact .inl ⟨by rw [if_pos h], by simp; omega, by simp; omega⟩
    · exact .inr (.inl ⟨by rw [if_neg (by omega), if_neg (by omega)], by simp; omega, by simp; omega⟩)
    · exact .inr (.inr ⟨by rw [if_neg (by omega), if_pos h], by simp; omega, by simp; omega⟩)
  rcases cases3 with ⟨k1, k2, k3⟩ | ⟨k1, k2, k3⟩ | ⟨k1, k2, k3⟩
  all_goals
    go_wp2_with (first | (go_at_call 10; refine (cmp_ok _ _ (by first | exact edge_lt _ | exact hx) (by first | exact edge_lt _ | exact hx) _).mono ?_; rintro e w' ⟨rfl, rfl⟩))
    clear k1 k2 k3 cp cq
    go_loop [12, 13] (fun vn vk => ∃ n k : Nat, vn = .int .i64 n ∧ vk = .int .i64 k ∧ Hid (k ≤ 9 ∧ n ≤ k ∧ (∀ j, j < n → codeN (edge j) ≤ codeN x) ∧ (1 ≤ k → 1 ≤ n))) (fun _ vk => 9 - (RowKit.intOf vk).toNat)
    case atStart => exact ⟨0, 0, rfl, rfl, Lib.hid ⟨by omega, by omega, fun j hj => by omega, fun h => by omega⟩⟩
    case round =>
      obtain ⟨n, k, rfl, rfl, HI⟩ := hrel
      obtain ⟨l1, l2, l3, l4⟩ := HI.out
      by_cases hk : k < 9
      · have hk1 : ((k : Int) < 9) = True := by simp; omega
        have ck := hc k hk
        have hn9 : n ≤ 9 := by omega
        by_cases hle : codeN (edge k) ≤ codeN x
        · have g1 : (cmp3 (codeN (edge k)) (codeN x) ≤ 0) = True := by simp only [eq_iff_iff, iff_true]; unfold cmp3; split <;> (try split) <;> omega
          have L := Lib.hid (show k + 1 ≤ 9 ∧ n + 1 ≤ k + 1 ∧ (∀ j, j < n + 1 → codeN (edge j) ≤ codeN x) ∧ (1 ≤ k + 1 → 1 ≤ n + 1) from ⟨by omega, by omega, fun j hj => Nat.le_trans (edge_le j k (by omega) hk) hle, fun _ => by omega⟩)
          clear HI l1 l2 l3 l4 hle lo
          go_wp2_with (first | (go_at_call 10; refine (cmp_ok _ _ (by first | exact edge_lt _ | exact hx) (by first | exact edge_lt _ | exact hx) _).mono ?_; rintro e w' ⟨rfl, rfl⟩))
          exact ⟨⟨n + 1, k + 1, rfl, rfl, L⟩, by simp [RowKit.intOf]; omega⟩
        · have g1 : (cmp3 (codeN (edge k)) (codeN x) ≤ 0) = False := by simp only [eq_iff_iff, iff_false]; unfold cmp3; split <;> (try split) <;> omega
          have hk0 : k ≠ 0 := by rintro rfl; exact hle lo
          have L := Lib.hid (show k + 1 ≤ 9 ∧ n ≤ k + 1 ∧ (∀ j, j < n → codeN (edge j) ≤ codeN x) ∧ (1 ≤ k + 1 → 1 ≤ n) from ⟨by omega, by omega, l3, fun _ => l4 (by omega)⟩)
          clear HI l1 l2 l3 l4 hle lo hk0
          go_wp2_with (first | (go_at_call 10; refine (cmp_ok _ _ (by first | exact edge_lt _ | exact hx) (by first | exact edge_lt _ | exact hx) _).mono ?_; rintro e w' ⟨rfl, rfl⟩))
          exact ⟨⟨n, k + 1, rfl, rfl, L⟩, by simp [RowKit.intOf]; omega⟩
      · have hk1 : ((k : Int) < 9) = False := by simp; omega
        have hn1 : 1 ≤ n := l4 (by omega)
        have hn9 : n ≤ 9 := by omega
        have L3 := Lib.hid l3
        clear HI l1 l2 l3 l4 lo
        go_wp2_with fail
        go_loop [14] (fun vk => ∃ k : Nat, vk = .int .i64 k ∧ Hid (k ≤ n)) (fun vk => n - (RowKit.intOf vk).toNat)
        case atStart => exact ⟨0, rfl, Lib.hid (by omega)⟩
        case round =>
          obtain ⟨m, rfl, HM⟩ := hrel
          have hm := HM.out
          by_cases hmn : m < n
          · have hk2 : ((m : Int) < (n : Int)) = True := by simp; omega
            have cm := hc m (by omega)
            have g1 : (0 < cmp3 (codeN (edge m)) (codeN x)) = False := by
              have := L3.out m hmn
              simp only [eq_iff_iff, iff_false]; unfold cmp3; split <;> (try split) <;> omega
            clear HM
            go_wp2_with (first | (go_at_call 10; refine (cmp_ok _ _ (by first | exact edge_lt _ | exact hx) (by first | exact edge_lt _ | exact hx) _).mono ?_; rintro e w' ⟨rfl, rfl⟩))
            exact ⟨⟨m + 1, rfl, Lib.hid (by omega)⟩, by simp [RowKit.intOf]; omega⟩
          · have hk2 : ((m : Int) < (n : Int)) = False := by simp; omega
            clear HM
            go_wp2_with (first | (go_at_call 11; refine (code_ok _ (by first | exact hx | decide) _).mono ?_; rintro e w' ⟨rfl, rfl⟩) | (go_at_call 12; go_in) | (go_at_call 13; go_in) | (go_at_call 14; refine (awake_ok _ (tab_drewN' htW _)).mono ?_; rintro e w2 ⟨rfl, hb2⟩))
            go_ret
            exact ⟨rfl, below_step (below_step hbel (below_drewN' W _)) hb2⟩
end Go.Proofs.YtepcfgcaekeniaaDoor
