/- OrderChains walked. -/
import Derived.Test.YtnfpccmnifhflaaDoorInS
namespace Go.Proofs.YtnfpccmnifhflaaDoor
open Go.RowKit

set_option maxRecDepth 100000 in
set_option maxHeartbeats 16000000 in
theorem chains_ok (a : Option Addr) (la ca : Nat) (b : Option Addr) (lb cb : Nat) (w : World) (A B : Nat → List UInt8) (hA : StrsAt w a la A) (hB : StrsAt w b lb B) (hla : la ≤ maxLen) (hlb : lb ≤ maxLen) :
    Calls Tryd.prog 3 #[.slice a la ca, .slice b lb cb] w fun e w' => e = .returned (.bool true) ∧ Below w.heap.size w w' := by
  obtain ⟨n, hn, hna, hn8⟩ : ∃ n : Nat, min (la : Int) 8 = (n : Int) ∧ n ≤ la ∧ n ≤ 8 := ⟨min la 8, by omega, by omega, by omega⟩
  obtain ⟨m, hm, hmb, hm8⟩ : ∃ m : Nat, min (lb : Int) 8 = (m : Int) ∧ m ≤ lb ∧ m ≤ 8 := ⟨min lb 8, by omega, by omega, by omega⟩
  have HA := hide hA
  have HB := hide hB
  have HNA := hide (And.intro hna hn8)
  have HMB := hide (And.intro hmb hm8)
  clear hA hB hna hmb hn8 hm8
  unfold maxLen at hla hlb
  go_enter Tryd.func3, Tryd.ntmps3
  go_wp2_with fail
  clear hn hm
  go_loopw [5, 9] (fun x i wr => ∃ k : Nat, x = .string (bs (chs A k)) ∧ i = .int .i64 (k : Nat) ∧ Hid (k ≤ n ∧ (∀ j, j < k → (A j).length ≤ 200) ∧ Below w.heap.size w wr)) (fun _ i _ => n - (RowKit.intOf i).toNat)
  case atStart => exact ⟨0, rfl, rfl, hide ⟨Nat.zero_le _, fun j hj => by omega, Below.refl _ _⟩⟩
  case round =>
    obtain ⟨k, rfl, rfl, HI⟩ := hrel
    obtain ⟨hk, h200, hBl⟩ := unhide HI
    obtain ⟨hN1, hN2⟩ := unhide HNA
    by_cases hkn : k < n
    · have hkn' : ((k : Int) < (n : Int)) = True := by simp; omega
      obtain ⟨xb, xo, rfl, c1⟩ := ((unhide HA).on hBl) k (by omega)
      have hin : (k : Int) < (la : Int) := by omega
      have hsz := bs_size (A k)
      have hcl := chs_len A k h200
      have HBl := hide hBl
      by_cases hlen : (A k).length ≤ 200
      · have h2' : ((200 : Int) < ((A k).length : Int)) = False := by simp; omega
        have hl2 := code_len (A k)
        have T := text_ok (A k) (by omega)
        have ad := bs_add (chs A k) (code (A k)) (by omega)
        rw [← chs_succ] at ad
        have HH := hide (show ∀ j, j < k + 1 → (A j).length ≤ 200 from fun j hj => by
          rcases Nat.lt_or_ge j k with h | h
          · exact h200 j h
          · rw [show j = k by omega]; exact hlen)
        have HK1 := hide (show k + 1 ≤ n from hkn)
        clear HI hBl h200 hcl hl2 hlen hkn hk
        go_wp2_with fail
        refine (T _).mono ?_
        rintro e w1 ⟨rfl, b1⟩
        have HB1 := hide (thenB (unhide HBl) b1)
        clear b1 T HBl c1
        go_wp2
        go_roundw
        case rel => exact ⟨k + 1, rfl, by go_num, hide ⟨unhide HK1, unhide HH, unhide HB1⟩⟩
        case measure => have := unhide HK1; simp [RowKit.intOf]; omega
      · have h2' : ((200 : Int) < ((A k).length : Int)) = True := by simp; omega
        clear HI hBl h200 hcl hlen hkn hk
        go_wp2_with fail
        refine (awake_ok _).mono ?_
        rintro e w1 ⟨rfl, b1⟩
        go_wp2
        go_ret
        exact ⟨rfl, thenB (unhide HBl) b1⟩
    · have hkn' : ((k : Int) < (n : Int)) = False := by simp; omega
      obtain rfl : n = k := by omega
      have HSA := hide h200
      have HB0 := hide hBl
      clear HI h200 hBl hkn hk hN1 hN2
      generalize wr = wa at *
      clear wr
      go_wp2_with fail
      clear hkn'
      go_loopw [6, 10] (fun x i wr => ∃ k : Nat, x = .string (bs (chs B k)) ∧ i = .int .i64 (k : Nat) ∧ Hid (k ≤ m ∧ (∀ j, j < k → (B j).length ≤ 200) ∧ Below w.heap.size w wr)) (fun _ i _ => m - (RowKit.intOf i).toNat)
      case atStart => exact ⟨0, rfl, rfl, hide ⟨Nat.zero_le _, fun j hj => by omega, unhide HB0⟩⟩
      case round =>
        obtain ⟨k, rfl, rfl, HI⟩ := hrel
        obtain ⟨hk, h200, hBl⟩ := unhide HI
        obtain ⟨hN1, hN2⟩ := unhide HMB
        by_cases hkn : k < m
        · have hkn' : ((k : Int) < (m : Int)) = True := by simp; omega
          obtain ⟨xb, xo, rfl, c1⟩ := ((unhide HB).on hBl) k (by omega)
          have hin : (k : Int) < (lb : Int) := by omega
          have hsz := bs_size (B k)
          have hcl := chs_len B k h200
          have HBl := hide hBl
          by_cases hlen : (B k).length ≤ 200
          · have h2' : ((200 : Int) < ((B k).length : Int)) = False := by simp; omega
            have hl2 := code_len (B k)
            have T := text_ok (B k) (by omega)
            have ad := bs_add (chs B k) (code (B k)) (by omega)
            rw [← chs_succ] at ad
            have HH := hide (show ∀ j, j < k + 1 → (B j).length ≤ 200 from fun j hj => by
              rcases Nat.lt_or_ge j k with h | h
              · exact h200 j h
              · rw [show j = k by omega]; exact hlen)
            have HK1 := hide (show k + 1 ≤ m from hkn)
            clear HI hBl h200 hcl hl2 hlen hkn hk
            go_wp2_with fail
            refine (T _).mono ?_
            rintro e w1 ⟨rfl, b1⟩
            have HB1 := hide (thenB (unhide HBl) b1)
            clear b1 T HBl c1
            go_wp2
            go_roundw
            case rel => exact ⟨k + 1, rfl, by go_num, hide ⟨unhide HK1, unhide HH, unhide HB1⟩⟩
            case measure => have := unhide HK1; simp [RowKit.intOf]; omega
          · have h2' : ((200 : Int) < ((B k).length : Int)) = True := by simp; omega
            clear HI hBl h200 hcl hlen hkn hk
            go_wp2_with fail
            refine (awake_ok _).mono ?_
            rintro e w1 ⟨rfl, b1⟩
            go_wp2
            go_ret
            exact ⟨rfl, thenB (unhide HBl) b1⟩
        · have hkn' : ((k : Int) < (m : Int)) = False := by simp; omega
          obtain rfl : m = k := by omega
          have HSB := hide h200
          have HBy := hide hBl
          clear HI h200 hBl hkn hk hN1 hN2 HB0
          generalize wr = wb at *
          clear wr
          go_wp2_with fail
          clear hkn'
          go_loopw [11, 12] (fun c i wr => ∃ q : Nat, i = .int .i64 (q : Nat) ∧ ((c = .int .i64 0 ∧ Hid (q ≤ n ∧ q ≤ m ∧ (∀ j, j < q → A j = B j) ∧ Below w.heap.size w wr)) ∨ (c = .int .i64 (-1) ∧ Hid (chs A n < chs B m ∧ Below w.heap.size w wr)) ∨ (c = .int .i64 1 ∧ Hid (chs B m < chs A n ∧ Below w.heap.size w wr)))) (fun c i _ => if RowKit.intOf c = 0 then 100 - (RowKit.intOf i).toNat else 0)
          case atStart => exact ⟨0, rfl, .inl ⟨rfl, hide ⟨Nat.zero_le _, Nat.zero_le _, fun j hj => by omega, unhide HBy⟩⟩⟩
          case round =>
            obtain ⟨q, rfl, ⟨rfl, HI⟩ | ⟨rfl, HI⟩ | ⟨rfl, HI⟩⟩ := hrel
            · obtain ⟨hqn, hqm, heq, hBl⟩ := unhide HI
              obtain ⟨hN1, hN2⟩ := unhide HNA
              obtain ⟨hM1, hM2⟩ := unhide HMB
              by_cases h1 : q < n
              · have h1' : ((q : Int) < (n : Int)) = True := by simp; omega
                have h1g : ((n : Int) ≤ (q : Int)) = False := by simp; omega
                by_cases h2 : q < m
                · have h2g : ((m : Int) ≤ (q : Int)) = False := by simp; omega
                  obtain ⟨xb, xo, rfl, c1⟩ := ((unhide HA).on hBl) q (by omega)
                  obtain ⟨yb, yo, rfl, c2⟩ := ((unhide HB).on hBl) q (by omega)
                  have hi1 : (q : Int) < (la : Int) := by omega
                  have hi2 : (q : Int) < (lb : Int) := by omega
                  have hl1 := bs_less (A q) (B q)
                  have hl2 := bs_less (B q) (A q)
                  have HBl := hide hBl
                  have hq8 : q ≤ 8 := by omega
                  by_cases k1 : A q < B q
                  · rw [decide_eq_true k1] at hl1
                    have HR := hide (chs_part A B n m q heq h1 h2 k1)
                    clear HI hBl hl2 k1 heq h1 h2 hqn hqm
                    go_wp2_with fail
                    go_quiet (fail)
                    go_wp2
                    go_roundw
                    case rel => exact ⟨q + 1, by go_num, .inr (.inl ⟨rfl, hide ⟨unhide HR, Below.drewN' (unhide HBl) _⟩⟩)⟩
                    case measure => simp [RowKit.intOf]; omega
                  · rw [decide_eq_false k1] at hl1
                    by_cases k2 : B q < A q
                    · rw [decide_eq_true k2] at hl2
                      have hE : ((bs (A q)).toList == (bs (B q)).toList) = false := by rw [bs_beq]; exact decide_eq_false fun e => by rw [e] at k2; exact List.lt_irrefl _ k2
                      have HR := hide (chs_part B A m n q (fun j hj => (heq j hj).symm) h2 h1 k2)
                      clear HI hBl k1 k2 heq h1 h2 hqn hqm
                      go_wp2_with fail
                      go_quiet (fail)
                      go_wp2_with fail
                      have c1d : (wr.drewN nq).cell? ⟨xb, xo + q, none⟩ = some (.string (bs (A q))) := c1
                      have c2d : (wr.drewN nq).cell? ⟨yb, yo + q, none⟩ = some (.string (bs (B q))) := c2
                      have HBd := hide (Below.drewN' (unhide HBl) nq)
                      clear c1 c2 HBl
                      generalize wr.drewN nq = wd at *
                      go_quiet (fail)
                      go_wp2
                      go_roundw
                      case rel => exact ⟨q + 1, by go_num, .inr (.inr ⟨rfl, hide ⟨unhide HR, Below.drewN' (unhide HBd) _⟩⟩)⟩
                      case measure => simp [RowKit.intOf]; omega
                    · rw [decide_eq_false k2] at hl2
                      have HR := hide (show ∀ j, j < q + 1 → A j = B j from fun j hj => by
                        rcases Nat.lt_or_ge j q with h | h
                        · exact heq j h
                        · rw [show j = q by omega]
                          exact List.le_antisymm (List.not_lt.1 k2) (List.not_lt.1 k1))
                      have HQ9 := hide (And.intro h1 h2)
                      have hE : ((bs (A q)).toList == (bs (B q)).toList) = true := by rw [bs_beq]; exact decide_eq_true (unhide HR q (by omega))
                      clear HI hBl k1 k2 heq h1 h2 hqn hqm
                      go_wp2_with fail
                      go_quiet (fail)
                      go_wp2_with fail
                      have c1d : (wr.drewN nq).cell? ⟨xb, xo + q, none⟩ = some (.string (bs (A q))) := c1
                      have c2d : (wr.drewN nq).cell? ⟨yb, yo + q, none⟩ = some (.string (bs (B q))) := c2
                      have HBd := hide (Below.drewN' (unhide HBl) nq)
                      clear c1 c2 HBl
                      generalize wr.drewN nq = wd at *
                      go_quiet (fail)
                      go_wp2
                      go_roundw
                      case rel => exact ⟨q + 1, by go_num, .inl ⟨rfl, hide ⟨(unhide HQ9).1, (unhide HQ9).2, unhide HR, Below.drewN' (unhide HBd) _⟩⟩⟩
                      case measure => simp [RowKit.intOf]; omega
                · have h2g : ((m : Int) ≤ (q : Int)) = True := by simp; omega
                  have hqm2 : q = m := by omega
                  have HR := hide (chs_short B A m n (fun j hj => (heq j (by omega)).symm) (by omega))
                  have HBl := hide hBl
                  have hq8 : q ≤ 8 := by omega
                  clear HI hBl heq h1 h2 hqn hqm hqm2
                  go_wp2
                  go_roundw
                  case rel => exact ⟨q + 1, by go_num, .inr (.inr ⟨rfl, hide ⟨unhide HR, unhide HBl⟩⟩)⟩
                  case measure => simp [RowKit.intOf]; omega
              · have h1' : ((q : Int) < (n : Int)) = False := by simp; omega
                have h1g : ((n : Int) ≤ (q : Int)) = True := by simp; omega
                by_cases h2 : q < m
                · have h2' : ((q : Int) < (m : Int)) = True := by simp; omega
                  have HR := hide (chs_short A B n m (fun j hj => heq j (by omega)) (by omega))
                  have HBl := hide hBl
                  have hq8 : q ≤ 8 := by omega
                  clear HI hBl heq h1 h2 hqn hqm
                  go_wp2
                  go_roundw
                  case rel => exact ⟨q + 1, by go_num, .inr (.inl ⟨rfl, hide ⟨unhide HR, unhide HBl⟩⟩)⟩
                  case measure => simp [RowKit.intOf]; omega
                · have h2' : ((q : Int) < (m : Int)) = False := by simp; omega
                  have heq2 : chs A n = chs B m := by
                    rw [show m = n by omega]
                    exact chs_congr A B n fun j hj => heq j (by omega)
                  have L1 : Op.bytesLess (bs (chs A n)).toList (bs (chs B m)).toList = false := by rw [bs_less, heq2]; exact decide_eq_false (List.lt_irrefl _)
                  have E1 : ((bs (chs A n)).toList == (bs (chs B m)).toList) = true := by rw [bs_beq]; exact decide_eq_true heq2
                  have HBz := hide hBl
                  clear HI hBl heq h1 h2 hqn hqm heq2 hN1 hN2 hM1 hM2
                  generalize wr = wz at *
                  clear wr
                  go_wp2_with fail
                  clear L1 E1 h1' h2' h1g
                  go_loopw [13, 14, 15, 16, 17] (fun r i _ _ _ wr => ∃ q : Nat, r = .string (bs (chs (fun j => A (q + j)) (n - q))) ∧ i = .int .i64 (q : Nat) ∧ Hid (q ≤ n ∧ Below w.heap.size w wr)) (fun _ i _ _ _ _ => n - (RowKit.intOf i).toNat)
                  case atStart => exact ⟨0, by simp, rfl, hide ⟨Nat.zero_le _, unhide HBz⟩⟩
                  case round =>
                    obtain ⟨q, rfl, rfl, HI⟩ := hrel
                    obtain ⟨hq, hBl⟩ := unhide HI
                    obtain ⟨hN1, hN2⟩ := unhide HNA
                    by_cases hqn : q < n
                    · have hqn' : ((q : Int) < (n : Int)) = True := by simp; omega
                      obtain ⟨xb, xo, rfl, c1⟩ := ((unhide HA).on hBl) q (by omega)
                      have hin : (q : Int) < (la : Int) := by omega
                      have hcl := chs_len (fun j => A (q + j)) (n - q) (fun j hj => unhide HSA _ (by omega))
                      have T := take_ok (chs (fun j => A (q + j)) (n - q)) (by omega)
                      have e1 : chs (fun j => A (q + j)) (n - q) = enc (A q) ++ 0 :: 1 :: chs (fun j => A (q + 1 + j)) (n - (q + 1)) := by
                        rw [show n - q = (n - (q + 1)) + 1 by omega, chs_cons]
                        congr 3
                        exact chs_congr _ _ _ fun j _ => by rw [show q + (j + 1) = q + 1 + j by omega]
                      rw [e1, tk_code, ← e1] at T
                      have T' : ∀ w, Calls Tryd.prog 11 #[.string (bs (chs (fun j => A (q + j)) (n - q)))] w fun e w' => e = .returned (.tuple #[.string (bs (A q)), .string (bs (chs (fun j => A (q + 1 + j)) (n - (q + 1)))), .int .i64 0]) ∧ Below w.heap.size w w' := T
                      have HBl := hide hBl
                      have HQ := hide (show q + 1 ≤ n from hqn)
                      have HX := hide ((unhide HA).on hBl)
                      clear HI hBl hcl T e1 hq hqn
                      generalize chs (fun j => A (q + j)) (n - q) = rest at *
                      go_wp2_with fail
                      refine (T' _).mono ?_
                      rintro e w1 ⟨rfl, b1⟩
                      obtain ⟨_, _, e2, c2⟩ := ((unhide HX).on b1) q (by omega)
                      cases e2
                      have HB1 := hide (thenB (unhide HBl) b1)
                      clear b1 T' HBl c1 HX
                      go_wp2
                      go_roundw
                      case rel => exact ⟨q + 1, rfl, by go_num, hide ⟨unhide HQ, unhide HB1⟩⟩
                      case measure => have := unhide HQ; simp [RowKit.intOf]; omega
                    · have hqn' : ((q : Int) < (n : Int)) = False := by simp; omega
                      have e1 : bs (chs (fun j => A (q + j)) (n - q)) = ⟨#[]⟩ := by rw [show n - q = 0 by omega]; rfl
                      rw [e1]
                      have HBl := hide hBl
                      clear HI hBl hq hqn e1
                      go_wp2_with fail
                      refine (awake_ok _).mono ?_
                      rintro e w2 ⟨rfl, b2⟩
                      go_wp2
                      go_ret
                      exact ⟨rfl, thenB (unhide HBl) b2⟩
            · obtain ⟨hlt, hBl⟩ := unhide HI
              have L1 : Op.bytesLess (bs (chs A n)).toList (bs (chs B m)).toList = true := by rw [bs_less]; exact decide_eq_true hlt
              have E1 : ((bs (chs A n)).toList == (bs (chs B m)).toList) = false := by rw [bs_beq]; exact decide_eq_false fun e => by rw [e] at hlt; exact List.lt_irrefl _ hlt
              have HBz := hide hBl
              clear HI hBl hlt
              generalize wr = wz at *
              clear wr
              go_wp2_with fail
              clear L1 E1
              go_loopw [13, 14, 15, 16, 17] (fun r i _ _ _ wr => ∃ q : Nat, r = .string (bs (chs (fun j => A (q + j)) (n - q))) ∧ i = .int .i64 (q : Nat) ∧ Hid (q ≤ n ∧ Below w.heap.size w wr)) (fun _ i _ _ _ _ => n - (RowKit.intOf i).toNat)
              case atStart => exact ⟨0, by simp, rfl, hide ⟨Nat.zero_le _, unhide HBz⟩⟩
              case round =>
                obtain ⟨q, rfl, rfl, HI⟩ := hrel
                obtain ⟨hq, hBl⟩ := unhide HI
                obtain ⟨hN1, hN2⟩ := unhide HNA
                by_cases hqn : q < n
                · have hqn' : ((q : Int) < (n : Int)) = True := by simp; omega
                  obtain ⟨xb, xo, rfl, c1⟩ := ((unhide HA).on hBl) q (by omega)
                  have hin : (q : Int) < (la : Int) := by omega
                  have hcl := chs_len (fun j => A (q + j)) (n - q) (fun j hj => unhide HSA _ (by omega))
                  have T := take_ok (chs (fun j => A (q + j)) (n - q)) (by omega)
                  have e1 : chs (fun j => A (q + j)) (n - q) = enc (A q) ++ 0 :: 1 :: chs (fun j => A (q + 1 + j)) (n - (q + 1)) := by
                    rw [show n - q = (n - (q + 1)) + 1 by omega, chs_cons]
                    congr 3
                    exact chs_congr _ _ _ fun j _ => by rw [show q + (j + 1) = q + 1 + j by omega]
                  rw [e1, tk_code, ← e1] at T
                  have T' : ∀ w, Calls Tryd.prog 11 #[.string (bs (chs (fun j => A (q + j)) (n - q)))] w fun e w' => e = .returned (.tuple #[.string (bs (A q)), .string (bs (chs (fun j => A (q + 1 + j)) (n - (q + 1)))), .int .i64 0]) ∧ Below w.heap.size w w' := T
                  have HBl := hide hBl
                  have HQ := hide (show q + 1 ≤ n from hqn)
                  have HX := hide ((unhide HA).on hBl)
                  clear HI hBl hcl T e1 hq hqn
                  generalize chs (fun j => A (q + j)) (n - q) = rest at *
                  go_wp2_with fail
                  refine (T' _).mono ?_
                  rintro e w1 ⟨rfl, b1⟩
                  obtain ⟨_, _, e2, c2⟩ := ((unhide HX).on b1) q (by omega)
                  cases e2
                  have HB1 := hide (thenB (unhide HBl) b1)
                  clear b1 T' HBl c1 HX
                  go_wp2
                  go_roundw
                  case rel => exact ⟨q + 1, rfl, by go_num, hide ⟨unhide HQ, unhide HB1⟩⟩
                  case measure => have := unhide HQ; simp [RowKit.intOf]; omega
                · have hqn' : ((q : Int) < (n : Int)) = False := by simp; omega
                  have e1 : bs (chs (fun j => A (q + j)) (n - q)) = ⟨#[]⟩ := by rw [show n - q = 0 by omega]; rfl
                  rw [e1]
                  have HBl := hide hBl
                  clear HI hBl hq hqn e1
                  go_wp2_with fail
                  refine (awake_ok _).mono ?_
                  rintro e w2 ⟨rfl, b2⟩
                  go_wp2
                  go_ret
                  exact ⟨rfl, thenB (unhide HBl) b2⟩
            · obtain ⟨hlt, hBl⟩ := unhide HI
              have L1 : Op.bytesLess (bs (chs A n)).toList (bs (chs B m)).toList = false := by rw [bs_less]; exact decide_eq_false fun k => List.lt_irrefl _ (List.lt_trans hlt k)
              have E1 : ((bs (chs A n)).toList == (bs (chs B m)).toList) = false := by rw [bs_beq]; exact decide_eq_false fun e => by rw [e] at hlt; exact List.lt_irrefl _ hlt
              have HBz := hide hBl
              clear HI hBl hlt
              generalize wr = wz at *
              clear wr
              go_wp2_with fail
              clear L1 E1
              go_loopw [13, 14, 15, 16, 17] (fun r i _ _ _ wr => ∃ q : Nat, r = .string (bs (chs (fun j => A (q + j)) (n - q))) ∧ i = .int .i64 (q : Nat) ∧ Hid (q ≤ n ∧ Below w.heap.size w wr)) (fun _ i _ _ _ _ => n - (RowKit.intOf i).toNat)
              case atStart => exact ⟨0, by simp, rfl, hide ⟨Nat.zero_le _, unhide HBz⟩⟩
              case round =>
                obtain ⟨q, rfl, rfl, HI⟩ := hrel
                obtain ⟨hq, hBl⟩ := unhide HI
                obtain ⟨hN1, hN2⟩ := unhide HNA
                by_cases hqn : q < n
                · have hqn' : ((q : Int) < (n : Int)) = True := by simp; omega
                  obtain ⟨xb, xo, rfl, c1⟩ := ((unhide HA).on hBl) q (by omega)
                  have hin : (q : Int) < (la : Int) := by omega
                  have hcl := chs_len (fun j => A (q + j)) (n - q) (fun j hj => unhide HSA _ (by omega))
                  have T := take_ok (chs (fun j => A (q + j)) (n - q)) (by omega)
                  have e1 : chs (fun j => A (q + j)) (n - q) = enc (A q) ++ 0 :: 1 :: chs (fun j => A (q + 1 + j)) (n - (q + 1)) := by
                    rw [show n - q = (n - (q + 1)) + 1 by omega, chs_cons]
                    congr 3
                    exact chs_congr _ _ _ fun j _ => by rw [show q + (j + 1) = q + 1 + j by omega]
                  rw [e1, tk_code, ← e1] at T
                  have T' : ∀ w, Calls Tryd.prog 11 #[.string (bs (chs (fun j => A (q + j)) (n - q)))] w fun e w' => e = .returned (.tuple #[.string (bs (A q)), .string (bs (chs (fun j => A (q + 1 + j)) (n - (q + 1)))), .int .i64 0]) ∧ Below w.heap.size w w' := T
                  have HBl := hide hBl
                  have HQ := hide (show q + 1 ≤ n from hqn)
                  have HX := hide ((unhide HA).on hBl)
                  clear HI hBl hcl T e1 hq hqn
                  generalize chs (fun j => A (q + j)) (n - q) = rest at *
                  go_wp2_with fail
                  refine (T' _).mono ?_
                  rintro e w1 ⟨rfl, b1⟩
                  obtain ⟨_, _, e2, c2⟩ := ((unhide HX).on b1) q (by omega)
                  cases e2
                  have HB1 := hide (thenB (unhide HBl) b1)
                  clear b1 T' HBl c1 HX
                  go_wp2
                  go_roundw
                  case rel => exact ⟨q + 1, rfl, by go_num, hide ⟨unhide HQ, unhide HB1⟩⟩
                  case measure => have := unhide HQ; simp [RowKit.intOf]; omega
                · have hqn' : ((q : Int) < (n : Int)) = False := by simp; omega
                  have e1 : bs (chs (fun j => A (q + j)) (n - q)) = ⟨#[]⟩ := by rw [show n - q = 0 by omega]; rfl
                  rw [e1]
                  have HBl := hide hBl
                  clear HI hBl hq hqn e1
                  go_wp2_with fail
                  refine (awake_ok _).mono ?_
                  rintro e w2 ⟨rfl, b2⟩
                  go_wp2
                  go_ret
                  exact ⟨rfl, thenB (unhide HBl) b2⟩
end Go.Proofs.YtnfpccmnifhflaaDoor
