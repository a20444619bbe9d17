/- Words as bytes: filled, Unpack. -/
import Derived.Test.YtdmfooejjpppkaaUv
namespace Go.Proofs.Ytdmfooejjpppkaa
open Go.RowKit

/-- The i-th byte of the words behind the first. -/
def byteF (v : Nat → Nat) (i : Nat) : Nat := v (1 + i / 8) / 2 ^ (8 * (i % 8)) % 256
/-- Something but noughts stands behind the last byte. -/
def over (v : Nat → Nat) (m n : Nat) : Bool := decide (0 < n % 8) && decide (0 < v (m - 1) / 2 ^ (8 * (n % 8)))
/-- What is wrong with m words. -/
def unE (v : Nat → Nat) (m : Nat) : Nat := if m = 0 then 4 else if 65536 < v 0 then 3 else if m < need (v 0) then 4 else if need (v 0) < m ∨ over v m (v 0) = true then 3 else 0

theorem shr_nat (s k : Nat) : (s : Int) / 2 ^ k = ((s / 2 ^ k : Nat) : Int) := by
  rw [Int.natCast_ediv, Int.natCast_pow]; rfl

set_option maxRecDepth 100000 in
set_option maxHeartbeats 2000000 in
theorem filled_ok (a : Option Addr) (m cap : Nat) (v : Nat → Nat) (n : Nat) (w : World) (hN : Nats .u64 w a m v) (hn : n ≤ 65536) (hm : 0 < m) (hmm : m ≤ 100000) :
    Calls Try.prog 21 #[.slice a m cap, .int .i64 n] w fun e w' => e = .returned (.bool (over v m n)) ∧ ∃ q, w' = w.drewN q := by
  obtain ⟨xb, xo, rfl, c⟩ := hN (m - 1) (by omega)
  have KS := hide (shift_ok n (by omega))
  by_cases h : 0 < n % 8
  · have h' : (0 : Int) < (n : Int) % 8 := by omega
    have hc : (m : Int) - 1 = ((m - 1 : Nat) : Int) := by omega
    have hlt : m - 1 < m := by omega
    have HO := hide (show over v m n = decide (0 < v (m - 1) / 2 ^ (8 * (n % 8))) by unfold over; rw [decide_eq_true h]; rfl)
    have hs := shr_nat (v (m - 1)) (8 * (n % 8))
    clear hN
    generalize v (m - 1) = x at *
    generalize m - 1 = j at *
    by_cases h2 : 0 < x / 2 ^ (8 * (n % 8))
    · have h2' : (0 : Int) < (x : Int) / 2 ^ (8 * (n % 8)) := by rw [hs]; omega
      have HO := hide (show over v m n = true by rw [unhide HO, decide_eq_true h2])
      clear hs h2
      go_enter Try.func21, Try.ntmps21
      go_wp2_with fail
      refine region_tailP 14 (by kernel_rfl) (by kernel_rfl) ?_
      simp only [List.take, List.drop]
      repeat (go_big_quiet_step (first | (go_at_call 16; exact Calls.quiet_of_same (unhide KS _))))
      refine wpQuiet_nil ?_
      rintro _ ⟨nq, rfl⟩
      go_wp2
      go_ret
      exact ⟨by rw [unhide HO]; rfl, nq, rfl⟩
    · have h2' : (x : Int) / 2 ^ (8 * (n % 8)) = 0 := by
        rw [hs, Nat.eq_zero_of_not_pos h2]; rfl
      have HO := hide (show over v m n = false by rw [unhide HO, decide_eq_false h2])
      clear hs h2
      go_enter Try.func21, Try.ntmps21
      go_wp2_with fail
      refine region_tailP 14 (by kernel_rfl) (by kernel_rfl) ?_
      simp only [List.take, List.drop]
      repeat (go_big_quiet_step (first | (go_at_call 16; exact Calls.quiet_of_same (unhide KS _))))
      refine wpQuiet_nil ?_
      rintro _ ⟨nq, rfl⟩
      go_wp2
      go_ret
      exact ⟨by rw [unhide HO]; rfl, nq, rfl⟩
  · have h' : (n : Int) % 8 = 0 := by omega
    have HO := hide (show over v m n = false by unfold over; rw [decide_eq_false h]; rfl)
    clear hN c
    go_enter Try.func21, Try.ntmps21
    go_wp2_with fail
    refine region_tailP 14 (by kernel_rfl) (by kernel_rfl) ?_
    simp only [List.take, List.drop]
    repeat (go_big_quiet_step (fail))
    refine wpQuiet_nil ?_
    rintro _ ⟨nq, rfl⟩
    go_wp2
    go_ret
    exact ⟨by rw [unhide HO]; rfl, nq, rfl⟩

set_option maxRecDepth 100000 in
set_option maxHeartbeats 2000000 in
theorem unpack_ok (a : Option Addr) (m cap : Nat) (v : Nat → Nat) (w : World) (hN : Nats .u64 w a m v) (hv : ∀ i, i < m → v i < 18446744073709551616) (hm : m ≤ 100000) :
    Calls Try.prog 11 #[.slice a m cap] w fun e w' => Below w.heap.size w w' ∧
      ((unE v m ≠ 0 ∧ e = .returned (.tuple #[.slice none 0 0, .int .i64 (unE v m : Nat)])) ∨
       (unE v m = 0 ∧ ∃ g, e = .returned (.tuple #[.slice (some ⟨g, 0, none⟩) (v 0) (v 0), .int .i64 0]) ∧ Mem .u8 w g (v 0) (byteF v) w')) := by
  have HN := hide hN
  have KN := hide need_ok
  have KF := hide filled_ok
  by_cases h0 : m = 0
  · subst h0
    clear hN hv
    go_enter Try.func11, Try.ntmps11
    go_wp2
    go_ret2
    exact ⟨Below.refl _ _, .inl ⟨by simp [unE], rfl⟩⟩
  · obtain ⟨xb, xo, rfl, c⟩ := hN 0 (by omega)
    have hv0 := hv 0 (by omega)
    have hmi : ¬ (m : Int) = 0 := by omega
    rw [Nat.add_zero] at c
    by_cases h1 : 65536 < v 0
    · have h1' : (65536 : Int) < (v 0 : Nat) := by omega
      have HE := hide (show unE v m = 3 by unfold unE; rw [if_neg h0, if_pos h1])
      clear hN hv
      generalize v 0 = n at *
      go_enter Try.func11, Try.ntmps11
      go_wp2
      go_ret2
      exact ⟨Below.refl _ _, .inl ⟨(by rw [unhide HE]; decide), (by rw [unhide HE]; rfl)⟩⟩
    · have h1' : ¬ (65536 : Int) < (v 0 : Nat) := by omega
      have hw : wrap64 (v 0 : Nat) = (v 0 : Nat) := by unfold wrap64; omega
      by_cases h2 : m < need (v 0)
      · have h2' : (m : Int) < (need (v 0) : Nat) := by omega
        have HE := hide (show unE v m = 4 by unfold unE; rw [if_neg h0, if_neg h1, if_pos h2])
        clear hN hv
        generalize hn : v 0 = n at *
        have HV := hide hn
        have KN1 := hide (unhide KN n (by omega) w)
        clear hn h2
        generalize need n = d at *
        go_enter Try.func11, Try.ntmps11
        go_wp2_with fail
        refine (unhide KN1).mono ?_
        rintro e w' ⟨rfl, h⟩; rw [h]; clear h w'
        go_wp2
        go_ret2
        exact ⟨Below.refl _ _, .inl ⟨(by rw [unhide HE]; decide), (by rw [unhide HE]; rfl)⟩⟩
      · have h2' : ¬ (m : Int) < (need (v 0) : Nat) := by omega
        by_cases h3 : need (v 0) < m ∨ over v m (v 0) = true
        · have HE := hide (show unE v m = 3 by unfold unE; rw [if_neg h0, if_neg h1, if_neg h2, if_pos h3])
          have KF1 := hide (unhide KF (some ⟨xb, xo, none⟩) m cap v (v 0) w (unhide HN) (by omega) (by omega) hm)
          have KN1 := hide (unhide KN (v 0) (by omega) w)
          clear hN hv
          by_cases h4 : need (v 0) < m
          · have h4' : ((need (v 0) : Nat) : Int) < m := by omega
            clear h3
            generalize v 0 = n at *
            clear h2 h4
            generalize need n = d at *
            go_enter Try.func11, Try.ntmps11
            go_wp2_with fail
            refine (unhide KN1).mono ?_
            rintro e w' ⟨rfl, h⟩; rw [h]; clear h w'
            go_wp2_with fail
            refine (unhide KN1).mono ?_
            rintro e w' ⟨rfl, h⟩; rw [h]; clear h w'
            go_wp2
            go_ret2
            exact ⟨Below.refl _ _, .inl ⟨(by rw [unhide HE]; decide), (by rw [unhide HE]; rfl)⟩⟩
          · have h4' : ¬ ((need (v 0) : Nat) : Int) < m := by omega
            have ho : over v m (v 0) = true := by rcases h3 with h | h; exact absurd h h4; exact h
            rw [ho] at KF1
            clear h3 ho
            generalize v 0 = n at *
            clear h2 h4
            generalize need n = d at *
            go_enter Try.func11, Try.ntmps11
            go_wp2_with fail
            refine (unhide KN1).mono ?_
            rintro e w' ⟨rfl, h⟩; rw [h]; clear h w'
            go_wp2_with fail
            refine (unhide KN1).mono ?_
            rintro e w' ⟨rfl, h⟩; rw [h]; clear h w'
            go_wp2_with fail
            refine (unhide KF1).mono ?_
            rintro e w' ⟨rfl, q, rfl⟩
            go_wp2
            go_ret2
            exact ⟨Below.drewN' (Below.refl _ _) q, .inl ⟨(by rw [unhide HE]; decide), (by rw [unhide HE]; rfl)⟩⟩
        · have HE := hide (show unE v m = 0 by unfold unE; rw [if_neg h0, if_neg h1, if_neg h2, if_neg h3])
          have h4' : ¬ ((need (v 0) : Nat) : Int) < m := by omega
          have ho : over v m (v 0) = false := by
            cases h : over v m (v 0) with
            | true => exact absurd (.inr h) h3
            | false => rfl
          have KF1 := hide (unhide KF (some ⟨xb, xo, none⟩) m cap v (v 0) w (unhide HN) (by omega) (by omega) hm)
          rw [ho] at KF1
          have KN1 := hide (unhide KN (v 0) (by omega) w)
          have hmn : m = need (v 0) := by omega
          have HMN := hide (show m = 1 + (v 0 + 7) / 8 from hmn)
          have HVV := hide hv
          have KS := hide shift_ok
          clear hN hv h3 ho h4' h2 h2'
          rw [← hmn] at KN1
          clear hmn
          generalize hvn : v 0 = n at *
          have HV := hide hvn
          clear hvn
          go_enter Try.func11, Try.ntmps11
          go_wp2_with fail
          refine (unhide KN1).mono ?_
          rintro e w' ⟨rfl, h⟩; rw [h]; clear h w'
          go_wp2_with fail
          refine (unhide KN1).mono ?_
          rintro e w' ⟨rfl, h⟩; rw [h]; clear h w'
          go_wp2_with fail
          refine (unhide KF1).mono ?_
          rintro e w' ⟨rfl, nq, rfl⟩
          obtain ⟨w1, hmk, hM⟩ := make_bytes n (by omega) (w.drewN nq)
          have HM := hide (hM.since (Below.drewN' (Below.refl w.heap.size w) nq))
          have hg : (w.drewN nq).heap.size = w.heap.size := rfl
          rw [hg] at hmk HM
          clear hM c hg
          go_wp2_with fail
          go_loopw [37] (fun vi wr => ∃ k : Nat, vi = .int .i64 k ∧ Hid (k ≤ n ∧ Mem .u8 w w.heap.size n (fun i => if i < k then byteF v i else 0) wr)) (fun vi wr => n - (RowKit.intOf vi).toNat)
          case atStart => exact ⟨0, rfl, hide ⟨Nat.zero_le _, (unhide HM).ext fun i _ => by simp⟩⟩
          case round =>
            obtain ⟨k, rfl, HI⟩ := hrel
            obtain ⟨hk, hM⟩ := unhide HI
            by_cases hlt : k < n
            · have hlt' : (k : Int) < n := by omega
              have hp : 1 + k / 8 < m := by have := unhide HMN; omega
              obtain ⟨_, _, e1, c1⟩ := ((unhide HN).on hM.bel) (1 + k / 8) hp
              cases e1
              have c2 := hM.cell k hlt
              rw [if_neg (by omega)] at c2
              have z2 := hM.fz k
              have KS1 := hide (unhide KS k (by omega))
              have hx := unhide HVV (1 + k / 8) hp
              have HBF := hide (show v (1 + k / 8) / 2 ^ (8 * (k % 8)) % 256 = byteF v k from rfl)
              clear HI
              have HM1 := hide hM
              clear hM
              generalize v (1 + k / 8) = x at *
              have hst := fun (w : World) (a : Addr) (x : Int) (m : Mode) => run_store Try.prog w a (.int .u8 x) m rfl
              go_wp2_with fail
              refine region_tailP 13 (by kernel_rfl) (by kernel_rfl) ?_
              simp only [List.take, List.drop]
              repeat (go_big_quiet_step (first | (go_at_call 16; exact Calls.quiet_of_same (unhide KS1 _))))
              refine wpQuiet_nil ?_
              rintro _ ⟨nr, rfl⟩
              have hval : ((x : Int) / 2 ^ (8 * (k % 8))) % 256 = ((x / 2 ^ (8 * (k % 8)) % 256 : Nat) : Int) := by rw [shr_nat, Int.natCast_emod]; rfl
              rw [hval]
              have HM2 := hide (((unhide HM1).drewN nr).set k (x / 2 ^ (8 * (k % 8)) % 256) hlt)
              generalize x / 2 ^ (8 * (k % 8)) % 256 = y at *
              generalize hwd : wr.drewN nr = wd at *
              have c3 : wd.cell? ⟨w.heap.size, k, none⟩ = some (.int .u8 ((0 : Nat) : Int)) := by rw [← hwd]; exact c2
              have z3 : wd.frozen? ⟨w.heap.size, k, none⟩ = false := by rw [← hwd]; exact z2
              clear c1 c2 z2 hwd hmk hval
              go_wp2
              go_roundw
              case rel =>
                refine ⟨k + 1, by go_num, hide ⟨by omega, (unhide HM2).ext fun i _ => ?_⟩⟩
                by_cases hi : i = k
                · rw [if_pos hi, if_pos (by omega), hi, unhide HBF]
                · rw [if_neg hi]
                  by_cases h2 : i < k
                  · rw [if_pos h2, if_pos (by omega)]
                  · rw [if_neg h2, if_neg (by omega)]
              case measure => simp [RowKit.intOf]; omega
            · have hlt' : ¬ (k : Int) < n := by omega
              obtain rfl : k = n := by omega
              clear HI
              have HM1 := hide hM
              clear hM
              go_wp2
              go_ret2
              refine ⟨(unhide HM1).bel, .inr ⟨unhide HE, w.heap.size, ?_, ?_⟩⟩
              · rfl
              · exact (unhide HM1).ext fun i hi => by rw [if_pos hi]
end Go.Proofs.Ytdmfooejjpppkaa
