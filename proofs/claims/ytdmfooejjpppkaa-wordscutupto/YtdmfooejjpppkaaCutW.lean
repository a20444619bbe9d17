/- WordsCut: joined bytes that are cut short, and packed words. -/
import Derived.Test.YtdmfooejjpppkaaRs
import Derived.Test.YtdmfooejjpppkaaPackW
namespace Go.Proofs.Ytdmfooejjpppkaa
open Go.RowKit

def sumM (L : Nat → Nat) : Nat → Nat
  | 0 => 0
  | i + 1 => sumM L i + min (L i) 5000
theorem sumM_le (L : Nat → Nat) (n : Nat) : sumM L n ≤ 5000 * n := by
  induction n with
  | zero => exact Nat.le_refl _
  | succ n ih => unfold sumM; omega
theorem sumM_part (L : Nat → Nat) (n i : Nat) (h : i < n) (hs : sumM L n ≤ 3000) : L i ≤ 3000 := by
  have mono : ∀ n, sumM L (i + 1) ≤ sumM L (i + 1 + n) := by
    intro n
    induction n with
    | zero => exact Nat.le_refl _
    | succ n ih => exact Nat.le_trans ih (by show sumM L (i + 1 + n) ≤ sumM L (i + 1 + n) + min (L (i + 1 + n)) 5000; omega)
  have h1 := mono (n - (i + 1))
  rw [show i + 1 + (n - (i + 1)) = n by omega] at h1
  have h2 : sumM L (i + 1) = sumM L i + min (L i) 5000 := rfl
  omega
theorem off_le (L : Nat → Nat) (n : Nat) (hs : sumM L n ≤ 3000) : offL L n ≤ sumM L n + 2 * n := by
  induction n with
  | zero => exact Nat.le_refl _
  | succ n ih =>
    have h2 : sumM L (n + 1) = sumM L n + min (L n) 5000 := rfl
    have h3 := ih (by omega)
    have h4 := (ul_pos (L n)).2
    have h5 : offL L (n + 1) = offL L n + (ul (L n) + L n) := rfl
    have h6 := sumM_part L (n + 1) n (by omega) hs
    omega
theorem slice_to8 (a : Option Addr) (len cap h : Nat) (w : World) (hh : h ≤ cap) : (Instr.slice 22 (.slice a len cap) none (some (.int .i64 (h : Nat))) none).run Try.prog w = .ok (.slice a h cap) w := by
  obtain ⟨i, hi, hzz⟩ := Option.map_eq_some_iff.1 infoB
  simp only [Prod.mk.injEq] at hzz
  have he : Try.prog.elem 22 = 5 := by kernel_rfl
  have hs : (sizeOf 5).run Try.prog w = .ok 1 w := by simp [sizeOf, typeInfo, hi, hzz.2.1]
  have ha : a.map (fun x : Addr => x.add 0) = a := by
    cases a with
    | none => rfl
    | some x => obtain ⟨b, o, s⟩ := x; simp [Addr.add]
  rw [run_slice_h (P := Try.prog) w 22 a len cap (by rw [he]; exact Try.underlying22) .i64 (h : Nat) (by omega) (by omega), he, hs]
  simp [Result.andThen, sliced, ha]
theorem slice_to64 (a : Option Addr) (len cap h : Nat) (w : World) (hh : h ≤ cap) : (Instr.slice 23 (.slice a len cap) none (some (.int .i64 (h : Nat))) none).run Try.prog w = .ok (.slice a h cap) w := by
  obtain ⟨i, hi, hzz⟩ := Option.map_eq_some_iff.1 infoU
  simp only [Prod.mk.injEq] at hzz
  have he : Try.prog.elem 23 = 26 := by kernel_rfl
  have hs : (sizeOf 26).run Try.prog w = .ok 1 w := by simp [sizeOf, typeInfo, hi, hzz.2.1]
  have ha : a.map (fun x : Addr => x.add 0) = a := by
    cases a with
    | none => rfl
    | some x => obtain ⟨b, o, s⟩ := x; simp [Addr.add]
  rw [run_slice_h (P := Try.prog) w 23 a len cap (by rw [he]; exact Try.underlying23) .i64 (h : Nat) (by omega) (by omega), he, hs]
  simp [Result.andThen, sliced, ha]
theorem short_torn (b : Nat → Nat) (n : Nat) (h : 0 < n) (hn : n ≤ 60000) : unE (packF b n) (need n - 1) = 4 := by
  have h0 : packF b n 0 = n := rfl
  unfold unE
  rw [h0, if_neg (by unfold need; omega), if_neg (by omega), if_pos (by unfold need; omega)]

/-- What a Split of k bytes tells: how many parts, what is wrong. -/
def CutR (L : Nat → Nat) (k i code : Nat) : Prop := (code = 0 ∧ offL L i = k) ∨ (code = 4 ∧ i = 0 ∧ ∀ j, offL L j ≠ k)
theorem CutR.one {L : Nat → Nat} {k i c i2 c2 : Nat} (h : CutR L k i c) (h2 : CutR L k i2 c2) : i2 = i ∧ c2 = c := by
  rcases h with ⟨a, b⟩ | ⟨a, b, d⟩ <;> rcases h2 with ⟨a2, b2⟩ | ⟨a2, b2, d2⟩
  · exact ⟨off_inj L _ _ (by omega), by omega⟩
  · exact absurd b (d2 _)
  · exact absurd b2 (d _)
  · exact ⟨by omega, by omega⟩
theorem cut_form {L : Nat → Nat} {k n : Nat} {e : Ending} (hn : 0 < n) (h : (∃ i, i < n ∧ offL L i = k ∧ ∃ pa pc, e = .returned (.tuple #[.slice pa i pc, .int .i64 0])) ∨ ((∀ i, offL L i ≠ k) ∧ e = .returned (.tuple #[.slice none 0 0, .int .i64 4]))) :
    ∃ (i code : Nat) (pa : Option Addr) (pc : Nat), e = .returned (.tuple #[.slice pa i pc, .int .i64 (code : Nat)]) ∧ i < n ∧ CutR L k i code ∧ code ≤ 4 := by
  rcases h with ⟨i, h1, h2, pa, pc, rfl⟩ | ⟨h1, rfl⟩
  · exact ⟨i, 0, pa, pc, rfl, h1, .inl ⟨rfl, h2⟩, by decide⟩
  · exact ⟨0, 4, none, 0, rfl, hn, .inr ⟨rfl, rfl, h1⟩, by decide⟩

set_option maxRecDepth 100000 in
set_option maxHeartbeats 4000000 in
theorem cut_ok (a : Option Addr) (len cap : Nat) (z : Int) (W : World) (A : Nat → Option Addr) (L C : Nat → Nat) (Z : Nat → Nat → Nat) (hP : PartsAt W a len A L C Z) (hlm : len ≤ maxLen) (hLm : ∀ i, i < len → L i ≤ maxLen) :
    Calls Try.prog 4 #[.slice a len cap, .int .i64 z] W fun e w' => e = .returned (.bool true) ∧ Below W.heap.size W w' := by
  have KA := hide awake_ok
  have HP := hide hP
  have HLM := hide hLm
  have hlm2 : len ≤ 9223372036854775807 := by unfold maxLen at hlm; omega
  clear hP hLm hlm
  go_enter Try.func4, Try.ntmps4
  go_wp2_with fail
  go_loop [5, 6] (fun vn vi => ∃ j : Nat, vi = .int .i64 j ∧ vn = .int .i64 (sumM L j : Nat) ∧ Hid (j ≤ len ∧ j ≤ 20)) (fun vn vi => 20 - (RowKit.intOf vi).toNat)
  case atStart => exact ⟨0, rfl, rfl, hide ⟨Nat.zero_le _, by decide⟩⟩
  case round =>
    obtain ⟨j, rfl, rfl, HJ⟩ := hrel
    obtain ⟨hj1, hj2⟩ := unhide HJ
    clear HJ
    by_cases hlt : j < len
    · have hlt' : (j : Int) < len := by omega
      by_cases h20 : j < 20
      · have h20' : (j : Int) < 20 := by omega
        obtain ⟨⟨xb, xo, rfl, c⟩, _⟩ := unhide HP j hlt
        have hs := sumM_le L j
        have HS := hide (show sumM L (j + 1) = sumM L j + min (L j) 5000 from rfl)
        have hlj : L j ≤ 9223372036854775807 := by have := unhide HLM j hlt; unfold maxLen at this; omega
        generalize sumM L j = s at *
        generalize L j = lj at *
        generalize A j = aj at *
        generalize C j = cj at *
        go_wp2
        refine ⟨⟨j + 1, by go_num, ?_, hide ⟨hlt, h20⟩⟩, by simp [RowKit.intOf]; omega⟩
        rw [unhide HS]
        congr 1
        split <;> omega
      · have h20' : ¬ (j : Int) < 20 := by omega
        have hl20 : (20 : Int) < len := by omega
        by_cases h3 : 3000 < sumM L j
        · have h3' : (3000 : Int) < (sumM L j : Nat) := by omega
          generalize sumM L j = s at *
          go_wp2_with fail
          refine (unhide KA W).mono ?_
          rintro e w1 ⟨rfl, hB⟩
          have HB := hide hB
          clear hB
          go_wp2
          go_ret
          exact ⟨rfl, unhide HB⟩
        · have h3' : ¬ (3000 : Int) < (sumM L j : Nat) := by omega
          generalize sumM L j = s at *
          go_wp2_with fail
          refine (unhide KA W).mono ?_
          rintro e w1 ⟨rfl, hB⟩
          have HB := hide hB
          clear hB
          go_wp2
          go_ret
          exact ⟨rfl, unhide HB⟩
    · have hlt' : ¬ (j : Int) < len := by omega
      obtain rfl : j = len := by omega
      have hl20 : ¬ (20 : Int) < j := by omega
      by_cases h3 : 3000 < sumM L j
      · have h3' : (3000 : Int) < (sumM L j : Nat) := by omega
        generalize sumM L j = s at *
        go_wp2_with fail
        refine (unhide KA W).mono ?_
        rintro e w1 ⟨rfl, hB⟩
        have HB := hide hB
        clear hB
        go_wp2
        go_ret
        exact ⟨rfl, unhide HB⟩
      · have h3' : ¬ (3000 : Int) < (sumM L j : Nat) := by omega
        have hs3 : sumM L j ≤ 3000 := by omega
        have hLj : ∀ i, i < j → L i ≤ 3000 := fun i hi => sumM_part L j i hi hs3
        have hL16 : ∀ i, i < j → L i < 16384 := fun i hi => by have := hLj i hi; omega
        have hJl := join_len L Z j hL16
        have hof := off_le L j hs3
        have KJ := hide (join_ok a j cap A L C Z W (unhide HP) hj2 hLj)
        have HJF := hide (fun t => joinF_lt L Z j t hL16 (fun i hi => (unhide HP i hi).2.2.1))
        have HJN := hide (show rowL (joinF L Z j) (offL L j) = joinL L Z j by rw [← hJl]; exact rowL_of _)
        have HLJ := hide hLj
        have KSP := hide split_ok
        have KRS := hide refSplit_ok
        have KPK := hide pack_ok
        have KUN := hide unpack_any
        clear hLj hL16
        generalize sumM L j = s at *
        go_wp2_with fail
        refine (unhide KJ).mono ?_
        rintro e w1 ⟨v1, rfl, hM⟩
        obtain ⟨va, vc, rfl, hvc, hNv⟩ := hM.own.nats
        rw [hJl] at hvc hNv ⊢
        have HB1 := hide hM.bel
        have HNV := hide (show Nats .u8 w1 va (offL L j) (joinF L Z j) from hNv)
        clear hM hNv hJl KJ
        by_cases h0 : offL L j = 0
        · have hj0 : j = 0 := by
            rcases Nat.eq_zero_or_pos j with h | h
            · exact h
            · have := off_lt L 0 j h; omega
          subst hj0
          have HO0 := hide h0
          rw [h0]
          go_wp2_with fail
          refine (unhide KA w1).mono ?_
          rintro e w2 ⟨rfl, hB⟩
          have HB := hide ((unhide HB1).trans (hB.mono (unhide HB1).size))
          clear hB
          go_wp2
          go_ret
          exact ⟨rfl, unhide HB⟩
        · have h0' : ¬ ((offL L j : Nat) : Int) = 0 := by omega
          obtain ⟨k, hk, hz⟩ := place z (offL L j) (by omega) (by omega)
          have hsl := slice_to8 va (offL L j) vc k
          have hcs := fun w => hsl w (by omega)
          have KSP1 := hide (unhide KSP va k vc j L Z w1 ((unhide HNV).to (by omega)) hk (by omega) hj2 (unhide HLJ) (by omega))
          have KRS1 := hide (fun w => unhide KRS k j L Z w (unhide HJF) hk hj2 (unhide HLJ) (by omega))
          have KPK1 := hide (fun w h => unhide KPK va (offL L j) vc (joinF L Z j) w h (fun i _ => unhide HJF i) (by omega))
          have HST := hide (short_torn (joinF L Z j) (offL L j) (by omega) (by omega))
          have hnd : ((need (offL L j) : Nat) : Int) - 1 = ((need (offL L j) - 1 : Nat) : Int) := by unfold need; omega
          have HPL := hide (fun i => pack_lt (joinF L Z j) (offL L j) i (fun i _ => unhide HJF i) (by omega))
          have HND := hide (show need (offL L j) - 1 ≤ need (offL L j) ∧ need (offL L j) ≤ 100000 from ⟨by omega, by unfold need; omega⟩)
          clear hsl KSP KRS KPK
          generalize hO : offL L j = O at *
          have HO := hide hO
          clear hO
          go_wp2_with fail
          refine (unhide KSP1).mono ?_
          rintro e w2 ⟨hB2, hS⟩
          have hj0 : 0 < j := by
            rcases Nat.eq_zero_or_pos j with h | h
            · subst h; exact absurd (unhide HO).symm h0
            · exact h
          obtain ⟨i, code, pa, pc, rfl, hij, hR, hcd⟩ := cut_form hj0 hS
          have HB2 := hide ((unhide HB1).trans (hB2.mono (unhide HB1).size))
          have HN2 := hide ((unhide HNV).on hB2)
          have HR := hide hR
          have hij' : (i : Int) < j := by omega
          clear hS hB2 hR KSP1 HNV
          have hcv := conv_str w2 va k vc (joinF L Z j) ((unhide HN2).to (by omega))
          go_wp2_with fail
          clear hcv
          refine (unhide KRS1 w2).mono ?_
          rintro e w3 ⟨hB3, hS⟩
          obtain ⟨i2, code2, pa2, pc2, rfl, hij2, hR2, hcd2⟩ := cut_form hj0 hS
          obtain ⟨rfl, rfl⟩ := (unhide HR).one hR2
          have HB3 := hide ((unhide HB2).trans (hB3.mono (unhide HB2).size))
          have HN3 := hide ((unhide HN2).on hB3)
          clear hS hB3 hR2 KRS1 HN2
          go_wp2_with fail
          refine (unhide KPK1 w3 (unhide HN3)).mono ?_
          rintro e w4 ⟨rfl, hM⟩
          have HB4 := hide ((unhide HB3).trans (hM.bel.mono (unhide HB3).size))
          have HNP := hide hM.nats
          clear hM KPK1 HN3
          generalize hND : need O = nd at *
          have HNDE := hide hND
          clear hND
          have hsl6 := fun (w : World) => slice_to64 (some ⟨w3.heap.size, 0, none⟩) nd nd (nd - 1) w (unhide HND).1
          have KU1 := hide (unhide KUN (some ⟨w3.heap.size, 0, none⟩) (nd - 1) nd (packF (joinF L Z j) O) w4 ((unhide HNP).to (unhide HND).1) (fun i _ => unhide HPL i) (by have := unhide HND; omega))
          rw [unhide HST] at KU1
          have hb1 : nd - 1 ≤ 100000 := by have := unhide HND; omega
          have hb2 : nd ≤ 100000 := (unhide HND).2
          generalize nd - 1 = nd1 at *
          go_wp2_with fail
          refine (unhide KU1).mono ?_
          rintro e w5 ⟨ya, yl, yc, f, rfl, hB5, _, _⟩
          have HB5 := hide ((unhide HB4).trans (hB5.mono (unhide HB4).size))
          clear hB5
          by_cases hc0 : code2 = 0
          · subst hc0
            go_wp2_with fail
            refine (unhide KA w5).mono ?_
            rintro e w6 ⟨rfl, hB⟩
            have HB := hide ((unhide HB5).trans (hB.mono (unhide HB5).size))
            clear hB
            go_wp2
            go_ret
            exact ⟨rfl, unhide HB⟩
          · have hc0' : ¬ (code2 : Int) = 0 := by omega
            go_wp2_with fail
            refine (unhide KA w5).mono ?_
            rintro e w6 ⟨rfl, hB⟩
            have HB := hide ((unhide HB5).trans (hB.mono (unhide HB5).size))
            clear hB
            go_wp2
            go_ret
            exact ⟨rfl, unhide HB⟩
end Go.Proofs.Ytdmfooejjpppkaa
