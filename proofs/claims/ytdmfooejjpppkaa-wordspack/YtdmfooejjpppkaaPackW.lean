/- WordsPack: bytes are packed and words read as the document says. -/
import Derived.Test.YtdmfooejjpppkaaRp
import Derived.Test.YtdmfooejjpppkaaBitsW
namespace Go.Proofs.Ytdmfooejjpppkaa
open Go.RowKit

theorem pack_back (b : Nat → Nat) (n : Nat) (hb : ∀ i, i < n → b i < 256) (hn : n ≤ 60000) : unE (packF b n) (need n) = 0 ∧ packF b n 0 = n ∧ ∀ i, i < n → byteF (packF b n) i = b i := by
  have h0 : packF b n 0 = n := rfl
  have hB : ∀ i, i < n → byteF (packF b n) i = b i := by
    intro i hi
    unfold byteF
    rw [show packF b n (1 + i / 8) = wordN b n (i / 8) by unfold packF; rw [if_neg (by omega), show 1 + i / 8 - 1 = i / 8 by omega]]
    exact byte_of b n i hi hb
  refine ⟨?_, h0, hB⟩
  have ho : over (packF b n) (need n) n = false := by
    refine over_false _ n ?_ ?_
    · unfold packF; split
      · omega
      · exact word_lt _ _ _ hb
    · intro i h1 h2
      unfold byteF
      rw [show packF b n (1 + i / 8) = wordN b n (i / 8) by unfold packF; rw [if_neg (by omega), show 1 + i / 8 - 1 = i / 8 by omega]]
      apply Nat.eq_of_testBit_eq
      intro m
      rw [show (256 : Nat) = 2 ^ 8 from rfl, Nat.testBit_mod_two_pow, Nat.testBit_div_two_pow, word_bit _ _ _ _ hb, Nat.zero_testBit]
      by_cases hm : m < 8
      · rw [decide_eq_false (show ¬ (m + 8 * (i % 8) < 64 ∧ 8 * (i / 8) + (m + 8 * (i % 8)) / 8 < n) by omega)]; simp
      · simp [hm]
  unfold unE
  rw [h0, if_neg (by unfold need; omega), if_neg (by omega), if_neg (by omega), if_neg]
  rintro (h | h)
  · omega
  · rw [ho] at h; cases h
theorem pack_lt (b : Nat → Nat) (n j : Nat) (hb : ∀ i, i < n → b i < 256) (hn : n ≤ 60000) : packF b n j < 18446744073709551616 := by
  unfold packF; split
  · omega
  · exact word_lt _ _ _ hb
theorem strB_zero (f : Nat → Nat) : strB f 0 = ⟨#[]⟩ := rfl

/-- What Unpack of any words and the document's own tell, as far as the law asks. -/
theorem conv_nil (w : World) : (convert 22 9 (.slice none 0 0)).run Try.prog w = .ok (.string ⟨#[]⟩) w := conv_str w none 0 0 (fun _ => 0) (fun i hi => by omega)

/-- The text that is told. -/
def resS (v : Nat → Nat) (m : Nat) : ByteArray := if unE v m = 0 then strB (byteF v) (v 0) else ⟨#[]⟩
theorem unpack_any (a : Option Addr) (m cap : Nat) (v : Nat → Nat) (w : World) (hN : Nats .u64 w a m v) (hv : ∀ i, i < m → v i < 18446744073709551616) (hm : m ≤ 100000) :
    Calls Try.prog 11 #[.slice a m cap] w fun e w' => ∃ ya yl yc f, e = .returned (.tuple #[.slice ya yl yc, .int .i64 (unE v m : Nat)]) ∧ Below w.heap.size w w' ∧ Nats .u8 w' ya yl f ∧ strB f yl = resS v m := by
  refine (unpack_ok a m cap v w hN hv hm).mono ?_
  rintro e w' ⟨hB, ⟨h, rfl⟩ | ⟨h, g, rfl, hM⟩⟩
  · exact ⟨none, 0, 0, fun _ => 0, rfl, hB, fun i hi => by omega, by unfold resS; rw [if_neg h]; rfl⟩
  · exact ⟨_, _, _, _, by rw [h]; rfl, hB, hM.nats, by unfold resS; rw [if_pos h]⟩
theorem refUnpack_any (a : Option Addr) (m cap : Nat) (v : Nat → Nat) (w : World) (hN : Nats .u64 w a m v) (hv : ∀ i, i < m → v i < 18446744073709551616) (hm : m ≤ 100000) :
    Calls Try.prog 12 #[.slice a m cap] w fun e w' => e = .returned (.tuple #[.string (resS v m), .int .i64 (unE v m : Nat)]) ∧ Below w.heap.size w w' := by
  refine (refUnpack_ok a m cap v w hN hv hm).mono ?_
  rintro e w' ⟨hB, ⟨h, rfl⟩ | ⟨h, rfl⟩⟩
  · exact ⟨by unfold resS; rw [if_neg h], hB⟩
  · exact ⟨by unfold resS; rw [if_pos h, h]; rfl, hB⟩

set_option maxRecDepth 100000 in
set_option maxHeartbeats 4000000 in
theorem packs_ok (a : Option Addr) (len cap : Nat) (a1 : Option Addr) (m cap1 : Nat) (W : World) (b v : Nat → Nat) (hN : Nats .u8 W a len b) (hb : ∀ i, i < len → b i < 256) (hV : Nats .u64 W a1 m v) (hv : ∀ i, i < m → v i < 18446744073709551616) :
    Calls Try.prog 5 #[.slice a len cap, .slice a1 m cap1] W fun e w' => e = .returned (.bool true) ∧ Below W.heap.size W w' := by
  have KA := hide awake_ok
  by_cases h1 : 5000 < len
  · have h1' : (5000 : Int) < len := by omega
    clear hN hb hV hv
    go_enter Try.func5, Try.ntmps5
    go_wp2_with fail
    refine (unhide KA W).mono ?_
    rintro e w1 ⟨rfl, hB⟩
    have HB := hide hB
    clear hB
    go_wp2
    go_ret
    exact ⟨rfl, unhide HB⟩
  · have h1' : ¬ (5000 : Int) < len := by omega
    by_cases h2 : 9000 < m
    · have h2' : (9000 : Int) < m := by omega
      clear hN hb hV hv
      go_enter Try.func5, Try.ntmps5
      go_wp2_with fail
      refine (unhide KA W).mono ?_
      rintro e w1 ⟨rfl, hB⟩
      have HB := hide hB
      clear hB
      go_wp2
      go_ret
      exact ⟨rfl, unhide HB⟩
    · have h2' : ¬ (9000 : Int) < m := by omega
      have KP := hide (pack_ok a len cap b W hN hb (by omega))
      have KU := hide unpack_ok
      have KR := hide (refUnpack_any a1 m cap1 v)
      have KU2 := hide (unpack_any a1 m cap1 v)
      have KRP := hide refPack_ok
      have KS := hide same_ok
      have KN := hide (need_ok len (by omega))
      have HPB := hide (pack_back b len hb (by omega))
      have HPL := hide (fun j => pack_lt b len j hb (by omega))
      have HN := hide hN
      have HV := hide hV
      have HBb := hide hb
      have HVv := hide hv
      have HND := hide (show need len ≤ 100000 by unfold need; omega)
      clear hN hV hb hv
      generalize hde : need len = d at *
      have HDE := hide hde
      clear hde
      go_enter Try.func5, Try.ntmps5
      go_wp2_with fail
      refine (unhide KP).mono ?_
      rintro e w1 ⟨rfl, hM⟩
      have HP := hide hM.nats
      have HB1 := hide hM.bel
      clear hM KP
      go_wp2_with fail
      refine (unhide KU _ d d (packF b len) w1 (unhide HP) (fun i _ => unhide HPL i) (unhide HND)).mono ?_
      rintro e w2 ⟨hB, ⟨hne, _⟩ | ⟨_, g, rfl, hM⟩⟩
      · exact absurd (unhide HPB).1 hne
      rw [(unhide HPB).2.1] at hM ⊢
      have HX := hide hM.nats
      have HB2 := hide hB
      clear hB hM
      have HW2 := hide ((unhide HB1).trans ((unhide HB2).mono (unhide HB1).size))
      go_wp2_with fail
      refine (unhide KU2 w2 ((unhide HV).on (unhide HW2)) (unhide HVv) (by omega)).mono ?_
      rintro e w3 ⟨ya, yl, yc, f, rfl, hB, hY, hS⟩
      have HW3 := hide ((unhide HW2).trans (hB.mono (unhide HW2).size))
      have HB3 := hide hB
      have HY := hide hY
      have HS := hide hS
      clear hB hY hS
      go_wp2_with fail
      refine (unhide KR w3 ((unhide HV).on (unhide HW3)) (unhide HVv) (by omega)).mono ?_
      rintro e w4 ⟨rfl, hB⟩
      have HW4 := hide ((unhide HW3).trans (hB.mono (unhide HW3).size))
      have HP4 := hide (((unhide HP).on (unhide HB2)).on ((unhide HB3).trans (hB.mono (unhide HB3).size)))
      have HX4 := hide ((unhide HX).on ((unhide HB3).trans (hB.mono (unhide HB3).size)))
      have HY4 := hide ((unhide HY).on hB)
      clear hB HP HX HY HB3 HB2 HB1
      have hc1 := conv_str w4 a len cap b ((unhide HN).on (unhide HW4))
      generalize hcode : unE v m = code at *
      clear hcode
      go_wp2_with fail
      clear hc1
      refine (unhide KRP b len w4 (unhide HBb) (by omega)).mono ?_
      rintro e w5 ⟨hB, g5, c5, rfl, hR⟩
      rw [unhide HDE] at hR ⊢
      have HW5 := hide ((unhide HW4).trans (hB.mono (unhide HW4).size))
      have HP5 := hide ((unhide HP4).on hB)
      have HX5 := hide ((unhide HX4).on hB)
      have HY5 := hide ((unhide HY4).on hB)
      have HR := hide hR
      clear hB hR HP4 HX4 HY4
      go_wp2_with fail
      refine (unhide KS _ _ d d c5 (packF b len) w5 (unhide HP5) (unhide HR) (by have := unhide HND; omega)).mono ?_
      rintro e w6 ⟨rfl, q, rfl⟩
      have HW6 := hide (Below.drewN' (unhide HW5) q)
      have hx6 := conv_str (w5.drewN q) (some ⟨g, 0, none⟩) len len _ ((unhide HX5).drewN q)
      rw [strB_congr _ b len (unhide HPB).2.2] at hx6
      have hb6 := conv_str (w5.drewN q) a len cap b ((unhide HN).on (unhide HW6))
      have hy6 := conv_str (w5.drewN q) ya yl yc f ((unhide HY5).drewN q)
      rw [unhide HS] at hy6
      have KN6 := hide (unhide KN (w5.drewN q))
      have KA6 := hide (unhide KA (w5.drewN q))
      generalize w5.drewN q = w6 at *
      generalize strB b len = sb at *
      generalize resS v m = sr at *
      go_wp2_with fail
      refine (unhide KN6).mono ?_
      rintro e w' ⟨rfl, h⟩; rw [h]; clear h w'
      go_wp2_with fail
      refine (unhide KA6).mono ?_
      rintro e w7 ⟨rfl, hB⟩
      have HW7 := hide ((unhide HW6).trans (hB.mono (unhide HW6).size))
      clear hB
      go_wp2
      go_ret
      exact ⟨rfl, unhide HW7⟩
end Go.Proofs.Ytdmfooejjpppkaa
