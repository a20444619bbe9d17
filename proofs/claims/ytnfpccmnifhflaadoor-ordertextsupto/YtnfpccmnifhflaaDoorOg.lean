/- The document's own codes, texts and scores. -/
import Derived.Test.YtnfpccmnifhflaaDoorOf
import Derived.Test.YtnfpccmnifhflaaDoorOe
namespace Go.Proofs.YtnfpccmnifhflaaDoor
open Go.RowKit

theorem be_take (C j : Nat) (hj : j < 8) : (be 8 C).take (j + 1) = (be 8 C).take j ++ [UInt8.ofNat (C / 256 ^ (7 - j))] := by
  rw [List.take_add_one, be_get 8 C j hj]
  rfl
set_option maxRecDepth 100000 in
set_option maxHeartbeats 2000000 in
theorem code8_ok (C : Nat) (hC : C < 18446744073709551616) (w : World) : Calls Tryd.prog 25 #[.int .u64 (C : Nat)] w fun e w' => e = .returned (.string (bs (be 8 C))) ∧ Below w.heap.size w w' := by
  have HC := hide hC
  go_enter Tryd.func25, Tryd.ntmps25
  go_wp2_with fail
  go_loopw [3, 4] (fun v i wr => ∃ k : Nat, i = .int .i64 (56 - 8 * (k : Int)) ∧ Hid (k ≤ 8 ∧ OwnL .u8 5 wr w.heap.size v (((be 8 C).take k).map UInt8.toNat) ∧ Below w.heap.size w wr)) (fun _ i _ => (RowKit.intOf i + 8).toNat)
  case atStart => exact ⟨0, rfl, hide ⟨Nat.zero_le _, OwnL.nil _ _ _ _, Below.refl _ _⟩⟩
  case round =>
    obtain ⟨k, rfl, HI⟩ := hrel
    obtain ⟨hk, hO, hB⟩ := unhide HI
    clear HI
    by_cases h8 : k < 8
    · have hg : (0 ≤ 56 - 8 * (k : Int)) = True := by simp; omega
      have hbs : w.heap.size ≤ wr.heap.size := hB.size
      have hlen : (((be 8 C).take k).map UInt8.toNat).length + 1 ≤ 100000000 := by rw [List.length_map, List.length_take, be_len]; omega
      have HO := hide hO
      have HB := hide hB
      have HT := hide (be_take C k h8)
      have hsh : (C : Int) / 2 ^ ((56 - 8 * (k : Int)).toNat) = ((C / 256 ^ (7 - k) : Nat) : Int) := by
        have e : (56 - 8 * (k : Int)).toNat = 8 * (7 - k) := by omega
        have e2 : (2 : Int) ^ (8 * (7 - k)) = ((256 ^ (7 - k) : Nat) : Int) := by rw [Int.pow_mul, Int.natCast_pow]; rfl
        rw [e, e2, Int.natCast_ediv]
      have hw1 : IntKind.u8.wrap ((C / 256 ^ (7 - k) : Nat) : Int) = (((UInt8.ofNat (C / 256 ^ (7 - k))).toNat : Nat) : Int) := by simp [IntKind.wrap, IntKind.bits, IntKind.signed]
      clear hO hB
      generalize hq : C / 256 ^ (7 - k) = q at *
      clear hq
      generalize hL : ((be 8 C).take k).map UInt8.toNat = L at *
      have HL := hide hL
      clear hL
      generalize hy : (UInt8.ofNat q).toNat = y at *
      have HY := hide hy
      clear hy
      go_wp2_with (at_builtin; refine append_u8 wr rfl (.tmp 9) (.tmp 14) rfl w.heap.size _ L y rfl (unhide HO) rfl hlen hbs ?_)
      intro v' w2 hP
      have HO2 := hide hP.own
      have HB2 := hide ((unhide HB).trans hP.bel)
      clear hP HO HB
      go_wp2
      go_roundw
      case rel =>
        refine ⟨k + 1, by congr 1; push_cast; omega, hide ⟨h8, ?_, unhide HB2⟩⟩
        have h := unhide HO2
        rw [← unhide HL, ← unhide HY] at h
        rw [unhide HT, List.map_append]
        exact h
      case measure => simp [RowKit.intOf]; omega
    · have hg : (0 ≤ 56 - 8 * (k : Int)) = False := by simp; omega
      obtain rfl : k = 8 := by omega
      have e : (be 8 C).take 8 = be 8 C := List.take_of_length_le (by rw [be_len]; omega)
      rw [e] at hO
      have hcv := conv_own wr w.heap.size _ (be 8 C) hO
      have HB := hide hB
      clear hO hB e
      go_wp2
      go_ret
      exact ⟨rfl, unhide HB⟩

set_option maxRecDepth 100000 in
set_option maxHeartbeats 2000000 in
theorem rtext_ok (l : List UInt8) (hl : l.length ≤ 10000000) (w : World) : Calls Tryd.prog 21 #[.string (bs l)] w fun e w' => e = .returned (.string (bs (code l))) ∧ Below w.heap.size w w' := by
  have hsz := bs_size l
  have HL := hide hl
  clear hl
  go_enter Tryd.func21, Tryd.ntmps21
  go_wp2_with fail
  go_loopw [3, 4] (fun v i wr => ∃ k : Nat, i = .int .i64 (k : Nat) ∧ Hid (k ≤ l.length ∧ OwnL .u8 5 wr w.heap.size v ((enc (l.take k)).map UInt8.toNat) ∧ Below w.heap.size w wr)) (fun _ i _ => l.length - (RowKit.intOf i).toNat)
  case atStart => exact ⟨0, rfl, hide ⟨Nat.zero_le _, OwnL.nil _ _ _ _, Below.refl _ _⟩⟩
  case round =>
    obtain ⟨k, rfl, HI⟩ := hrel
    obtain ⟨hk, hO, hB⟩ := unhide HI
    have hl := unhide HL
    have hel := enc_len (l.take k)
    rw [List.length_take, Nat.min_eq_left hk] at hel
    have hbs : w.heap.size ≤ wr.heap.size := hB.size
    have HO := hide hO
    have HB := hide hB
    clear HI hO hB
    by_cases hlt : k < l.length
    · have hlt' : ((k : Int) < (l.length : Int)) = True := by simp; omega
      obtain ⟨c, hc⟩ : ∃ c, l[k]? = some c := ⟨_, List.getElem?_eq_getElem hlt⟩
      have hix := bs_ix l k c hc
      have htk : l.take (k + 1) = l.take k ++ [c] := by rw [List.take_add_one, hc]; rfl
      have hlen : ((enc (l.take k)).map UInt8.toNat).length + 1 ≤ 100000000 := by rw [List.length_map]; omega
      have hlen2 : ((enc (l.take k)).map UInt8.toNat ++ [c.toNat]).length + 1 ≤ 100000000 := by rw [List.length_append, List.length_map]; simp; omega
      by_cases h0 : c = 0
      · subst h0
        have hix0 : ∀ w, (Instr.index 9 (.string (bs l)) (.int .i64 (k : Int))).run Tryd.prog w = .ok (.int .u8 0) w := hix
        have HE := hide (show (enc (l.take k)).map UInt8.toNat ++ [0, 255] = (enc (l.take (k + 1))).map UInt8.toNat by rw [htk, enc_app, List.map_append]; rw [show enc [0] = [0, 255] from rfl]; simp)
        have hlen3 : ((enc (l.take k)).map UInt8.toNat ++ [0]).length + 1 ≤ 100000000 := hlen2
        clear hix hc htk hlen2 hel
        generalize (enc (l.take k)).map UInt8.toNat = L at *
        go_wp2_with (at_builtin; refine append_u8 wr rfl (.tmp 11) (.tmp 15) rfl w.heap.size _ L 0 rfl (unhide HO) rfl hlen hbs ?_)
        intro v' w2 hP
        have HO2 := hide hP.own
        have HB2 := hide ((unhide HB).trans hP.bel)
        have hbs2 : w.heap.size ≤ w2.heap.size := ((unhide HB).trans hP.bel).size
        clear hP HO HB
        go_wp2_with (at_builtin; refine append_u8 w2 rfl (.tmp 21) (.tmp 22) rfl w.heap.size _ (L ++ [0]) 255 rfl (unhide HO2) rfl hlen3 hbs2 ?_)
        intro v3 w3 hP
        have HO3 := hide hP.own
        have HB3 := hide ((unhide HB2).trans hP.bel)
        clear hP HO2 HB2
        go_wp2
        go_roundw
        case rel => exact ⟨k + 1, by go_num, hide ⟨by omega, by rw [← unhide HE]; exact unhide HO3, unhide HB3⟩⟩
        case measure => simp [RowKit.intOf]; omega
      · have h0' : (((c.toNat : Nat) : Int) == 0) = false := by
          have : c.toNat ≠ 0 := fun e => h0 (UInt8.toNat_inj.1 e)
          simp; omega
        have HE := hide (show (enc (l.take k)).map UInt8.toNat ++ [c.toNat] = (enc (l.take (k + 1))).map UInt8.toNat by rw [htk, enc_app, List.map_append, enc_plain [c] (by simpa using h0)]; rfl)
        clear hc htk hlen2 hel h0
        generalize (enc (l.take k)).map UInt8.toNat = L at *
        generalize c.toNat = y at *
        go_wp2_with (at_builtin; refine append_u8 wr rfl (.tmp 11) (.tmp 15) rfl w.heap.size _ L y rfl (unhide HO) rfl hlen hbs ?_)
        intro v' w2 hP
        have HO2 := hide hP.own
        have HB2 := hide ((unhide HB).trans hP.bel)
        clear hP HO HB
        go_wp2
        go_roundw
        case rel => exact ⟨k + 1, by go_num, hide ⟨by omega, by rw [← unhide HE]; exact unhide HO2, unhide HB2⟩⟩
        case measure => simp [RowKit.intOf]; omega
    · have hlt' : ((k : Int) < (l.length : Int)) = False := by simp; omega
      obtain rfl : k = l.length := by omega
      rw [List.take_length] at HO hel
      have b0 : Below wr.heap.size wr (wr.alloc (.cells #[.int .u8 0, .int .u8 1] 5)) := (Below.refl _ wr).alloc (Nat.le_refl _) _
      have HN := hide (show Nats .u8 (wr.alloc (.cells #[.int .u8 0, .int .u8 1] 5)) (some ⟨wr.heap.size, 0, none⟩) 2 (fun i => i) from fun i hi => ⟨_, _, rfl, by
        rcases i with _ | _ | i
        · simp
        · simp
        · omega⟩)
      have HOb := hide ((unhide HO).below b0 (Nat.le_refl _))
      have HBb := hide (Below.up (unhide HB) b0 hbs)
      have hln : ((enc l).map UInt8.toNat).length + 2 ≤ 100000000 := by rw [List.length_map]; omega
      clear b0 HO hel HB
      go_wp2_with (at_builtin; refine append_row infoB (by decide) Tryd.underlying52 _ rfl (.tmp 24) (.tmp 25) rfl w.heap.size _ ((enc l).map UInt8.toNat) rfl (unhide HOb) (some ⟨wr.heap.size, 0, none⟩) 2 2 (fun i => i) rfl (fun e => by cases e) (unhide HN) hln (by simp; omega) ?_)
      intro v' w2 hP
      have hO2 := hP.own
      rw [show rowL (fun i => i) 2 = [0, 1] from rfl, show (enc l).map UInt8.toNat ++ [0, 1] = (code l).map UInt8.toNat by simp [code]] at hO2
      have hcv := conv_own w2 w.heap.size _ (code l) hO2
      have HB2 := hide ((unhide HBb).trans hP.bel)
      clear hP hO2
      go_wp2
      go_ret
      exact ⟨rfl, unhide HB2⟩
end Go.Proofs.YtnfpccmnifhflaaDoor
