/- The document's own Take and TakeScore; what the document fixes. -/
import Derived.Test.YtnfpccmnifhflaaDoorOg
import Derived.Test.YtnfpccmnifhflaaDoorOd
namespace Go.Proofs.YtnfpccmnifhflaaDoor
open Go.RowKit

set_option maxRecDepth 100000 in
set_option maxHeartbeats 2000000 in
theorem rtake_ok (l : List UInt8) (hl : l.length ≤ 10000000) (w : World) : Calls Tryd.prog 20 #[.string (bs l)] w fun e w' => e = .returned (.tuple (tkV (tk l))) ∧ Below w.heap.size w w' := by
  have hsz := bs_size l
  obtain ⟨T, hT⟩ : ∃ T, tk l = T := ⟨_, rfl⟩
  rw [hT]
  have HT := hide hT
  have HL := hide hl
  clear hl hT
  go_enter Tryd.func20, Tryd.ntmps20
  go_wp2_with fail
  go_loopw [5, 6] (fun v i wr => ∃ (k : Nat) (acc : List UInt8), i = .int .i64 (k : Nat) ∧ Hid (k ≤ l.length ∧ acc.length ≤ k ∧ T = Tk.app acc (tk (l.drop k)) ∧ OwnL .u8 5 wr w.heap.size v (acc.map UInt8.toNat) ∧ Below w.heap.size w wr)) (fun _ i _ => l.length - (RowKit.intOf i).toNat)
  case atStart =>
    refine ⟨0, [], rfl, hide ⟨Nat.zero_le _, Nat.zero_le _, ?_, OwnL.nil _ _ _ _, Below.refl _ _⟩⟩
    rw [← unhide HT, List.drop_zero, tk_norm]
  case round =>
    obtain ⟨k, acc, rfl, HI⟩ := hrel
    obtain ⟨hk, ha, hT, hO, hB⟩ := unhide HI
    have hl := unhide HL
    have HO := hide hO
    have HB := hide hB
    have HA := hide ha
    have hbs : w.heap.size ≤ wr.heap.size := hB.size
    clear HI hO hB
    by_cases hend : k = l.length
    · have he : ((k : Int) < (l.length : Int)) = False := by simp; omega
      have HV := hide (tk_err acc (l.drop k) T 4 hT (by rw [hend, List.drop_length, tk_nil]) (by decide))
      clear hT hend
      go_wp2
      go_ret3
      exact ⟨by rw [unhide HV]; rfl, unhide HB⟩
    · have he : ((k : Int) < (l.length : Int)) = True := by simp; omega
      obtain ⟨c, hc⟩ : ∃ c, l[k]? = some c := ⟨_, List.getElem?_eq_getElem (by omega)⟩
      have hix := bs_ix l k c hc
      have hd := drop_at l k c hc
      have hlen : (acc.map UInt8.toNat).length + 1 ≤ 100000000 := by rw [List.length_map]; have := unhide HA; omega
      by_cases h0 : c = 0
      · subst h0
        have h0' : ((((0 : UInt8).toNat : Nat) : Int) == 0) = true := rfl
        have hix0 : ∀ w, (Instr.index 9 (.string (bs l)) (.int .i64 (k : Int))).run Tryd.prog w = .ok (.int .u8 0) w := hix
        clear hix
        by_cases hlast : k + 1 = l.length
        · have hl2 : ((l.length : Int) ≤ (k : Int) + 1) = True := by simp; omega
          have HV := hide (tk_err acc (l.drop k) T 4 hT (by rw [hd, hlast, List.drop_length, tk_zero]) (by decide))
          clear hT hd hc
          go_wp2
          go_ret3
          exact ⟨by rw [unhide HV]; rfl, unhide HB⟩
        · have hl2 : ((l.length : Int) ≤ (k : Int) + 1) = False := by simp; omega
          obtain ⟨d, hdd⟩ : ∃ d, l[k + 1]? = some d := ⟨_, List.getElem?_eq_getElem (by omega)⟩
          have hix1 : ∀ w, (Instr.index 9 (.string (bs l)) (.int .i64 ((k : Int) + 1))).run Tryd.prog w = .ok (.int .u8 ((d.toNat : Nat) : Int)) w := bs_ix l (k + 1) d hdd
          have hd1 := drop_at l (k + 1) d hdd
          rw [hd1] at hd
          by_cases h5 : d = 255
          · subst h5
            have hix2 : ∀ w, (Instr.index 9 (.string (bs l)) (.int .i64 ((k : Int) + 1))).run Tryd.prog w = .ok (.int .u8 255) w := hix1
            clear hix1
            have HT2 := hide (show T = Tk.app (acc ++ [0]) (tk (l.drop (k + 2))) by rw [hT, hd, tk_byte, Tk.app_app])
            have HM := hide (show (acc.map UInt8.toNat) ++ [0] = (acc ++ [0]).map UInt8.toNat by simp)
            clear hT hd hd1 hc hdd
            generalize acc.map UInt8.toNat = L at *
            go_wp2_with (at_builtin; refine append_u8 wr rfl (.tmp 42) (.tmp 43) rfl w.heap.size _ L 0 rfl (unhide HO) rfl hlen hbs ?_)
            intro v' w2 hP
            have HO2 := hide hP.own
            have HB2 := hide ((unhide HB).trans hP.bel)
            clear hP HO HB
            go_wp2
            go_roundw
            case rel => exact ⟨k + 2, acc ++ [0], by go_num, hide ⟨by omega, by have := unhide HA; simp; omega, unhide HT2, by rw [← unhide HM]; exact unhide HO2, unhide HB2⟩⟩
            case measure => simp [RowKit.intOf]; omega
          · have h5' : (((d.toNat : Nat) : Int) == 255) = false := by
              have : d.toNat ≠ 255 := fun e => h5 (UInt8.toNat_inj.1 e)
              simp; omega
            by_cases h1 : d = 1
            · subst h1
              have hix2 : ∀ w, (Instr.index 9 (.string (bs l)) (.int .i64 ((k : Int) + 1))).run Tryd.prog w = .ok (.int .u8 1) w := hix1
              clear hix1
              have HV := hide (tk_done acc (l.drop k) (l.drop (k + 2)) T hT (by rw [hd, tk_end]))
              have hfr : ∀ w, (Instr.slice 9 (.string (bs l)) (some (.int .i64 ((k : Int) + 2))) none none).run Tryd.prog w = .ok (.string (bs (l.drop (k + 2)))) w := bs_from l (k + 2) .i64 (by omega)
              have hk2 : (k : Int) + 2 ≤ (l.length : Int) := by omega
              have hk3 : (0 : Int) ≤ (k : Int) + 2 := by omega
              have htn : ((k : Int) + 2).toNat = k + 2 := by omega
              have hwk : IntKind.i64.wrap ((k : Int) + 2) = (k : Int) + 2 := by rw [IntKind.wrap_i64]; omega
              have hex : (bs l).extract (k + 2) l.length = bs (l.drop (k + 2)) := by rw [bs_extract, List.take_length]
              clear hT hd hd1 hc hdd h5'
              generalize l.drop (k + 2) = r at *
              have hcv := conv_own wr w.heap.size _ acc (unhide HO)
              go_wp2_with fail
              have hcq := fun q => conv_own (wr.drewN q) w.heap.size _ acc (OwnL.drewN (unhide HO) q)
              go_quiet (fail)
              go_wp2
              go_ret3
              exact ⟨by rw [unhide HV]; rfl, Below.drewN' (unhide HB) nq⟩
            · have h1' : (((d.toNat : Nat) : Int) == 1) = false := by
                have : d.toNat ≠ 1 := fun e => h1 (UInt8.toNat_inj.1 e)
                simp; omega
              have HV := hide (tk_err acc (l.drop k) T 3 hT (by rw [hd, tk_bad d _ h5 h1]) (by decide))
              clear hT hd hd1 hc hdd
              generalize d.toNat = z at *
              go_wp2
              go_ret3
              exact ⟨by rw [unhide HV]; rfl, unhide HB⟩
      · have h0' : (((c.toNat : Nat) : Int) == 0) = false := by
          have : c.toNat ≠ 0 := fun e => h0 (UInt8.toNat_inj.1 e)
          simp; omega
        have HT2 := hide (show T = Tk.app (acc ++ [c]) (tk (l.drop (k + 1))) by rw [hT, hd, tk_cons c _ h0, Tk.app_app])
        have HM := hide (show (acc.map UInt8.toNat) ++ [c.toNat] = (acc ++ [c]).map UInt8.toNat by simp)
        clear hT hd hc h0
        generalize acc.map UInt8.toNat = L at *
        generalize c.toNat = y at *
        go_wp2_with (at_builtin; refine append_u8 wr rfl (.tmp 17) (.tmp 21) rfl w.heap.size _ L y rfl (unhide HO) rfl hlen hbs ?_)
        intro v' w2 hP
        have HO2 := hide hP.own
        have HB2 := hide ((unhide HB).trans hP.bel)
        clear hP HO HB
        go_wp2
        go_roundw
        case rel => exact ⟨k + 1, acc ++ [c], by go_num, hide ⟨by omega, by have := unhide HA; simp; omega, unhide HT2, by rw [← unhide HM]; exact unhide HO2, unhide HB2⟩⟩
        case measure => simp [RowKit.intOf]; omega

/-- What the document's own TakeScore tells. -/
theorem back_is (c : Nat) (hc : c < 18446744073709551616) : (nanB (backB c) = false ∧ codeN (backN c) = c ∧ backN c = backB c) ∨ (nanB (backB c) = true ∧ c = 18446744073709551615 ∧ codeN (backN c) = c ∧ backN c = 9221120237041090561) ∨ (nanB (backB c) = true ∧ c ≠ 18446744073709551615 ∧ codeN (backN c) ≠ c) := by
  cases hn : nanB (backB c) with
  | false =>
    have hN : backN c = backB c := by unfold backN; rw [if_neg (by rw [hn]; decide)]
    refine .inl ⟨rfl, ?_, hN⟩
    rw [hN]
    unfold codeN
    rw [if_neg (by rw [hn]; decide)]
    unfold backB
    by_cases h : c < 9223372036854775808
    · rw [if_pos h, if_neg (by omega)]; omega
    · rw [if_neg h, if_pos (by omega)]; omega
  | true =>
    have hN : backN c = 9221120237041090561 := by unfold backN; rw [if_pos hn]
    have hC : codeN (backN c) = 18446744073709551615 := by rw [hN]; decide
    by_cases h : c = 18446744073709551615
    · exact .inr (.inl ⟨rfl, h, by rw [hC, h], hN⟩)
    · exact .inr (.inr ⟨rfl, h, by rw [hC]; exact fun e => h e.symm⟩)
set_option maxRecDepth 100000 in
set_option maxHeartbeats 2000000 in
theorem rtakeScore_ok (l : List UInt8) (hl : l.length ≤ 281474976710656) (w : World) : Calls Tryd.prog 23 #[.string (bs l)] w fun e w' => e = .returned (.tuple (tsV l)) ∧ Below w.heap.size w w' := by
  have hsz := bs_size l
  by_cases h8 : l.length < 8
  · have HT := hide (show tsV l = #[.float .f64 0, .string (bs []), .int .i64 4] by unfold tsV; rw [if_pos h8])
    have h8' : ((l.length : Int) < 8) = True := by simp; omega
    go_enter Tryd.func23, Tryd.ntmps23
    go_wp2
    go_ret3
    exact ⟨by rw [unhide HT]; rfl, Below.refl _ _⟩
  · have h8' : ((l.length : Int) < 8) = False := by simp; omega
    have H := hide (show 8 ≤ l.length by omega)
    have hB := refBack_ok (unbe (l.take 8)) (unbe8 l)
    have hfr : ∀ w, (Instr.slice 9 (.string (bs l)) (some (.int .i64 8)) none none).run Tryd.prog w = .ok (.string (bs (l.drop 8))) w := bs_from l 8 .i64 (by omega)
    have HV : Hid (tsV l = if codeN (backN (unbe (l.take 8))) = unbe (l.take 8) then #[.float .f64 (backN (unbe (l.take 8))), .string (bs (l.drop 8)), .int .i64 0] else #[.float .f64 0, .string (bs []), .int .i64 3]) := hide (by unfold tsV; rw [if_neg h8])
    have HB := hide (back_is (unbe (l.take 8)) (unbe8 l))
    have hf := from_run
    clear h8
    go_enter Tryd.func23, Tryd.ntmps23
    go_wp2_with fail
    go_loop [5, 6] (fun a i => ∃ k : Nat, a = .int .u64 (unbe (l.take k) : Nat) ∧ i = .int .i64 (k : Nat) ∧ Hid (k ≤ 8)) (fun _ i => 8 - (RowKit.intOf i).toNat)
    case atStart => exact ⟨0, rfl, rfl, hide (by omega)⟩
    case round =>
      obtain ⟨k, rfl, rfl, HK⟩ := hrel
      have hk := unhide HK
      by_cases h8 : k < 8
      · have h8' : ((k : Int) < 8) = True := by simp; omega
        have hl : k < l.length := by have := unhide H; omega
        have hc : l[k]? = some l[k] := List.getElem?_eq_getElem hl
        have hix := bs_ix l k l[k] hc
        have HS := hide (unbe_snoc l k l[k] hc)
        have hb := unbe_lt (l.take k)
        rw [List.length_take, Nat.min_eq_left (by omega)] at hb
        have hb2 : 256 ^ k ≤ 256 ^ 7 := Nat.pow_le_pow_right (by decide) (by omega)
        have hb3 : unbe (l.take k) < 72057594037927936 := Nat.lt_of_lt_of_le hb (by simpa using hb2)
        have hor := or8 (unbe (l.take k)) l[k].toNat hb3 l[k].toNat_lt
        have hw1 : IntKind.u64.wrap ((unbe (l.take k) : Int) * 256) = (unbe (l.take k) : Int) * 256 := by rw [IntKind.wrap_u64]; omega
        have hw2 : IntKind.u64.wrap ((l[k].toNat : Nat) : Int) = ((l[k].toNat : Nat) : Int) := by rw [IntKind.wrap_u64]; have := l[k].toNat_lt; omega
        rw [← unhide HS] at hor
        clear hb hb2 hb3 HS HK hc hk hB HV HB
        obtain ⟨y, hy⟩ : ∃ y, unbe (l.take (k + 1)) = y := ⟨_, rfl⟩
        rw [hy] at hor
        have HY := hide hy
        clear hy
        generalize unbe (l.take k) = x at *
        generalize l[k].toNat = z at *
        clear hl
        go_wp2
        exact ⟨⟨k + 1, by rw [unhide HY], by go_num, hide h8⟩, by simp [RowKit.intOf]; omega⟩
      · have h8' : ((k : Int) < 8) = False := by simp; omega
        obtain rfl : k = 8 := by omega
        rcases unhide HB with ⟨b1, b2, b3⟩ | ⟨b1, b2, b3, b4⟩ | ⟨b1, b2, b3⟩
        · have HW := hide ((unhide HV).trans (if_pos b2))
          rw [b3] at HW
          rw [b1] at hB
          clear HV b1 b2 b3 HB HK hk h8
          generalize backB (unbe (l.take 8)) = x at *
          generalize unbe (l.take 8) = c at *
          generalize l.drop 8 = r at *
          go_wp2_with (first | (go_at_call 36; refine (hB _).mono ?_; rintro e w' ⟨rfl, rfl⟩))
          go_quiet (fail)
          go_wp2
          go_ret3
          exact ⟨by rw [unhide HW]; rfl, Below.drewN' (Below.refl _ _) nq⟩
        · have HW := hide ((unhide HV).trans (if_pos b3))
          rw [b4] at HW
          rw [b1] at hB
          have hne : (((unbe (l.take 8) : Nat) : Int) == 18446744073709551615) = true := by rw [b2]; rfl
          clear HV b1 b2 b3 b4 HB HK hk h8
          generalize backB (unbe (l.take 8)) = x at *
          generalize unbe (l.take 8) = c at *
          generalize l.drop 8 = r at *
          go_wp2_with (first | (go_at_call 36; refine (hB _).mono ?_; rintro e w' ⟨rfl, rfl⟩))
          have hN := nan_ok
          go_quiet (first | (go_at_call 37; exact Calls.quiet_of_same (hN _)))
          go_wp2
          go_ret3
          exact ⟨by rw [unhide HW]; rfl, Below.drewN' (Below.refl _ _) nq⟩
        · have HW := hide ((unhide HV).trans (if_neg b3))
          rw [b1] at hB
          have hne : (((unbe (l.take 8) : Nat) : Int) == 18446744073709551615) = false := by simp; omega
          clear HV b1 b2 b3 HB HK hk h8
          generalize backB (unbe (l.take 8)) = x at *
          generalize unbe (l.take 8) = c at *
          go_wp2_with (first | (go_at_call 36; refine (hB _).mono ?_; rintro e w' ⟨rfl, rfl⟩))
          go_ret3
          exact ⟨by rw [unhide HW]; rfl, Below.refl _ _⟩

set_option maxRecDepth 100000 in
set_option maxHeartbeats 2000000 in
theorem awake_ok (w : World) : Calls Tryd.prog 9 #[] w fun e w' => e = .returned (.bool true) ∧ Below w.heap.size w w' := by
  have N1 : ∀ w, Calls Tryd.prog 14 #[.string ⟨#[97, 98]⟩] w fun e w' => e = .returned (.tuple #[.string ⟨#[97, 99]⟩, .bool true]) ∧ Below w.heap.size w w' := fun w => next_ok [97, 98] w (by decide)
  have N2 : ∀ w, Calls Tryd.prog 14 #[.string ⟨#[255]⟩] w fun e w' => e = .returned (.tuple #[.string ⟨#[]⟩, .bool false]) ∧ Below w.heap.size w w' := fun w => next_ok [255] w (by decide)
  have T1 : ∀ w, Calls Tryd.prog 10 #[.string ⟨#[97]⟩] w fun e w' => e = .returned (.string ⟨#[97, 0, 1]⟩) ∧ Below w.heap.size w w' := fun w => text_ok [97] (by decide) w
  have S1 := score_ok 4607182418800017408 (by decide)
  have hs : (bs (be 8 (codeN 4607182418800017408))).size = 8 := by rw [bs_size, be_len]
  generalize bs (be 8 (codeN 4607182418800017408)) = sc at *
  go_enter Tryd.func9, Tryd.ntmps9
  go_wp2_with fail
  refine (N1 _).mono ?_
  rintro e w1 ⟨rfl, b1⟩
  go_wp2_with fail
  refine (N2 _).mono ?_
  rintro e w2 ⟨rfl, b2⟩
  go_wp2_with (first | (go_at_call 10; refine (T1 _).mono ?_; rintro e w3 ⟨rfl, b3⟩) | (go_at_call 15; refine (S1 _).mono ?_; rintro e w4 ⟨rfl, b4⟩))
  go_ret
  exact ⟨rfl, Below.up (Below.up (Below.up b1 b2 b1.size) b3 (Nat.le_trans b1.size b2.size)) b4 (Nat.le_trans b1.size (Nat.le_trans b2.size b3.size))⟩
end Go.Proofs.YtnfpccmnifhflaaDoor
