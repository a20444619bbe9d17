/- The document's Feed, Skip, Line and Payload. -/
import Derived.Test.YtpidfndcihljmaaRf
namespace Go.Proofs.Ytpidfndcihljmaa
open Go.RowKit

set_option maxRecDepth 100000 in
set_option maxHeartbeats 2000000 in
theorem rfeed_ok {w : World} {b : Nat} {B : List UInt8} {left : Nat} {long : Bool} (h : Rf w b B left long) (m : List UInt8) (hB : B.length + m.length ≤ 100000000) (hl : left ≤ 9223372036854775807) :
    Calls Try.prog 16 #[ptr b, .string (bs m)] w fun e w' => e = .returned (.tuple #[]) ∧ Rf w' b (dropR (B ++ m) left long).1 (dropR (B ++ m) left long).2.1 (dropR (B ++ m) left long).2.2 ∧ Fr (fun k => k = b) w w' := by
  obtain ⟨c0, _, _, z⟩ := h.cells
  have z0 := z 0
  have hadd : ∀ w, (Op.stringOp .add (bs B) (bs m)).run Try.prog w = .ok (.string (bs (B ++ m))) w := fun w => bs_add B m (by omega) w
  obtain ⟨w1, hw1⟩ : ∃ w1, w1 = w.setCell ⟨b, 0, none⟩ (sv (B ++ m)) := ⟨_, rfl⟩
  have r1 : Rf w1 b (B ++ m) left long := by rw [hw1]; exact h.setB _
  have f1 : Fr (fun k => k = b) w w1 := by rw [hw1]; exact fr_set (Fr.refl _ _) _ _
  have HW := hide hw1
  have HF := hide f1
  have KD := hide (rdrop_ok r1 (by rw [List.length_append]; exact hB) hl)
  clear h z hw1 r1 f1
  go_enter Try.func16, Try.ntmps16
  go_wp2_with fail
  rw [← unhide HW]
  refine (unhide KD).mono ?_
  rintro e w2 ⟨rfl, r2, f2⟩
  have HR := hide (And.intro r2 f2)
  clear r2 f2 KD
  go_wp2_with fail
  go_end0
  exact ⟨rfl, (unhide HR).1, (unhide HF).trans (unhide HR).2⟩

set_option maxRecDepth 100000 in
set_option maxHeartbeats 2000000 in
theorem rskip_ok {w : World} {b : Nat} {B : List UInt8} {left : Nat} {long : Bool} (h : Rf w b B left long) (n : Int) (hB : B.length ≤ 100000000) (hl : n + left ≤ 4611686018427387904) (hl2 : left ≤ 4611686018427387904) :
    Calls Try.prog 19 #[ptr b, iv n] w fun e w' => e = .returned (.tuple #[]) ∧ Rf w' b (dropR B (left + n.toNat) long).1 (dropR B (left + n.toNat) long).2.1 (dropR B (left + n.toNat) long).2.2 ∧ Fr (fun k => k = b) w w' := by
  obtain ⟨_, c1, _, z⟩ := h.cells
  have z1 := z 1
  obtain ⟨k, hk⟩ : ∃ k, n.toNat = k := ⟨_, rfl⟩
  have hmax : max n 0 = (k : Int) := by omega
  have hkl : k + left ≤ 4611686018427387904 := by omega
  rw [hk]
  obtain ⟨w1, hw1⟩ : ∃ w1, w1 = w.setCell ⟨b, 1, none⟩ (iv ((left : Int) + k)) := ⟨_, rfl⟩
  have r1 : Rf w1 b B (left + k) long := by rw [hw1, show (left : Int) + k = ((left + k : Nat) : Int) by omega]; exact h.setL _
  have f1 : Fr (fun k => k = b) w w1 := by rw [hw1]; exact fr_set (Fr.refl _ _) _ _
  have HW := hide hw1
  have HF := hide f1
  have KD := hide (rdrop_ok r1 hB (by omega))
  have HMAX := hide hmax
  clear h z hw1 r1 f1 hk hmax hl
  have hb1 : 0 ≤ max n 0 := by omega
  have hb2 : (left : Int) + max n 0 ≤ 4611686018427387904 := by have := unhide HMAX; omega
  go_enter Try.func19, Try.ntmps19
  go_wp2_with fail
  rw [unhide HMAX, ← unhide HW]
  refine (unhide KD).mono ?_
  rintro e w2 ⟨rfl, r2, f2⟩
  have HR := hide (And.intro r2 f2)
  clear r2 f2 KD
  go_wp2_with fail
  go_end0
  exact ⟨rfl, (unhide HR).1, (unhide HF).trans (unhide HR).2⟩

set_option maxRecDepth 100000 in
set_option maxHeartbeats 2000000 in
theorem rpayload_ok {w : World} {b : Nat} {B : List UInt8} {left : Nat} {long : Bool} (h : Rf w b B left long) (n : Int) (hB : B.length ≤ 100000000) (hl : left ≤ 4611686018427387904) (hg : Good B long left) :
    Calls Try.prog 18 #[ptr b, iv n] w fun e w' => (B.length ≤ n.toNat → e = .returned (.tuple #[sv [], .bool false]) ∧ Rf w' b B left long) ∧ (n.toNat < B.length → e = .returned (.tuple #[sv (B.take n.toNat), .bool true]) ∧ Rf w' b (B.drop (plN B n.toNat)) left long) ∧ Fr (fun k => k = b) w w' := by
  obtain ⟨k, hk⟩ : ∃ k, n.toNat = k := ⟨_, rfl⟩
  have HMAX := hide (show max n 0 = (k : Int) by omega)
  rw [hk]
  have KD := hide (rdrop_ok h hB (by omega))
  rw [drop_good B long left hg] at KD
  obtain ⟨m, hm⟩ : ∃ m, B.length = m := ⟨_, rfl⟩
  have HM := hide hm
  have hsz : (bs B).size = m := by rw [bs_size]; exact hm
  have HG := hide hg
  rw [hm] at hB ⊢
  clear h hg hk hm
  go_enter Try.func18, Try.ntmps18
  go_wp2_with fail
  refine (unhide KD).mono ?_
  rintro e w1 ⟨rfl, r1, f1⟩
  obtain ⟨c0, c1, c2, z⟩ := r1.cells
  have z0 := z 0
  have HR := hide r1
  have HF := hide f1
  clear KD r1 f1 z
  go_upto_region 3 with fail
  rw [unhide HMAX]
  clear HMAX
  obtain ⟨cc, hcc⟩ : ∃ cc, decide (m ≤ k) = cc := ⟨_, rfl⟩
  have HCC := hide hcc
  clear hcc
  have hg := unhide HG
  have h0 : (long = true → m = 0) ∧ (0 < left → m = 0) := ⟨fun e => by rw [← unhide HM, hg.1 e]; rfl, fun e => by rw [← unhide HM, hg.2 e]; rfl⟩
  have H0 := hide h0
  clear hg HG h0
  go_cut [39] from 11 to 39 (fun v wx => v = .bool cc ∧ wx = w1)
  case first =>
    by_cases hl0 : 0 < left
    · have hl0' : (0 : Int) < left := by omega
      have HE := hide (show cc = true by rw [← unhide HCC]; exact decide_eq_true (by have := (unhide H0).2 hl0; omega))
      go_wp2_with fail
      go_meet
      exact ⟨by rw [unhide HE], rfl⟩
    · have hl0' : ¬ (0 : Int) < left := by omega
      cases long with
      | true =>
        have HE := hide (show cc = true by rw [← unhide HCC]; exact decide_eq_true (by have := (unhide H0).1 rfl; omega))
        go_wp2_with fail
        go_meet
        exact ⟨by rw [unhide HE], rfl⟩
      | false =>
        by_cases hm1 : (m : Int) < 1
        · have HE := hide (show cc = true by rw [← unhide HCC]; exact decide_eq_true (by omega))
          go_wp2_with fail
          go_meet
          exact ⟨by rw [unhide HE], rfl⟩
        · by_cases hmk : (m : Int) - 1 < k
          · have HE := hide (show cc = true by rw [← unhide HCC]; exact decide_eq_true (by omega))
            go_wp2_with fail
            go_meet
            exact ⟨by rw [unhide HE], rfl⟩
          · have HE := hide (show cc = false by rw [← unhide HCC]; exact decide_eq_false (by omega))
            go_wp2_with fail
            go_meet
            exact ⟨by rw [unhide HE], rfl⟩
  case rest =>
  obtain ⟨rfl, hwc⟩ := hcut
  rw [hwc]
  clear hwc H0
  cases cc with
  | true =>
    have hc := of_decide_eq_true (unhide HCC)
    have HC := hide hc
    clear hc
    go_wp2_with fail
    go_ret2
    exact ⟨fun _ => ⟨rfl, unhide HR⟩, fun h => absurd (unhide HC) (by omega), unhide HF⟩
  | false =>
    have hc : ¬ m ≤ k := of_decide_eq_false (unhide HCC)
    have hto := fun w => bs_to B k .i64 (by rw [unhide HM]; omega) w
    obtain ⟨x, hx⟩ : ∃ x, B[k]? = some x := ⟨_, List.getElem?_eq_getElem (by rw [unhide HM]; omega)⟩
    have hix := fun w => bs_ix B k x hx w
    have hgx : B.getD k 0 = x := by rw [List.getD_eq_getElem?_getD, hx]; rfl
    have HX := hide hgx
    have HC := hide hc
    have hkm : k < m := by omega
    clear hx hgx hc
    by_cases he : x = 10
    · have he' := eq8 x 10 10 rfl he
      have hfr := fun w => bs_from B (k + 1) .i64 (by rw [unhide HM]; omega) w
      have e1 : ((k + 1 : Nat) : Int) = (k : Int) + 1 := by omega
      simp only [e1] at hfr
      have HP := hide (show plN B k = k + 1 by unfold plN; rw [unhide HX, if_pos he])
      clear he
      go_wp2_with fail
      go_ret2
      refine ⟨fun h => absurd h (unhide HC), fun _ => ⟨rfl, ?_⟩, fr_set (unhide HF) _ _⟩
      rw [unhide HP]
      exact (unhide HR).setB _
    · have he' := ne8 x 10 10 rfl he
      have hfr := fun w => bs_from B k .i64 (by rw [unhide HM]; omega) w
      have HP := hide (show plN B k = k by unfold plN; rw [unhide HX, if_neg he])
      clear he
      go_wp2_with fail
      go_ret2
      refine ⟨fun h => absurd h (unhide HC), fun _ => ⟨rfl, ?_⟩, fr_set (unhide HF) _ _⟩
      rw [unhide HP]
      exact (unhide HR).setB _

set_option maxRecDepth 100000 in
set_option maxHeartbeats 4000000 in
theorem rline_ok {w : World} {b : Nat} {B : List UInt8} {left : Nat} {long : Bool} (h : Rf w b B left long) (hB : B.length ≤ 100000000) (hl : left ≤ 4611686018427387904) (hg : Good B long left) :
    Calls Try.prog 17 #[ptr b] w fun e w' => e = .returned (.tuple #[sv (lineR B long).1.1, .bool (lineR B long).1.2.1, iv (lineR B long).1.2.2]) ∧ Rf w' b (lineR B long).2.1 left (lineR B long).2.2 ∧ Fr (fun k => k = b) w w' := by
  have KD := hide (rdrop_ok h hB (by omega))
  rw [drop_good B long left hg] at KD
  obtain ⟨n, hn⟩ : ∃ n, B.length = n := ⟨_, rfl⟩
  have HN := hide hn
  have hsz : (bs B).size = n := by rw [bs_size]; exact hn
  rw [hn] at hB
  clear h hg hn
  go_enter Try.func17, Try.ntmps17
  go_wp2_with fail
  refine (unhide KD).mono ?_
  rintro e w1 ⟨rfl, r1, f1⟩
  obtain ⟨c0, c1, c2, z⟩ := r1.cells
  have z0 := z 0
  have z2 := z 2
  have HR := hide r1
  have HF := hide f1
  clear KD r1 f1 z
  go_wp2_with fail
  go_loop [5] (fun i => ∃ k : Nat, i = iv k ∧ Hid (k ≤ n ∧ ∀ j, j < k → B.getD j 0 ≠ 10)) (fun i => n - (RowKit.intOf i).toNat)
  case atStart => exact ⟨0, rfl, hide ⟨Nat.zero_le _, fun j hj => by omega⟩⟩
  case round =>
    obtain ⟨k, rfl, HI⟩ := hrel
    obtain ⟨hk, hno⟩ := unhide HI
    by_cases hlt : k < n
    · have hlt' : (k : Int) < n := by omega
      obtain ⟨x, hx⟩ : ∃ x, B[k]? = some x := ⟨_, List.getElem?_eq_getElem (by rw [unhide HN]; exact hlt)⟩
      have hix := fun w => bs_ix B k x hx w
      have hgx : B.getD k 0 = x := by rw [List.getD_eq_getElem?_getD, hx]; rfl
      have HX := hide hgx
      clear hx hgx
      by_cases he : x = 10
      · have he' : ((x.toNat : Int) != 10) = false := by rw [bne, eq8 x 10 10 rfl he]; rfl
        have hnl := nl_eq B k hno (by rw [unhide HN]; exact hlt) (by rw [unhide HX]; exact he)
        have HNL := hide hnl
        have hfr := fun w => bs_from B (k + 1) .i64 (by rw [unhide HN]; omega) w
        have e1 : ((k + 1 : Nat) : Int) = (k : Int) + 1 := by omega
        simp only [e1] at hfr
        have hto := fun w => bs_to B k .i64 (by rw [unhide HN]; omega) w
        obtain ⟨S, hS⟩ : ∃ S, B.take k = S := ⟨_, rfl⟩
        have hSl : S.length = k := by rw [← hS, List.length_take, unhide HN]; omega
        have hSn : ∀ x ∈ S, x ≠ 10 := fun y hy => by
          rw [← hS] at hy
          obtain ⟨i, hi, rfl⟩ := List.mem_iff_getElem.1 hy
          rw [List.length_take] at hi
          have := hno i (by omega)
          rw [List.getD_eq_getElem?_getD, List.getElem?_eq_getElem (by omega)] at this
          simpa using this
        have hBS : B = S ++ 10 :: B.drop (k + 1) := by
          conv => lhs; rw [← List.take_append_drop k B, hS]
          rw [List.drop_eq_getElem_cons (show k < B.length by rw [unhide HN]; exact hlt)]
          congr 1
          have h9 := unhide HX
          rw [List.getD_eq_getElem?_getD, List.getElem?_eq_getElem (show k < B.length by rw [unhide HN]; exact hlt)] at h9
          simp only [Option.getD_some] at h9
          rw [h9, he]
        have hLR : lineR B long = (if (cut13 S).length ≤ 256 then (cut13 S, true, 0) else ([], false, 2), B.drop (k + 1), long) := by
          conv => lhs; rw [hBS]
          exact lineR_app S _ long hSn
        have HLR := hide hLR
        rw [hS] at hto
        have hszS : (bs S).size = k := by rw [bs_size]; exact hSl
        have HSL := hide hSl
        have hr2 := (unhide HR).setB (B.drop (k + 1))
        have HR2 := hide hr2
        have hk9 : k ≤ 100000000 := by omega
        clear he HI hno hnl hS hSl hSn hBS hLR hr2
        generalize B.drop (k + 1) = C at *
        go_upto_region 8 with fail
        obtain ⟨cc, hcc⟩ : ∃ cc, decide (0 < S.length ∧ S.getD (S.length - 1) 0 = 13) = cc := ⟨_, rfl⟩
        have HCC := hide hcc
        clear hcc
        go_cut [51] from 41 to 51 (fun v wx => v = .bool cc ∧ wx = w1.setCell ⟨b, 0, none⟩ (sv C))
        case first =>
          by_cases h0 : 0 < k
          · have hp : (0 : Int) < k := by omega
            have hxx : (k : Int) - 1 = ((k - 1 : Nat) : Int) := by omega
            obtain ⟨y, hy⟩ : ∃ y, S[k - 1]? = some y := ⟨_, List.getElem?_eq_getElem (by rw [unhide HSL]; omega)⟩
            have hix2 : ∀ w, (Instr.index 9 (.string (bs S)) (.int .i64 ((k : Int) - 1))).run Try.prog w = .ok (bv y) w := fun w => by rw [hxx]; exact bs_ix S _ y hy w
            have hyd : S.getD (S.length - 1) 0 = y := by rw [unhide HSL, List.getD_eq_getElem?_getD, hy]; rfl
            have HP := hide (show cc = decide (y = 13) by rw [← unhide HCC, hyd, unhide HSL]; simp [h0])
            clear hy hyd hxx h0
            by_cases he : y = 13
            · have he' := eq8 y 13 13 rfl he
              have HE := hide he
              clear he
              go_wp2_with fail
              go_meet
              exact ⟨by rw [unhide HP, decide_eq_true (unhide HE)], rfl⟩
            · have he' := ne8 y 13 13 rfl he
              have HE := hide he
              clear he
              go_wp2_with fail
              go_meet
              exact ⟨by rw [unhide HP, decide_eq_false (unhide HE)], rfl⟩
          · have hp : ¬ (0 : Int) < k := by omega
            have HC := hide (show cc = false by rw [← unhide HCC]; exact decide_eq_false (fun h => h0 (by rw [← unhide HSL]; exact h.1)))
            clear h0
            go_wp2_with fail
            go_meet
            exact ⟨by rw [unhide HC], rfl⟩
        case rest =>
        obtain ⟨rfl, hwc⟩ := hcut
        rw [hwc]
        clear hwc
        go_upto_if 51 with fail
        go_cut [6] from 52 to 56 (fun v wx => v = .string (bs (cut13 S)) ∧ wx = w1.setCell ⟨b, 0, none⟩ (sv C))
        case first =>
          cases cc with
          | true =>
            have hd : 0 < S.length ∧ S.getD (S.length - 1) 0 = 13 := of_decide_eq_true (unhide HCC)
            have h0 : (0 : Int) < k := by have := hd.1; have := unhide HSL; omega
            have hxx : (k : Int) - 1 = ((k - 1 : Nat) : Int) := by omega
            have hsl : ∀ w, (Instr.slice 9 (.string (bs S)) none (some (.int .i64 ((k : Int) - 1))) none).run Try.prog w = .ok (.string (bs (S.take (S.length - 1)))) w := fun w => by rw [hxx, unhide HSL]; exact bs_to S _ .i64 (by rw [unhide HSL]; omega) w
            have HC := hide (show S.take (S.length - 1) = cut13 S by unfold cut13; rw [if_pos hd])
            clear hd hxx
            generalize S.take (S.length - 1) = V at *
            go_wp2_with fail
            go_meet
            exact ⟨by rw [unhide HC], rfl⟩
          | false =>
            have HC := hide (show cut13 S = S by unfold cut13; rw [if_neg (of_decide_eq_false (unhide HCC))])
            go_wp2_with fail
            go_meet
            exact ⟨by rw [unhide HC], rfl⟩
        case rest =>
        obtain ⟨rfl, hwc⟩ := hcut
        rw [hwc]
        clear hwc
        obtain ⟨V, hV⟩ : ∃ V, cut13 S = V := ⟨_, rfl⟩
        rw [hV] at HLR ⊢
        obtain ⟨vl, hvl⟩ : ∃ vl, V.length = vl := ⟨_, rfl⟩
        have hszV : (bs V).size = vl := by rw [bs_size]; exact hvl
        have HVL := hide hvl
        clear hV hvl
        by_cases h256 : vl ≤ 256
        · have h256' : ¬ (256 : Int) < vl := by omega
          have HL2 := hide (show lineR B long = ((V, true, 0), C, long) by rw [unhide HLR, if_pos (by rw [unhide HVL]; exact h256)])
          clear HLR
          go_wp2_with fail
          go_ret3
          refine ⟨by rw [unhide HL2]; rfl, ?_, fr_set (unhide HF) _ _⟩
          rw [unhide HL2]
          exact unhide HR2
        · have h256' : (256 : Int) < vl := by omega
          have HL2 := hide (show lineR B long = (([], false, 2), C, long) by rw [unhide HLR, if_neg (by rw [unhide HVL]; exact h256)])
          clear HLR
          go_wp2_with fail
          go_ret3
          refine ⟨by rw [unhide HL2]; rfl, ?_, fr_set (unhide HF) _ _⟩
          rw [unhide HL2]
          exact unhide HR2
      · have he' : ((x.toNat : Int) != 10) = true := by rw [bne, ne8 x 10 10 rfl he]; rfl
        have HE := hide (show ∀ j, j < k + 1 → B.getD j 0 ≠ 10 from fun j hj => by
          by_cases hjk : j = k
          · subst hjk; rw [unhide HX]; exact he
          · exact hno j (by omega))
        clear he HI hno
        go_wp2_with fail
        exact ⟨⟨k + 1, by go_num, hide ⟨by omega, unhide HE⟩⟩, by simp [RowKit.intOf]; omega⟩
    · have hlt' : ¬ (k : Int) < n := by omega
      have hno2 : ∀ x ∈ B, x ≠ 10 := fun y hy => by
        obtain ⟨i, hi, rfl⟩ := List.mem_iff_getElem.1 hy
        have := hno i (by have := unhide HN; omega)
        rw [List.getD_eq_getElem?_getD, List.getElem?_eq_getElem hi] at this
        exact this
      have hLR := lineR_none B long hno2
      rw [unhide HN] at hLR
      have HLR := hide hLR
      clear HI hno hno2 hLR
      by_cases h8 : 258 ≤ n
      · have h8' : (258 : Int) ≤ n := by omega
        have HL2 := hide (show lineR B long = (([], false, 2), [], true) by rw [unhide HLR, if_pos h8])
        have hr2 := hide (((unhide HR).setG true).setB [])
        clear HLR
        go_wp2_with fail
        go_ret3
        refine ⟨by rw [unhide HL2]; rfl, ?_, fr_set (fr_set (unhide HF) _ _) _ _⟩
        rw [unhide HL2]
        exact unhide hr2
      · have h8' : ¬ (258 : Int) ≤ n := by omega
        have HL2 := hide (show lineR B long = (([], false, 0), B, long) by rw [unhide HLR, if_neg h8])
        clear HLR
        go_wp2_with fail
        go_ret3
        refine ⟨by rw [unhide HL2]; rfl, ?_, unhide HF⟩
        rw [unhide HL2]
        exact unhide HR
end Go.Proofs.Ytpidfndcihljmaa
