/- Reply: OK, none, errors, scores; what the document fixes. -/
import Derived.Test.YticflknfkaoejaaDoorRl
import Derived.Lib.SlBytesConst
import Derived.Test.YticflknfkaoejaaDoorTj
namespace Go.Proofs.YticflknfkaoejaaDoor
open Go.RowKit

theorem one_tx (w : World) (x : List UInt8) : Tx (w.alloc (.cells #[.string (bs x)] 9)) w.heap.size 0 [x] := fun j z hz => by
  rw [Nat.zero_add, cell_of_obj (heap_alloc_new w _) j]
  match j, hz with
  | 0, hz => cases hz; rfl
theorem line1_len (k : List UInt8) : lineL [k] = k ++ [10] := by simp [lineL, Lib.join]
set_option maxRecDepth 100000 in
set_option maxHeartbeats 1000000 in
theorem rok_ok (w : World) : Calls Tryd.prog 28 #[] w fun e w' => e = .returned (.string (bs [79,75,10])) ∧ Still w w' := by
  have H := hide (oneLine_ok (w := w.alloc (.cells #[.string (bs [79,75])] 9)) w.heap.size 0 1 [[79,75]] (one_tx w _) (by simp) (by simp) (by simp) (by rw [line1_len]; simp))
  go_enter Tryd.func28, Tryd.ntmps28
  go_wp2_with fail
  refine (unhide H).mono ?_
  rintro e w1 ⟨rfl, s1⟩
  have S1 := hide s1
  clear s1 H
  rw [line1_len]
  go_wp2
  go_ret
  exact ⟨rfl, ((Fr.refl _ w).alloc _).trans (unhide S1)⟩
set_option maxRecDepth 100000 in
set_option maxHeartbeats 1000000 in
theorem rnone_ok (w : World) : Calls Tryd.prog 29 #[] w fun e w' => e = .returned (.string (bs [78,79,78,69,10])) ∧ Still w w' := by
  have H := hide (oneLine_ok (w := w.alloc (.cells #[.string (bs [78,79,78,69])] 9)) w.heap.size 0 1 [[78,79,78,69]] (one_tx w _) (by simp) (by simp) (by simp) (by rw [line1_len]; simp))
  go_enter Tryd.func29, Tryd.ntmps29
  go_wp2_with fail
  refine (unhide H).mono ?_
  rintro e w1 ⟨rfl, s1⟩
  have S1 := hide s1
  clear s1 H
  rw [line1_len]
  go_wp2
  go_ret
  exact ⟨rfl, ((Fr.refl _ w).alloc _).trans (unhide S1)⟩
/-- The word of an error. -/
def errW (e : Int) : List UInt8 :=
  if e = 3 then [83,89,78,84,65,88] else
  if e = 5 then [84,79,79,66,73,71] else
  if e = 2 then [84,79,79,66,73,71] else
  if e = 61 then [78,79,83,78,65,80] else
  if e = 60 then [70,85,76,76] else
  if e = 6 then [78,65,78] else
  if e = 65 then [77,65,78,89] else
  if e = 50 then [68,69,65,68] else
  [65,82,71]
theorem errW_len (e : Int) : (errW e).length ≤ 6 := by
  unfold errW
  repeat' split
  all_goals decide
set_option maxRecDepth 100000 in
set_option maxHeartbeats 1000000 in
theorem wordOf_ok (z : Int) (w : World) : Calls Tryd.prog 36 #[iv z] w fun e w' => e = .returned (.string (bs (errW z))) ∧ w' = w := by
  by_cases g0 : z = 3
  · subst g0
    go_enter Tryd.func36, Tryd.ntmps36
    go_wp2
    go_ret
    exact ⟨rfl, rfl⟩
  by_cases g1 : z = 5
  · subst g1
    clear g0
    go_enter Tryd.func36, Tryd.ntmps36
    go_wp2
    go_ret
    exact ⟨rfl, rfl⟩
  by_cases g2 : z = 2
  · subst g2
    clear g0 g1
    go_enter Tryd.func36, Tryd.ntmps36
    go_wp2
    go_ret
    exact ⟨rfl, rfl⟩
  by_cases g3 : z = 61
  · subst g3
    clear g0 g1 g2
    go_enter Tryd.func36, Tryd.ntmps36
    go_wp2
    go_ret
    exact ⟨rfl, rfl⟩
  by_cases g4 : z = 60
  · subst g4
    clear g0 g1 g2 g3
    go_enter Tryd.func36, Tryd.ntmps36
    go_wp2
    go_ret
    exact ⟨rfl, rfl⟩
  by_cases g5 : z = 6
  · subst g5
    clear g0 g1 g2 g3 g4
    go_enter Tryd.func36, Tryd.ntmps36
    go_wp2
    go_ret
    exact ⟨rfl, rfl⟩
  by_cases g6 : z = 65
  · subst g6
    clear g0 g1 g2 g3 g4 g5
    go_enter Tryd.func36, Tryd.ntmps36
    go_wp2
    go_ret
    exact ⟨rfl, rfl⟩
  by_cases g7 : z = 50
  · subst g7
    clear g0 g1 g2 g3 g4 g5 g6
    go_enter Tryd.func36, Tryd.ntmps36
    go_wp2
    go_ret
    exact ⟨rfl, rfl⟩
  have y0 : (z == 3) = false := by simpa using g0
  have y1 : (z == 5) = false := by simpa using g1
  have y2 : (z == 2) = false := by simpa using g2
  have y3 : (z == 61) = false := by simpa using g3
  have y4 : (z == 60) = false := by simpa using g4
  have y5 : (z == 6) = false := by simpa using g5
  have y6 : (z == 65) = false := by simpa using g6
  have y7 : (z == 50) = false := by simpa using g7
  have HE := hide (show errW z = [65,82,71] by unfold errW; simp only [g0, g1, g2, g3, g4, g5, g6, g7, if_false])
  clear g0 g1 g2 g3 g4 g5 g6 g7
  go_enter Tryd.func36, Tryd.ntmps36
  go_wp2
  go_ret
  exact ⟨by rw [unhide HE]; rfl, rfl⟩

/-- An error's answer. -/
def errL (e : Int) : List UInt8 := [69,82,82] ++ 32 :: (errW e ++ [10])
set_option maxRecDepth 100000 in
set_option maxHeartbeats 1000000 in
theorem rerr_ok (z : Int) (w : World) : Calls Tryd.prog 9 #[iv z] w fun e w' => e = .returned (.string (bs (errL z))) ∧ Still w w' := by
  have HW := hide (wordOf_ok z w)
  have hl := errW_len z
  unfold errL
  obtain ⟨d, hd⟩ : ∃ d, errW z = d := ⟨_, rfl⟩
  rw [hd] at HW hl ⊢
  have H := hide (oneLine_ok (w := w.alloc (.cells #[.string (bs [69,82,82]), .string (bs d)] 9)) w.heap.size 0 2 [[69,82,82], d] (two_tx w _ _) (by simp) (by simp) (by simp) (by rw [line2_len]; simp; omega))
  clear hd hl
  go_enter Tryd.func9, Tryd.ntmps9
  go_wp2_with fail
  refine (unhide HW).mono ?_
  rintro e w9 ⟨rfl, he⟩
  replace he := he.symm
  subst he
  go_wp2_with fail
  refine (unhide H).mono ?_
  rintro e w1 ⟨rfl, s1⟩
  have S1 := hide s1
  clear s1 H
  rw [line2_len]
  go_wp2
  go_ret
  exact ⟨rfl, ((Fr.refl _ w).alloc _).trans (unhide S1)⟩

/-- What num tells of a number. -/
def TextIs (a : Nat) (T : List UInt8) : Prop := ∀ w, Lk w → Calls Tryd.prog 43 #[.float .f64 a] w fun e w' => e = .returned (.string (bs T)) ∧ Below w.heap.size w w'
def scoreL (T : List UInt8) : List UInt8 := [83,67,79,82,69] ++ 32 :: (T ++ [10])
set_option maxRecDepth 100000 in
set_option maxHeartbeats 1000000 in
theorem rscore_ok {a : Nat} {T : List UInt8} (hT : TextIs a T) (hl : T.length ≤ 1000) {W w : World} (hK : Kn W w) : Calls Tryd.prog 25 #[.float .f64 a] w fun e w' => e = .returned (.string (bs (scoreL T))) ∧ Still w w' := by
  have HT := hide (hT w hK.look)
  unfold scoreL
  have H := hide (fun w1 => oneLine_ok (w := w1.alloc (.cells #[.string (bs [83,67,79,82,69]), .string (bs T)] 9)) w1.heap.size 0 2 [[83,67,79,82,69], T] (two_tx w1 _ _) (by simp) (by simp) (by simp) (by rw [line2_len]; simp; omega))
  clear hT hl hK
  go_enter Tryd.func25, Tryd.ntmps25
  go_wp2_with fail
  refine (unhide HT).mono ?_
  rintro e w2 ⟨rfl, b2⟩
  have S2 := hide (still_of b2)
  clear b2 HT
  go_wp2_with fail
  refine (unhide H w2).mono ?_
  rintro e w1 ⟨rfl, s1⟩
  have S1 := hide s1
  clear s1 H
  rw [line2_len]
  go_wp2
  go_ret
  exact ⟨rfl, ((unhide S2).alloc _).trans (unhide S1)⟩

set_option maxRecDepth 100000 in
set_option maxHeartbeats 2000000 in
theorem awake_ok {W w : World} (hK : Kn W w) : Calls Tryd.prog 4 #[] w fun e w' => e = .returned (.bool true) ∧ Still w w' := by
  have s0 : Still w (w.alloc (.cells #[.int .u8 104, .int .u8 105] 5 (2, 3))) := (Fr.refl _ w).alloc _
  have hv : valueL [86, 65, 76, 85, 69] [104, 105] = [86, 65, 76, 85, 69, 32, 50, 10, 104, 105, 10] := by
    unfold valueL
    rw [show ([104, 105] : List UInt8).length = 2 from rfl, show Lib.decDigits 2 = [50] by decide +kernel, line2_len]
    rfl
  have hR : Rd (w.alloc (.cells #[.int .u8 104, .int .u8 105] 5 (2, 3))) (some ⟨w.heap.size, 0, none⟩) [104, 105] := fun i hi => by
    refine ⟨_, _, rfl, ?_⟩
    rw [Nat.zero_add, cell_of_obj (heap_alloc_new w _) i]
    match i, hi with
    | 0, _ => rfl
    | 1, _ => rfl
  have hV := rvalue_ok (hK.still s0) [104, 105] (some ⟨w.heap.size, 0, none⟩) 2 hR (by simp)
  rw [hv] at hV
  have HV := hide hV
  have hcv := Lib.run_convert_bytes_const (P := Tryd.prog) w 22 5 #[.int .u8 104, .int .u8 105] 2 2 Tryd.underlying22 Tryd.underlying5
  have HS := hide (fun w1 (k : Kn W w1) => rscore_ok (a := 9223372036854775808) (T := [45, 48]) (fun w _ => (text_nought w).mono fun _ _ h => ⟨h.1, by rw [h.2]; exact Below.refl _ _⟩) (by simp) k)
  have HK := hide hK
  have HS0 := hide s0
  clear hK s0 hv hR hV
  go_enter Tryd.func4, Tryd.ntmps4
  go_wp2_with fail
  refine (unhide HV).mono ?_
  rintro e w1 ⟨rfl, s1⟩
  have S1 := hide ((unhide HS0).trans s1)
  have y1 : ((bs [86, 65, 76, 85, 69, 32, 50, 10, 104, 105, 10]).toList == [86, 65, 76, 85, 69, 32, 50, 10, 104, 105, 10]) = true := by rw [bs_list]; rfl
  clear s1 HV
  go_wp2_with (first | (go_at_call 27; refine (copysign_ok _).mono ?_; rintro e w' ⟨rfl, rfl⟩))
  refine (unhide HS _ ((unhide HK).still (unhide S1))).mono ?_
  rintro e w2 ⟨rfl, s2⟩
  have S2 := hide ((unhide S1).trans s2)
  have y2 : ((bs (scoreL [45, 48])).toList == [83, 67, 79, 82, 69, 32, 45, 48, 10]) = true := by rw [bs_list]; rfl
  clear s2 HS
  have HO := hide (rok_ok w2)
  go_wp2_with fail
  refine (unhide HO).mono ?_
  rintro e w3 ⟨rfl, s3⟩
  have S3 := hide ((unhide S2).trans s3)
  have y3 : ((bs [79, 75, 10]).toList == [79, 75, 10]) = true := by rw [bs_list]; rfl
  clear s3 HO
  have HN := hide (rnone_ok w3)
  go_wp2_with fail
  refine (unhide HN).mono ?_
  rintro e w4 ⟨rfl, s4⟩
  have S4 := hide ((unhide S3).trans s4)
  have y4 : ((bs [78, 79, 78, 69, 10]).toList == [78, 79, 78, 69, 10]) = true := by rw [bs_list]; rfl
  clear s4 HN
  go_wp2
  go_ret
  exact ⟨rfl, unhide S4⟩
end Go.Proofs.YticflknfkaoejaaDoor
