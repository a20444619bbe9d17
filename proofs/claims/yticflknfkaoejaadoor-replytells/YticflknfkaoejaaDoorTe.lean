/- Reply: the document's own answers: numbers, errors, values, scores. -/
import Derived.Test.YticflknfkaoejaaDoorTn
import Derived.Test.YticflknfkaoejaaDoorRo
namespace Go.Proofs.YticflknfkaoejaaDoor
open Go.RowKit

theorem conv_u64 (k : Nat) (hk : k ≤ 9223372036854775807) (w : World) : (convert 3 37 (iv (k : Int))).run Tryd.prog w = .ok (.int .u64 (k : Int)) w := by
  have hik : Tryd.prog.intKind 37 = .u64 := by kernel_rfl
  have h := run_convert_int (P := Tryd.prog) w 3 37 .i64 (k : Int) (by kernel_rfl) (by rw [hik]; exact Tryd.underlying37)
  rw [hik] at h
  have : IntKind.u64.wrap (k : Int) = (k : Int) := by simp [IntKind.wrap, IntKind.signed, IntKind.bits]; omega
  rw [this] at h
  exact h
set_option maxRecDepth 100000 in
set_option maxHeartbeats 1000000 in
theorem digits_any (u : Nat) (hu : u ≤ 9223372036854775807) (w : World) : Calls Tryd.prog 47 #[.int .u64 u] w fun e w' => e = .returned (.string (bs (Lib.decDigits u))) ∧ w' = w := by
  go_enter Tryd.func47, Tryd.ntmps47
  rw [show (⟨#[48, 49, 50, 51, 52, 53, 54, 55, 56, 57]⟩ : ByteArray) = dig10 from rfl]
  go_wp2_with fail
  go_loop [0, 3] (fun vu vs => ∃ (v : Nat) (l : List UInt8), vu = .int .u64 v ∧ vs = .string ⟨l.toArray⟩ ∧ Hid (v + l.length ≤ u ∧ Lib.decDigits v ++ l = Lib.decDigits u)) (fun vu _ => (RowKit.intOf vu).toNat)
  case atStart => exact ⟨u, [], rfl, rfl, Lib.hid ⟨by simp, by simp⟩⟩
  case round =>
    obtain ⟨v, l, rfl, rfl, HI⟩ := hrel
    obtain ⟨i1, i2⟩ := HI.out
    by_cases h9 : 9 < v
    · have hz : ((9 : Int) < (v : Int)) = True := by simp; omega
      have hb : l.length < 9223372036854775800 := by omega
      have hv : v ≤ 9223372036854775807 := by omega
      have hcut := cut10 (v % 10) (Nat.mod_lt _ (by omega))
      rw [show ((v % 10 : Nat) : Int) = (v : Int) % 10 by omega] at hcut
      have hdec : Lib.decDigits v = Lib.decDigits (v / 10) ++ [UInt8.ofNat (48 + v % 10)] := by rw [Lib.decDigits, dif_neg (by omega)]
      have L := Lib.hid (show v / 10 + (UInt8.ofNat (48 + v % 10) :: l).length ≤ u ∧ Lib.decDigits (v / 10) ++ UInt8.ofNat (48 + v % 10) :: l = Lib.decDigits u from ⟨by simp; omega, by rw [← i2, hdec]; simp⟩)
      clear hdec
      generalize UInt8.ofNat (48 + v % 10) = c at *
      clear HI i1 i2
      go_wp2
      exact ⟨⟨v / 10, c :: l, rfl, congrArg Value.string (by apply ByteArray.ext; simp), L⟩, by simp [RowKit.intOf]; omega⟩
    · have hz : ((9 : Int) < (v : Int)) = False := by simp; omega
      have hb : l.length < 9223372036854775807 := by
        have h1 : l.length ≤ u := by omega
        have h2 := congrArg List.length i2
        have h3 := dec_length 19 u (by omega)
        simp only [List.length_append] at h2
        omega
      have hcut := cut10 v (by omega)
      have L := Lib.hid (show UInt8.ofNat (48 + v) :: l = Lib.decDigits u by rw [← i2, Lib.decDigits, dif_pos (by omega)]; rfl)
      generalize UInt8.ofNat (48 + v) = c at *
      clear HI i1 i2
      go_wp2
      go_ret
      exact ⟨congrArg (fun x => Ending.returned (Value.string x)) (by rw [← L.out]; apply ByteArray.ext; simp [bs]), rfl⟩
theorem itoa_len (n : Int) (h0 : -9223372036854775808 ≤ n) (h1 : n ≤ 9223372036854775807) : (Lib.itoa n).length ≤ 21 := by
  unfold Lib.itoa
  split
  · have := dec_length 19 n.natAbs (by omega)
    simp; omega
  · have := dec_length 19 n.toNat (by omega)
    omega
set_option maxRecDepth 100000 in
set_option maxHeartbeats 1000000 in
theorem ddigits_ok (n : Int) (h0 : -9223372036854775808 < n) (h1 : n ≤ 9223372036854775807) (w : World) : Calls Tryd.prog 40 #[iv n] w fun e w' => e = .returned (.string (bs (Lib.itoa n))) ∧ w' = w := by
  by_cases hn : n < 0
  · have hz : (n < 0) = True := by simp [hn]
    obtain ⟨k, hk⟩ : ∃ k : Nat, -n = (k : Int) := ⟨n.natAbs, by omega⟩
    have hk2 : k ≤ 9223372036854775807 := by omega
    have hneg : wrap64 (-n) = (k : Int) := by unfold wrap64; omega
    have hcv := conv_u64 k hk2
    have hD := digits_any k hk2
    have hl := dec_length 19 k (by omega)
    have hit : Lib.itoa n = 45 :: Lib.decDigits k := by
      unfold Lib.itoa; rw [if_pos hn, show n.natAbs = k by omega]
    obtain ⟨d, hd⟩ : ∃ d, Lib.decDigits k = d := ⟨_, rfl⟩
    rw [hd] at hD hl hit
    have ha : ∀ w, (Op.stringOp .add ⟨#[45]⟩ (bs d)).run Tryd.prog w = .ok (.string (bs (45 :: d))) w := fun w => bs_add [45] d (by simp; omega) w
    have HT := hide hit
    clear hn hl hit hd hk h1 h0
    go_enter Tryd.func40, Tryd.ntmps40
    go_wp2_with (first | (go_at_call 47; refine (hD _).mono ?_; rintro e w' ⟨rfl, rfl⟩))
    go_ret
    exact ⟨by rw [unhide HT]; rfl, rfl⟩
  · have hz : (n < 0) = False := by simp; omega
    obtain ⟨k, rfl⟩ : ∃ k : Nat, n = (k : Int) := ⟨n.toNat, by omega⟩
    have hk2 : k ≤ 9223372036854775807 := by omega
    have hcv := conv_u64 k hk2
    have hD := digits_any k hk2
    have hit : Lib.itoa (k : Int) = Lib.decDigits k := by unfold Lib.itoa; rw [if_neg hn]; rfl
    obtain ⟨d, hd⟩ : ∃ d, Lib.decDigits k = d := ⟨_, rfl⟩
    rw [hd] at hD hit
    have HT := hide hit
    clear hn hit hd h1 h0
    go_enter Tryd.func40, Tryd.ntmps40
    go_wp2_with (first | (go_at_call 47; refine (hD _).mono ?_; rintro e w' ⟨rfl, rfl⟩))
    go_ret
    exact ⟨by rw [unhide HT]; rfl, rfl⟩
theorem itoa_nat (k : Nat) : Lib.itoa (k : Int) = Lib.decDigits k := by unfold Lib.itoa; rw [if_neg (by omega)]; rfl
theorem ddigits_nat (k : Nat) (h : k ≤ 9223372036854775807) (w : World) : Calls Tryd.prog 40 #[iv (k : Int)] w fun e w' => e = .returned (.string (bs (Lib.decDigits k))) ∧ w' = w := by
  rw [← itoa_nat]
  exact ddigits_ok _ (by omega) (by omega) w

set_option maxRecDepth 100000 in
set_option maxHeartbeats 1000000 in
theorem derr_ok (z : Int) (w : World) : Calls Tryd.prog 10 #[iv z] w fun e w' => e = .returned (.string (bs (errL z))) ∧ w' = w := by
  by_cases g0 : z = 3
  · subst g0
    have a1 : ∀ w, (Op.stringOp .add ⟨#[69,82,82,32]⟩ ⟨#[83,89,78,84,65,88]⟩).run Tryd.prog w = .ok (.string (bs [69,82,82,32,83,89,78,84,65,88])) w := fun w => bs_add [69,82,82,32] [83,89,78,84,65,88] (by decide) w
    have a2 : ∀ w, (Op.stringOp .add (bs [69,82,82,32,83,89,78,84,65,88]) ⟨#[10]⟩).run Tryd.prog w = .ok (.string (bs [69,82,82,32,83,89,78,84,65,88,10])) w := fun w => bs_add [69,82,82,32,83,89,78,84,65,88] [10] (by decide) w
    go_enter Tryd.func10, Tryd.ntmps10
    go_wp2
    go_ret
    exact ⟨rfl, rfl⟩
  by_cases g1 : z = 5
  · subst g1
    clear g0
    have a1 : ∀ w, (Op.stringOp .add ⟨#[69,82,82,32]⟩ ⟨#[84,79,79,66,73,71]⟩).run Tryd.prog w = .ok (.string (bs [69,82,82,32,84,79,79,66,73,71])) w := fun w => bs_add [69,82,82,32] [84,79,79,66,73,71] (by decide) w
    have a2 : ∀ w, (Op.stringOp .add (bs [69,82,82,32,84,79,79,66,73,71]) ⟨#[10]⟩).run Tryd.prog w = .ok (.string (bs [69,82,82,32,84,79,79,66,73,71,10])) w := fun w => bs_add [69,82,82,32,84,79,79,66,73,71] [10] (by decide) w
    go_enter Tryd.func10, Tryd.ntmps10
    go_wp2
    go_ret
    exact ⟨rfl, rfl⟩
  by_cases g2 : z = 2
  · subst g2
    clear g0 g1
    have a1 : ∀ w, (Op.stringOp .add ⟨#[69,82,82,32]⟩ ⟨#[84,79,79,66,73,71]⟩).run Tryd.prog w = .ok (.string (bs [69,82,82,32,84,79,79,66,73,71])) w := fun w => bs_add [69,82,82,32] [84,79,79,66,73,71] (by decide) w
    have a2 : ∀ w, (Op.stringOp .add (bs [69,82,82,32,84,79,79,66,73,71]) ⟨#[10]⟩).run Tryd.prog w = .ok (.string (bs [69,82,82,32,84,79,79,66,73,71,10])) w := fun w => bs_add [69,82,82,32,84,79,79,66,73,71] [10] (by decide) w
    go_enter Tryd.func10, Tryd.ntmps10
    go_wp2
    go_ret
    exact ⟨rfl, rfl⟩
  by_cases g3 : z = 61
  · subst g3
    clear g0 g1 g2
    have a1 : ∀ w, (Op.stringOp .add ⟨#[69,82,82,32]⟩ ⟨#[78,79,83,78,65,80]⟩).run Tryd.prog w = .ok (.string (bs [69,82,82,32,78,79,83,78,65,80])) w := fun w => bs_add [69,82,82,32] [78,79,83,78,65,80] (by decide) w
    have a2 : ∀ w, (Op.stringOp .add (bs [69,82,82,32,78,79,83,78,65,80]) ⟨#[10]⟩).run Tryd.prog w = .ok (.string (bs [69,82,82,32,78,79,83,78,65,80,10])) w := fun w => bs_add [69,82,82,32,78,79,83,78,65,80] [10] (by decide) w
    go_enter Tryd.func10, Tryd.ntmps10
    go_wp2
    go_ret
    exact ⟨rfl, rfl⟩
  by_cases g4 : z = 60
  · subst g4
    clear g0 g1 g2 g3
    have a1 : ∀ w, (Op.stringOp .add ⟨#[69,82,82,32]⟩ ⟨#[70,85,76,76]⟩).run Tryd.prog w = .ok (.string (bs [69,82,82,32,70,85,76,76])) w := fun w => bs_add [69,82,82,32] [70,85,76,76] (by decide) w
    have a2 : ∀ w, (Op.stringOp .add (bs [69,82,82,32,70,85,76,76]) ⟨#[10]⟩).run Tryd.prog w = .ok (.string (bs [69,82,82,32,70,85,76,76,10])) w := fun w => bs_add [69,82,82,32,70,85,76,76] [10] (by decide) w
    go_enter Tryd.func10, Tryd.ntmps10
    go_wp2
    go_ret
    exact ⟨rfl, rfl⟩
  by_cases g5 : z = 6
  · subst g5
    clear g0 g1 g2 g3 g4
    have a1 : ∀ w, (Op.stringOp .add ⟨#[69,82,82,32]⟩ ⟨#[78,65,78]⟩).run Tryd.prog w = .ok (.string (bs [69,82,82,32,78,65,78])) w := fun w => bs_add [69,82,82,32] [78,65,78] (by decide) w
    have a2 : ∀ w, (Op.stringOp .add (bs [69,82,82,32,78,65,78]) ⟨#[10]⟩).run Tryd.prog w = .ok (.string (bs [69,82,82,32,78,65,78,10])) w := fun w => bs_add [69,82,82,32,78,65,78] [10] (by decide) w
    go_enter Tryd.func10, Tryd.ntmps10
    go_wp2
    go_ret
    exact ⟨rfl, rfl⟩
  by_cases g6 : z = 65
  · subst g6
    clear g0 g1 g2 g3 g4 g5
    have a1 : ∀ w, (Op.stringOp .add ⟨#[69,82,82,32]⟩ ⟨#[77,65,78,89]⟩).run Tryd.prog w = .ok (.string (bs [69,82,82,32,77,65,78,89])) w := fun w => bs_add [69,82,82,32] [77,65,78,89] (by decide) w
    have a2 : ∀ w, (Op.stringOp .add (bs [69,82,82,32,77,65,78,89]) ⟨#[10]⟩).run Tryd.prog w = .ok (.string (bs [69,82,82,32,77,65,78,89,10])) w := fun w => bs_add [69,82,82,32,77,65,78,89] [10] (by decide) w
    go_enter Tryd.func10, Tryd.ntmps10
    go_wp2
    go_ret
    exact ⟨rfl, rfl⟩
  by_cases g7 : z = 50
  · subst g7
    clear g0 g1 g2 g3 g4 g5 g6
    have a1 : ∀ w, (Op.stringOp .add ⟨#[69,82,82,32]⟩ ⟨#[68,69,65,68]⟩).run Tryd.prog w = .ok (.string (bs [69,82,82,32,68,69,65,68])) w := fun w => bs_add [69,82,82,32] [68,69,65,68] (by decide) w
    have a2 : ∀ w, (Op.stringOp .add (bs [69,82,82,32,68,69,65,68]) ⟨#[10]⟩).run Tryd.prog w = .ok (.string (bs [69,82,82,32,68,69,65,68,10])) w := fun w => bs_add [69,82,82,32,68,69,65,68] [10] (by decide) w
    go_enter Tryd.func10, Tryd.ntmps10
    go_wp2
    go_ret
    exact ⟨rfl, rfl⟩
  have y0 : (z == 3) = false := by simpa using g0
  have y1 : (z == 5) = false := by simpa using g1
  have y2 : (z == 2) = false := by simpa using g2
  have y3 : (z == 61) = false := by simpa using g3
  have y4 : (z == 60) = false := by simpa using g4
  have y5 : (z == 6) = false := by simpa using g5
  have y6 : (z == 65) = false := by simpa using g6
  have y7 : (z == 50) = false := by simpa using g7
  have HE := hide (show errW z = [65,82,71] by unfold errW; simp only [g0, g1, g2, g3, g4, g5, g6, g7, if_false])
  clear g0 g1 g2 g3 g4 g5 g6 g7
  have a1 : ∀ w, (Op.stringOp .add ⟨#[69,82,82,32]⟩ ⟨#[65,82,71]⟩).run Tryd.prog w = .ok (.string (bs [69,82,82,32,65,82,71])) w := fun w => bs_add [69,82,82,32] [65,82,71] (by decide) w
  have a2 : ∀ w, (Op.stringOp .add (bs [69,82,82,32,65,82,71]) ⟨#[10]⟩).run Tryd.prog w = .ok (.string (bs [69,82,82,32,65,82,71,10])) w := fun w => bs_add [69,82,82,32,65,82,71] [10] (by decide) w
  go_enter Tryd.func10, Tryd.ntmps10
  go_wp2
  go_ret
  exact ⟨by unfold errL; rw [unhide HE]; rfl, rfl⟩
set_option maxRecDepth 100000 in
set_option maxHeartbeats 1000000 in
theorem dvalue_ok (x : List UInt8) (hx : x.length ≤ 1000000) (w : World) : Calls Tryd.prog 12 #[.string (bs x)] w fun e w' => e = .returned (.string (bs (valueL [86,65,76,85,69] x))) ∧ w' = w := by
  have hD := ddigits_nat x.length (by omega)
  have hl := dec_small x.length hx
  have hv : valueL [86,65,76,85,69] x = [86,65,76,85,69,32] ++ Lib.decDigits x.length ++ [10] ++ x ++ [10] := by unfold valueL; rw [line2_len]; simp
  rw [hv]
  obtain ⟨d, hd⟩ : ∃ d, Lib.decDigits x.length = d := ⟨_, rfl⟩
  rw [hd] at hD hl ⊢
  have hsz := bs_size x
  obtain ⟨l1, e1⟩ : ∃ t, [86,65,76,85,69,32] ++ d = t := ⟨_, rfl⟩
  have hl1 : l1.length ≤ 40 := by rw [← e1]; simp; omega
  have a1 : ∀ w, (Op.stringOp .add ⟨#[86,65,76,85,69,32]⟩ (bs d)).run Tryd.prog w = .ok (.string (bs l1)) w := fun w => by rw [← e1]; exact bs_add _ d (by simp; omega) w
  rw [e1]
  obtain ⟨l2, e2⟩ : ∃ t, l1 ++ [10] = t := ⟨_, rfl⟩
  have hl2 : l2.length ≤ 41 := by rw [← e2]; simp; omega
  have a2 : ∀ w, (Op.stringOp .add (bs l1) ⟨#[10]⟩).run Tryd.prog w = .ok (.string (bs l2)) w := fun w => by rw [← e2]; exact bs_add l1 [10] (by simp; omega) w
  rw [e2]
  obtain ⟨l3, e3⟩ : ∃ t, l2 ++ x = t := ⟨_, rfl⟩
  have hl3 : l3.length ≤ 1000041 := by rw [← e3]; simp; omega
  have a3 : ∀ w, (Op.stringOp .add (bs l2) (bs x)).run Tryd.prog w = .ok (.string (bs l3)) w := fun w => by rw [← e3]; exact bs_add l2 x (by omega) w
  rw [e3]
  have a4 : ∀ w, (Op.stringOp .add (bs l3) ⟨#[10]⟩).run Tryd.prog w = .ok (.string (bs (l3 ++ [10]))) w := fun w => bs_add l3 [10] (by simp; omega) w
  obtain ⟨l4, e4⟩ : ∃ t, l3 ++ [10] = t := ⟨_, rfl⟩
  rw [e4] at a4 ⊢
  clear e1 e2 e3 e4 hv hd hl hx hl1 hl2 hl3
  go_enter Tryd.func12, Tryd.ntmps12
  go_wp2_with (first | (go_at_call 40; refine (hD _).mono ?_; rintro e w' ⟨rfl, rfl⟩))
  go_ret
  exact ⟨rfl, rfl⟩
/-- A number's answer. -/
def numbL (n : Int) : List UInt8 := [78,85,77,66,69,82] ++ 32 :: (Lib.itoa n ++ [10])
set_option maxRecDepth 100000 in
set_option maxHeartbeats 1000000 in
theorem dnum_ok (n : Int) (h0 : -9223372036854775808 < n) (h1 : n ≤ 9223372036854775807) (w : World) : Calls Tryd.prog 24 #[iv n] w fun e w' => e = .returned (.string (bs (numbL n))) ∧ w' = w := by
  have hD := ddigits_ok n h0 h1
  have hl := itoa_len n (by omega) h1
  unfold numbL
  obtain ⟨d, hd⟩ : ∃ d, Lib.itoa n = d := ⟨_, rfl⟩
  rw [hd] at hD hl ⊢
  clear hd h0 h1
  have a1 : ∀ w, (Op.stringOp .add ⟨#[78,85,77,66,69,82,32]⟩ (bs d)).run Tryd.prog w = .ok (.string (bs ([78,85,77,66,69,82,32] ++ d))) w := fun w => bs_add _ d (by simp; omega) w
  have a2 : ∀ w, (Op.stringOp .add (bs ([78,85,77,66,69,82,32] ++ d)) ⟨#[10]⟩).run Tryd.prog w = .ok (.string (bs ([78,85,77,66,69,82,32] ++ d ++ [10]))) w := fun w => bs_add _ [10] (by simp; omega) w
  have he : [78,85,77,66,69,82,32] ++ d ++ [10] = [78,85,77,66,69,82] ++ 32 :: (d ++ [10]) := by simp
  rw [he] at a2
  obtain ⟨l1, e1⟩ : ∃ t, [78,85,77,66,69,82,32] ++ d = t := ⟨_, rfl⟩
  rw [e1] at a1 a2
  obtain ⟨l2, e2⟩ : ∃ t, [78,85,77,66,69,82] ++ 32 :: (d ++ [10]) = t := ⟨_, rfl⟩
  rw [e2] at a2 ⊢
  clear he e1 e2 hl
  go_enter Tryd.func24, Tryd.ntmps24
  go_wp2_with (first | (go_at_call 40; refine (hD _).mono ?_; rintro e w' ⟨rfl, rfl⟩))
  go_ret
  exact ⟨rfl, rfl⟩
set_option maxRecDepth 100000 in
set_option maxHeartbeats 1000000 in
theorem dscore_ok {a : Nat} {d : List UInt8} (hT : ToldD a d) (w : World) : Calls Tryd.prog 26 #[.float .f64 a] w fun e w' => e = .returned (.string (bs (scoreL d))) ∧ w' = w := by
  have hD := hT.ref
  have hl := hT.small
  unfold scoreL
  clear hT
  have a1 : ∀ w, (Op.stringOp .add ⟨#[83,67,79,82,69,32]⟩ (bs d)).run Tryd.prog w = .ok (.string (bs ([83,67,79,82,69,32] ++ d))) w := fun w => bs_add _ d (by simp; omega) w
  have a2 : ∀ w, (Op.stringOp .add (bs ([83,67,79,82,69,32] ++ d)) ⟨#[10]⟩).run Tryd.prog w = .ok (.string (bs ([83,67,79,82,69,32] ++ d ++ [10]))) w := fun w => bs_add _ [10] (by simp; omega) w
  have he : [83,67,79,82,69,32] ++ d ++ [10] = [83,67,79,82,69] ++ 32 :: (d ++ [10]) := by simp
  rw [he] at a2
  obtain ⟨l1, e1⟩ : ∃ t, [83,67,79,82,69,32] ++ d = t := ⟨_, rfl⟩
  rw [e1] at a1 a2
  obtain ⟨l2, e2⟩ : ∃ t, [83,67,79,82,69] ++ 32 :: (d ++ [10]) = t := ⟨_, rfl⟩
  rw [e2] at a2 ⊢
  clear he e1 e2 hl
  go_enter Tryd.func26, Tryd.ntmps26
  go_wp2_with (first | (go_at_call 44; refine (hD _).mono ?_; rintro e w' ⟨rfl, rfl⟩))
  go_ret
  exact ⟨rfl, rfl⟩
/-- The answer of yes or no. -/
def boolL (b : Bool) : List UInt8 := if b then [89,69,83,10] else [78,79,10]
set_option maxRecDepth 100000 in
set_option maxHeartbeats 1000000 in
theorem dbool_ok (b : Bool) (w : World) : Calls Tryd.prog 16 #[.bool b] w fun e w' => e = .returned (.string (bs (boolL b))) ∧ w' = w := by
  cases b
  all_goals
    go_enter Tryd.func16, Tryd.ntmps16
    go_wp2
    go_ret
    exact ⟨rfl, rfl⟩
set_option maxRecDepth 100000 in
set_option maxHeartbeats 1000000 in
theorem rbool_ok (b : Bool) (w : World) : Calls Tryd.prog 15 #[.bool b] w fun e w' => e = .returned (.string (bs (boolL b))) ∧ Still w w' := by
  cases b
  · have H := hide (oneLine_ok (w := w.alloc (.cells #[.string (bs [78,79])] 9)) w.heap.size 0 1 [[78,79]] (one_tx w _) (by simp) (by simp) (by simp) (by rw [line1_len]; simp))
    go_enter Tryd.func15, Tryd.ntmps15
    go_wp2_with fail
    refine (unhide H).mono ?_
    rintro e w1 ⟨rfl, s1⟩
    have S1 := hide s1
    clear s1 H
    rw [line1_len]
    go_wp2
    go_ret
    exact ⟨rfl, ((Fr.refl _ w).alloc _).trans (unhide S1)⟩
  · have H := hide (oneLine_ok (w := w.alloc (.cells #[.string (bs [89,69,83])] 9)) w.heap.size 0 1 [[89,69,83]] (one_tx w _) (by simp) (by simp) (by simp) (by rw [line1_len]; simp))
    go_enter Tryd.func15, Tryd.ntmps15
    go_wp2_with fail
    refine (unhide H).mono ?_
    rintro e w1 ⟨rfl, s1⟩
    have S1 := hide s1
    clear s1 H
    rw [line1_len]
    go_wp2
    go_ret
    exact ⟨rfl, ((Fr.refl _ w).alloc _).trans (unhide S1)⟩
set_option maxRecDepth 100000 in
set_option maxHeartbeats 1000000 in
theorem rnum_ok (n : Int) (h0 : -9223372036854775808 ≤ n) (h1 : n ≤ 9223372036854775807) {W w : World} (hK : Kn W w) : Calls Tryd.prog 23 #[iv n] w fun e w' => e = .returned (.string (bs (numbL n))) ∧ Still w w' := by
  have HT := hide (itoa_ok n h0 h1 hK)
  have hl := itoa_len n h0 h1
  unfold numbL
  obtain ⟨T, hd⟩ : ∃ d, Lib.itoa n = d := ⟨_, rfl⟩
  rw [hd] at HT hl ⊢
  have H := hide (fun w1 => oneLine_ok (w := w1.alloc (.cells #[.string (bs [78,85,77,66,69,82]), .string (bs T)] 9)) w1.heap.size 0 2 [[78,85,77,66,69,82], T] (two_tx w1 _ _) (by simp) (by simp) (by simp) (by rw [line2_len]; simp; omega))
  clear hl hK hd h0 h1
  go_enter Tryd.func23, Tryd.ntmps23
  go_wp2_with fail
  refine (unhide HT).mono ?_
  rintro e w2 ⟨rfl, s2⟩
  have S2 := hide s2
  clear s2 HT
  go_wp2_with fail
  refine (unhide H w2).mono ?_
  rintro e w1 ⟨rfl, s1⟩
  have S1 := hide s1
  clear s1 H
  rw [line2_len]
  go_wp2
  go_ret
  exact ⟨rfl, ((unhide S2).alloc _).trans (unhide S1)⟩
end Go.Proofs.YticflknfkaoejaaDoor
