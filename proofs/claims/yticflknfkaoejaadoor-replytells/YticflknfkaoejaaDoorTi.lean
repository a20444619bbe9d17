/- Reply: spreads are told. -/
import Derived.Test.YticflknfkaoejaaDoorTe
import Derived.Test.YticflknfkaoejaaDoorRp
import Derived.BigQuiet
namespace Go.Proofs.YticflknfkaoejaaDoor
open Go.RowKit

/-- What is told of a spread. -/
def spreadL (n : Nat) (T1 T2 T3 T4 : List UInt8) : List UInt8 := lineL [[83,80,82,69,65,68], Lib.decDigits n, T1, T2, T3, T4]
theorem line6_len (k d T1 T2 T3 T4 : List UInt8) : lineL [k, d, T1, T2, T3, T4] = k ++ 32 :: (d ++ 32 :: (T1 ++ 32 :: (T2 ++ 32 :: (T3 ++ 32 :: (T4 ++ [10]))))) := by
  unfold lineL
  rw [Lib.join_cons]
  simp [Lib.joinTail]
theorem six_tx (w : World) (x0 x1 x2 x3 x4 x5 : List UInt8) : Tx (w.alloc (.cells #[.string (bs x0), .string (bs x1), .string (bs x2), .string (bs x3), .string (bs x4), .string (bs x5)] 9)) w.heap.size 0 [x0, x1, x2, x3, x4, x5] := fun j z hz => by
  rw [Nat.zero_add, cell_of_obj (heap_alloc_new w _) j]
  match j, hz with
  | 0, hz => cases hz; rfl
  | 1, hz => cases hz; rfl
  | 2, hz => cases hz; rfl
  | 3, hz => cases hz; rfl
  | 4, hz => cases hz; rfl
  | 5, hz => cases hz; rfl
set_option maxRecDepth 100000 in
set_option maxHeartbeats 4000000 in
theorem dspread_ok {w : World} (n : Nat) (hn : n ≤ 1000) (b1 b2 b3 b4 : Nat) (T1 T2 T3 T4 : List UInt8) (h1 : ToldD b1 T1) (h2 : ToldD b2 T2) (h3 : ToldD b3 T3) (h4 : ToldD b4 T4) :
    Calls Tryd.prog 22 #[.agg #[iv n, .float .f64 b1, .float .f64 b2, .float .f64 b3, .float .f64 b4]] w fun e w' => e = .returned (.string (bs (spreadL n T1 T2 T3 T4))) ∧ Still w w' := by
  have hD := ddigits_nat n (by omega)
  have hd := dec_small n (by omega)
  unfold spreadL
  rw [line6_len]
  obtain ⟨d, hdd⟩ : ∃ d, Lib.decDigits n = d := ⟨_, rfl⟩
  rw [hdd] at hD hd ⊢
  have s1 := h1.small; have s2 := h2.small; have s3 := h3.small; have s4 := h4.small
  obtain ⟨q1, e_q1⟩ : ∃ t, [83,80,82,69,65,68,32] ++ d = t := ⟨_, rfl⟩
  have l_q1 : q1.length ≤ 27 := by rw [← e_q1]; simp; omega
  have a_q1 : ∀ w, (Op.stringOp .add ⟨#[83,80,82,69,65,68,32]⟩ (bs d)).run Tryd.prog w = .ok (.string (bs q1)) w := fun w => by rw [← e_q1]; exact bs_add [83,80,82,69,65,68,32] d (by (try simp only [List.length_cons, List.length_nil]); omega) w
  obtain ⟨q2, e_q2⟩ : ∃ t, q1 ++ [32] = t := ⟨_, rfl⟩
  have l_q2 : q2.length ≤ 28 := by rw [← e_q2]; simp; omega
  have a_q2 : ∀ w, (Op.stringOp .add (bs q1) ⟨#[32]⟩).run Tryd.prog w = .ok (.string (bs q2)) w := fun w => by rw [← e_q2]; exact bs_add q1 [32] (by (try simp only [List.length_cons, List.length_nil]); omega) w
  obtain ⟨q3, e_q3⟩ : ∃ t, q2 ++ T1 = t := ⟨_, rfl⟩
  have l_q3 : q3.length ≤ 68 := by rw [← e_q3]; simp; omega
  have a_q3 : ∀ w, (Op.stringOp .add (bs q2) (bs T1)).run Tryd.prog w = .ok (.string (bs q3)) w := fun w => by rw [← e_q3]; exact bs_add q2 T1 (by (try simp only [List.length_cons, List.length_nil]); omega) w
  obtain ⟨q4, e_q4⟩ : ∃ t, q3 ++ [32] = t := ⟨_, rfl⟩
  have l_q4 : q4.length ≤ 69 := by rw [← e_q4]; simp; omega
  have a_q4 : ∀ w, (Op.stringOp .add (bs q3) ⟨#[32]⟩).run Tryd.prog w = .ok (.string (bs q4)) w := fun w => by rw [← e_q4]; exact bs_add q3 [32] (by (try simp only [List.length_cons, List.length_nil]); omega) w
  obtain ⟨q5, e_q5⟩ : ∃ t, q4 ++ T2 = t := ⟨_, rfl⟩
  have l_q5 : q5.length ≤ 109 := by rw [← e_q5]; simp; omega
  have a_q5 : ∀ w, (Op.stringOp .add (bs q4) (bs T2)).run Tryd.prog w = .ok (.string (bs q5)) w := fun w => by rw [← e_q5]; exact bs_add q4 T2 (by (try simp only [List.length_cons, List.length_nil]); omega) w
  obtain ⟨q6, e_q6⟩ : ∃ t, q5 ++ [32] = t := ⟨_, rfl⟩
  have l_q6 : q6.length ≤ 110 := by rw [← e_q6]; simp; omega
  have a_q6 : ∀ w, (Op.stringOp .add (bs q5) ⟨#[32]⟩).run Tryd.prog w = .ok (.string (bs q6)) w := fun w => by rw [← e_q6]; exact bs_add q5 [32] (by (try simp only [List.length_cons, List.length_nil]); omega) w
  obtain ⟨q7, e_q7⟩ : ∃ t, q6 ++ T3 = t := ⟨_, rfl⟩
  have l_q7 : q7.length ≤ 150 := by rw [← e_q7]; simp; omega
  have a_q7 : ∀ w, (Op.stringOp .add (bs q6) (bs T3)).run Tryd.prog w = .ok (.string (bs q7)) w := fun w => by rw [← e_q7]; exact bs_add q6 T3 (by (try simp only [List.length_cons, List.length_nil]); omega) w
  obtain ⟨q8, e_q8⟩ : ∃ t, q7 ++ [32] = t := ⟨_, rfl⟩
  have l_q8 : q8.length ≤ 151 := by rw [← e_q8]; simp; omega
  have a_q8 : ∀ w, (Op.stringOp .add (bs q7) ⟨#[32]⟩).run Tryd.prog w = .ok (.string (bs q8)) w := fun w => by rw [← e_q8]; exact bs_add q7 [32] (by (try simp only [List.length_cons, List.length_nil]); omega) w
  obtain ⟨q9, e_q9⟩ : ∃ t, q8 ++ T4 = t := ⟨_, rfl⟩
  have l_q9 : q9.length ≤ 191 := by rw [← e_q9]; simp; omega
  have a_q9 : ∀ w, (Op.stringOp .add (bs q8) (bs T4)).run Tryd.prog w = .ok (.string (bs q9)) w := fun w => by rw [← e_q9]; exact bs_add q8 T4 (by (try simp only [List.length_cons, List.length_nil]); omega) w
  obtain ⟨q10, e_q10⟩ : ∃ t, q9 ++ [10] = t := ⟨_, rfl⟩
  have l_q10 : q10.length ≤ 192 := by rw [← e_q10]; simp; omega
  have a_q10 : ∀ w, (Op.stringOp .add (bs q9) ⟨#[10]⟩).run Tryd.prog w = .ok (.string (bs q10)) w := fun w => by rw [← e_q10]; exact bs_add q9 [10] (by (try simp only [List.length_cons, List.length_nil]); omega) w
  have he : [83,80,82,69,65,68] ++ 32 :: (d ++ 32 :: (T1 ++ 32 :: (T2 ++ 32 :: (T3 ++ 32 :: (T4 ++ [10]))))) = q10 := by rw [← e_q10, ← e_q9, ← e_q8, ← e_q7, ← e_q6, ← e_q5, ← e_q4, ← e_q3, ← e_q2, ← e_q1]; simp
  rw [he]
  clear he hd hdd s1 s2 s3 s4 hn e_q1 e_q2 e_q3 e_q4 e_q5 e_q6 e_q7 e_q8 e_q9 e_q10 l_q1 l_q2 l_q3 l_q4 l_q5 l_q6 l_q7 l_q8 l_q9 l_q10
  go_enter Tryd.func22, Tryd.ntmps22
  go_wp2_with fail
  go_quiet (first | (go_at_call 40; exact Calls.quiet_of_same (hD _)) | (go_at_call 44; exact Calls.quiet_of_same (ToldD.ref (by assumption) _)))
  go_wp2_with fail
  go_ret
  exact ⟨rfl, ((Fr.refl _ _).alloc _).drewN _⟩
end Go.Proofs.YticflknfkaoejaaDoor
