/- A device without room; the closures of TxRooms. -/
import Derived.Test.YtamghkabclbkgaaTld
namespace Go.Proofs.Ytamghkabclbkgaa
open Go.RowKit

section
variable {w w' : World} {sb b bs nb : Nat} {T : Tay} {n : Nat} {A : Ab} {P : List (Int × Int)} {L : Lay}

set_option maxHeartbeats 1000000 in
theorem tx_open_arg (d : DevL w b L A) (h : A.n * 8 ≤ 12400) : Calls Try.prog 16 #[ptr b] w fun e w' => e = .returned (.tuple #[.pointer none, .int .i64 1]) ∧ Still w w' := by
  obtain ⟨W, hW⟩ : ∃ W, w.alloc (.cells #[ptr b] 23) = W := ⟨_, rfl⟩
  have fW : Still w W := hW ▸ (Fr.refl _ w).alloc _
  have WD := words_any b L.bn A.n W d.n8 (d.keptF fW).c0
  have RM : Calls Try.prog 18 #[.int .i64 ((A.n : Int) * 8)] W fun e w' => e = .returned (.int .i64 0) ∧ w' = W := by
    rcases Nat.lt_or_ge (A.n * 8) 12400 with h1 | h1
    · exact room_no _ (by omega) W
    · have := room_ok ((A.n : Int) * 8) (by omega) (by omega) W
      rw [show (((A.n : Int) * 8 - 12400) / 8 * 8) = 0 by omega] at this
      exact this
  have bc : W.cell? ⟨w.heap.size, 0, none⟩ = some (ptr b) := hW ▸ (Box.new w (ptr b) 23).c
  have enil := eq_nil_dev
  have H1 := hide WD; have H2 := hide RM; have HF := hide fW
  clear d WD RM fW
  go_enter Try.func16, Try.ntmps16
  go_wp2_with (first | (go_at_call 46; refine (unhide H1).mono ?_; rintro e w1 ⟨rfl, hh⟩; replace hh := hh.symm; subst hh) | (go_at_call 18; refine (unhide H2).mono ?_; rintro e w1 ⟨rfl, hh⟩; replace hh := hh.symm; subst hh))
  go_ret2
  exact ⟨rfl, unhide HF⟩

theorem eq_nil_nil (w : World) : (binOp .eql 23 (.pointer none) (.pointer none)).run Try.prog w = .ok (.bool true) w := by kernel_rfl

set_option maxHeartbeats 1000000 in
theorem law_open_nil (x : Int) (h : x < 8 ∨ 65536 < x ∨ x % 8 ≠ 0) (w : World) : Calls Try.prog 9 #[.int .i64 x] w fun e w' => e = .returned (.tuple #[.pointer none, .pointer none]) ∧ w' = w := by
  have K := hide (new_bad x h w)
  have h1 := eq_nil_nil
  clear h
  go_enter Try.func9, Try.ntmps9
  go_wp2_with fail
  refine (unhide K).mono ?_
  clear K
  rintro e w1 ⟨rfl, hh⟩
  replace hh := hh.symm
  subst hh
  go_wp2
  go_ret2
  exact ⟨rfl, rfl⟩

set_option maxHeartbeats 1000000 in
theorem law_open_none (N : Nat) (h1 : 1 ≤ N) (h2 : N * 8 ≤ 12400) (w : World) : Calls Try.prog 9 #[.int .i64 ((N : Int) * 8)] w fun e w' => e = .returned (.tuple #[ptr (w.heap.size + 3), .pointer none]) ∧ Still w w' := by
  have K := new_any N h1 (by omega) w
  have HK := hide K
  have e1 := eq_nil_dev
  clear K
  go_enter Try.func9, Try.ntmps9
  go_wp2_with fail
  refine (unhide HK).mono ?_
  clear HK
  unfold NewOk
  rintro e w1 ⟨rfl, L, d, f, nw⟩
  have K2 := tx_open_arg d h2
  have HK := hide K2; have HF := hide f
  clear K2 d f nw
  go_wp2_with fail
  refine (unhide HK).mono ?_
  clear HK
  rintro e w2 ⟨rfl, f2⟩
  have HF2 := hide f2
  clear f2
  go_wp2
  go_ret2
  exact ⟨rfl, (unhide HF).trans (unhide HF2)⟩

set_option maxHeartbeats 400000 in
theorem rooms_c1 (h : StL w sb b T n A P false) (ha : A.dead = false) (hn : 0 < n) (hb : P.length < 6144) (bc : w.cell? ⟨bs, 0, none⟩ = some (ptr sb)) (nc : w.cell? ⟨nb, 0, none⟩ = some (.int .i64 n)) :
    Calls Try.prog 21 #[ptr bs, ptr nb] w fun e w' => e = .returned (.tuple #[]) ∧ ∃ T', Onx w sb b T w' T' n A (put P (12400 + ((n - 1 : Nat) : Int)) 9) false := by
  have K := t_put h ha (n - 1) 9 (by omega) (.inl hb)
  have e1 : ((n - 1 : Nat) : Int) = (n : Int) - 1 := by omega
  have n8 := h.n8
  rw [e1] at K
  have HK := hide K
  have HE := hide e1
  clear K h e1
  go_enter Try.func21, Try.ntmps21
  go_wp2_with fail
  refine (unhide HK).mono ?_
  clear HK
  rintro e w1 ⟨rfl, T', -, o⟩
  rw [← unhide HE] at o
  have HO := hide o
  clear o
  go_wp2
  go_end0
  exact ⟨rfl, T', unhide HO⟩

set_option maxHeartbeats 400000 in
theorem rooms_c2 (h : StL w sb b T n A P false) (bc : w.cell? ⟨bs, 0, none⟩ = some (ptr sb)) (nc : w.cell? ⟨nb, 0, none⟩ = some (.int .i64 n)) :
    Calls Try.prog 22 #[ptr bs, ptr nb] w fun e w' => e = .panicked (errnoP 1) ∧ w' = w := by
  have K := hide (t_put_arg h n 9 (.inr (Int.le_refl _)))
  clear h
  go_enter Try.func22, Try.ntmps22
  go_wp2_with fail
  refine (unhide K).mono ?_
  rintro e w1 ⟨rfl, rfl⟩
  exact ⟨rfl, rfl, rfl⟩

set_option maxHeartbeats 400000 in
theorem rooms_c3 (h : StL w sb b T n A P false) (bc : w.cell? ⟨bs, 0, none⟩ = some (ptr sb)) :
    Calls Try.prog 23 #[ptr bs] w fun e w' => e = .panicked (errnoP 1) ∧ w' = w := by
  have K := hide (t_put_arg h (-1) 9 (.inl (by omega)))
  clear h
  go_enter Try.func23, Try.ntmps23
  go_wp2_with fail
  refine (unhide K).mono ?_
  rintro e w1 ⟨rfl, rfl⟩
  exact ⟨rfl, rfl, rfl⟩

set_option maxHeartbeats 400000 in
theorem rooms_c4 {dd : Bool} (h : StL w sb b T n A P dd) (bc : w.cell? ⟨bs, 0, none⟩ = some (ptr sb)) (nc : w.cell? ⟨nb, 0, none⟩ = some (.int .i64 n)) :
    Calls Try.prog 26 #[ptr bs, ptr nb] w fun e w' => e = .panicked (errnoP 1) ∧ w' = w := by
  have K := hide (t_load_arg h n (.inr (Int.le_refl _)))
  clear h
  go_enter Try.func26, Try.ntmps26
  go_wp2_with fail
  refine (unhide K).mono ?_
  rintro e w1 ⟨rfl, rfl⟩
  exact ⟨rfl, rfl, rfl⟩
end
end Go.Proofs.Ytamghkabclbkgaa
