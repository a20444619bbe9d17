/- The document's own Text. -/
import Derived.Test.YticflknfkaoejaaDoorTextH
import Derived.Test.YticflknfkaoejaaDoorNan
namespace Go.Proofs.YticflknfkaoejaaDoor
open Go.RowKit

/-- The sign that stands ahead of a text. -/
def sg (neg : Bool) : List UInt8 := if neg then [45] else []

theorem inf_notWhole (b : Nat) (h : 4831355200913801216 ≤ b % 9223372036854775808) : NotWhole b := fun q hq e => by
  have := wr_small q hq
  omega

theorem dec_len (u : Nat) : (Lib.decDigits u).length ≤ u + 1 := by
  induction u using Nat.strongRecOn with
  | ind u ih =>
    rw [Lib.decDigits]
    split
    · simp
    · have := ih (u / 10) (by omega)
      simp; omega

set_option maxRecDepth 100000 in
set_option maxHeartbeats 1000000 in
theorem reftext_nan (b : Nat) (hb : b < 18446744073709551616) (hn : nanB b = true) (w : World) : Calls Tryd.prog 44 #[.float .f64 b] w fun e w' => e = .returned (.string ⟨#[110, 97, 110]⟩) ∧ w' = w := by
  have hbit := bits_run
  have hno : NotWhole b := inf_notWhole b (by simp only [nanB, decide_eq_true_eq] at hn; omega)
  have hs : bits .and .u64 (b : Int) 9223372036854775808 = 0 ∨ bits .and .u64 (b : Int) 9223372036854775808 = 9223372036854775808 := by
    rw [iand_top b hb]; split <;> simp
  rcases hs with hs | hs
  all_goals
    go_enter Tryd.func44, Tryd.ntmps44
    go_wp2_with (first | (go_at_call 55; refine (refWhole_no b hb hno _).mono ?_; rintro e w' ⟨⟨v, rfl⟩, rfl⟩) | (go_at_call 31; refine (refNan_ok b hb _).mono ?_; rintro e w' ⟨rfl, rfl⟩))
    go_ret
    exact ⟨rfl, rfl⟩

set_option maxRecDepth 100000 in
set_option maxHeartbeats 1000000 in
theorem reftext_inf (neg : Bool) (w : World) : Calls Tryd.prog 44 #[.float .f64 (if neg then 18442240474082181120 else 9218868437227405312)] w fun e w' => e = .returned (.string ⟨(sg neg ++ [105, 110, 102]).toArray⟩) ∧ w' = w := by
  have hbit := bits_run
  cases neg
  · have hno : NotWhole 9218868437227405312 := inf_notWhole _ (by decide)
    have hs : bits .and .u64 9218868437227405312 9223372036854775808 = 0 := by decide
    have h2 : bits .andNot .u64 9218868437227405312 9223372036854775808 = 9218868437227405312 := by decide
    have h3 : nanB 9218868437227405312 = false := by decide
    show Calls Tryd.prog 44 #[.float .f64 9218868437227405312] w _
    go_enter Tryd.func44, Tryd.ntmps44
    go_wp2_with (first | (go_at_call 55; refine (refWhole_no 9218868437227405312 (by decide) hno _).mono ?_; rintro e w' ⟨⟨v, rfl⟩, rfl⟩) | (go_at_call 31; refine (refNan_ok 9218868437227405312 (by decide) _).mono ?_; rintro e w' ⟨rfl, rfl⟩))
    go_ret
    exact ⟨rfl, rfl⟩
  · have hno : NotWhole 18442240474082181120 := inf_notWhole _ (by decide)
    have hs : bits .and .u64 18442240474082181120 9223372036854775808 = 9223372036854775808 := by decide
    have h2 : bits .andNot .u64 18442240474082181120 9223372036854775808 = 9218868437227405312 := by decide
    have h3 : nanB 18442240474082181120 = false := by decide
    show Calls Tryd.prog 44 #[.float .f64 18442240474082181120] w _
    go_enter Tryd.func44, Tryd.ntmps44
    go_wp2_with (first | (go_at_call 55; refine (refWhole_no 18442240474082181120 (by decide) hno _).mono ?_; rintro e w' ⟨⟨v, rfl⟩, rfl⟩) | (go_at_call 31; refine (refNan_ok 18442240474082181120 (by decide) _).mono ?_; rintro e w' ⟨rfl, rfl⟩))
    go_ret
    exact ⟨rfl, rfl⟩

set_option maxRecDepth 100000 in
set_option maxHeartbeats 1000000 in
theorem reftext_whole (neg : Bool) (q : Nat) (hq : q < 1000000000000000) (w : World) : Calls Tryd.prog 44 #[.float .f64 (wb neg q)] w fun e w' => e = .returned (.string ⟨(sg neg ++ Lib.decDigits q).toArray⟩) ∧ w' = w := by
  have hbit := bits_run
  obtain ⟨f1, f2, f3, f4⟩ := wb_facts neg q (by omega)
  have hW := refWhole_yes neg q hq
  have hD := digits_ok q hq
  have hlen : (Lib.decDigits q).length ≤ q + 1 := dec_len q
  have hN := refNan_ok (wb neg q) f1
  rw [f2] at hN
  have hi : bits .andNot .u64 ((wb neg q : Nat) : Int) 9223372036854775808 = (wr q : Int) := by rw [iandNot_top _ f1, f3]
  have hr : (((wr q : Nat) : Int) == 9218868437227405312) = false := by have := wr_lt q (by omega); simp; omega
  have hs : bits .and .u64 ((wb neg q : Nat) : Int) 9223372036854775808 = if neg then 9223372036854775808 else 0 := by
    have := wr_lt q (by omega)
    rw [iand_top _ f1]
    cases neg
    · rw [show wb false q = wr q from rfl, if_pos (by omega)]; rfl
    · rw [show wb true q = 9223372036854775808 + wr q from rfl, if_neg (by omega)]; rfl
  generalize wr q = r at *
  generalize Lib.decDigits q = D at *
  generalize wb neg q = b at *
  clear f2 f3 f4
  cases neg
  · rw [if_neg (by decide)] at hs
    go_enter Tryd.func44, Tryd.ntmps44
    go_wp2_with (first | (go_at_call 55; refine (hW _).mono ?_; rintro e w' ⟨rfl, rfl⟩) | (go_at_call 31; refine (hN _).mono ?_; rintro e w' ⟨rfl, rfl⟩) | (go_at_call 47; refine (hD _).mono ?_; rintro e w' ⟨rfl, rfl⟩))
    go_ret
    exact ⟨congrArg (fun x => Ending.returned (Value.string x)) (by apply ByteArray.ext; simp [sg]), rfl⟩
  · rw [if_pos rfl] at hs
    go_enter Tryd.func44, Tryd.ntmps44
    go_wp2_with (first | (go_at_call 55; refine (hW _).mono ?_; rintro e w' ⟨rfl, rfl⟩) | (go_at_call 31; refine (hN _).mono ?_; rintro e w' ⟨rfl, rfl⟩) | (go_at_call 47; refine (hD _).mono ?_; rintro e w' ⟨rfl, rfl⟩))
    go_ret
    exact ⟨congrArg (fun x => Ending.returned (Value.string x)) (by apply ByteArray.ext; simp [sg]), rfl⟩

set_option maxRecDepth 100000 in
set_option maxHeartbeats 1000000 in
theorem reftext_hex (b : Nat) (hb : b < 18446744073709551616) (hr : b % 9223372036854775808 < 9218868437227405312) (hno : NotWhole b) (w : World) : Calls Tryd.prog 44 #[.float .f64 b] w fun e w' => e = .returned (.string ⟨(hexT b).toArray⟩) ∧ w' = w := by
  have hbit := bits_run
  have hn : nanB b = false := by simp only [nanB, decide_eq_false_iff_not, Nat.not_lt]; omega
  have hi := iandNot_top b hb
  have hr2 : (((b % 9223372036854775808 : Nat) : Int) == 9218868437227405312) = false := by simp; omega
  have hs : bits .and .u64 (b : Int) 9223372036854775808 = 0 ∨ bits .and .u64 (b : Int) 9223372036854775808 = 9223372036854775808 := by
    rw [iand_top b hb]; split <;> simp
  have hH := hex_ok b hb
  have hl := hexN_length 16 b
  rw [hexT_N b hb]
  generalize hexN 16 b = H at *
  generalize b % 9223372036854775808 = r at *
  rcases hs with hs | hs
  all_goals
    go_enter Tryd.func44, Tryd.ntmps44
    go_wp2_with (first | (go_at_call 55; refine (refWhole_no b hb hno _).mono ?_; rintro e w' ⟨⟨v, rfl⟩, rfl⟩) | (go_at_call 31; refine (refNan_ok b hb _).mono ?_; rintro e w' ⟨rfl, rfl⟩) | (go_at_call 56; refine (hH _).mono ?_; rintro e w' ⟨rfl, rfl⟩))
    go_ret
    exact ⟨congrArg (fun x => Ending.returned (Value.string x)) (by apply ByteArray.ext; simp), rfl⟩
end Go.Proofs.YticflknfkaoejaaDoor
