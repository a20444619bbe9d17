/- Reply, told alone: what the library looks into. -/
import Derived.Test.YticflknfkaoejaaDoorRefT
import Derived.Test.YticflknfkaoejaaDoorYb
import Derived.Test.YticflknfkaoejaaDoorDv
import Derived.Sort.Walk0
namespace Go.Proofs.YticflknfkaoejaaDoor
open Go.RowKit

/-- The world holds what the library's functions look into. -/
structure Lk (w : World) : Prop where
  tab : Tab w
  pow : Pow w
theorem Lk.on {w w' : World} (h : Lk w) (hb : Below w.heap.size w w') : Lk w' := ⟨h.tab.on hb, below_pow h.pow hb⟩
/-- Since the world W, in which lies what the library looks into, nothing of it has turned. -/
structure Kn (W w : World) : Prop where
  lk : Lk W
  le : Below W.heap.size W w
theorem Kn.look {W w : World} (h : Kn W w) : Lk w := h.lk.on h.le
theorem Kn.step {W w w' : World} {F : Nat → Prop} (h : Kn W w) (f : Fr F w w') (hF : ∀ k, F k → W.heap.size ≤ k) : Kn W w' := ⟨h.lk, h.le.trans (f.below h.le.size hF)⟩
theorem Kn.still {W w w' : World} (h : Kn W w) (f : Still w w') : Kn W w' := h.step f fun _ x => x.elim
theorem Kn.size {W w : World} (h : Kn W w) : W.heap.size ≤ w.heap.size := h.le.size
theorem still_of {w w' : World} (h : Below w.heap.size w w') : Still w w' := Fr.ofBelow h
theorem grow_still (w : World) (k : Nat) (os : Array Obj) : Still w (Go.Sort.grow (w.drewN k) os) := by
  refine ⟨rfl, rfl, rfl, ?_, fun j hj _ => ?_⟩
  · simp [Go.Sort.grow, World.drewN]
  · show ((w.drewN k).heap ++ os)[j]? = w.heap[j]?
    rw [Array.getElem?_append_left (by exact hj)]
    rfl
theorem dec_length (k : Nat) : ∀ q, q < 10 ^ (k + 1) → (Lib.decDigits q).length ≤ k + 1 := by
  induction k with
  | zero => intro q hq; rw [Lib.decDigits_one (by simpa using hq)]; simp
  | succ k ih =>
    intro q hq
    rw [Lib.decDigits]
    split
    · simp
    · have := ih (q / 10) (Nat.div_lt_of_lt_mul (by rw [Nat.pow_succ] at hq; omega))
      simp; omega
theorem itoa_ok (n : Int) (h0 : -9223372036854775808 ≤ n) (h1 : n ≤ 9223372036854775807) {W w : World} (hK : Kn W w) : Calls Tryd.prog 42 #[iv n] w fun e w' => e = .returned (.string (bs (Lib.itoa n))) ∧ Still w w' := by
  refine (Tryd.strconv_Itoa n h0 h1 w hK.look.pow).mono ?_
  rintro e w' ⟨rfl, k, os, rfl⟩
  exact ⟨rfl, grow_still w k os⟩
set_option maxRecDepth 100000 in
theorem text_nan (b : Nat) (hb : b < 18446744073709551616) (hn : nanB b = true) (w : World) : Calls Tryd.prog 43 #[.float .f64 b] w fun e w' => e = .returned (.string ⟨#[110, 97, 110]⟩) ∧ w' = w := by
  go_enter Tryd.func43, Tryd.ntmps43
  go_wp2_with (go_at_call 50; refine (isNaN_ok _ hb _).mono ?_; rintro e w' ⟨rfl, rfl⟩)
  go_ret
  exact ⟨rfl, rfl⟩
set_option maxRecDepth 100000 in
theorem text_inf (w : World) : Calls Tryd.prog 43 #[.float .f64 9218868437227405312] w fun e w' => e = .returned (.string ⟨#[105, 110, 102]⟩) ∧ w' = w := by
  have hn : nanB 9218868437227405312 = false := by decide
  have hi1 : infS 1 9218868437227405312 = true := by decide
  go_enter Tryd.func43, Tryd.ntmps43
  go_wp2_with (first | (go_at_call 50; refine (isNaN_ok _ (by decide) _).mono ?_; rintro e w' ⟨rfl, rfl⟩) | (go_at_call 51; refine (isInf_s _ (by decide) _ (by decide) _).mono ?_; rintro e w' ⟨rfl, rfl⟩))
  go_ret
  exact ⟨rfl, rfl⟩
set_option maxRecDepth 100000 in
theorem text_ninf (w : World) : Calls Tryd.prog 43 #[.float .f64 18442240474082181120] w fun e w' => e = .returned (.string ⟨#[45, 105, 110, 102]⟩) ∧ w' = w := by
  have hn : nanB 18442240474082181120 = false := by decide
  have hi1 : infS 1 18442240474082181120 = false := by decide
  have hi2 : infS (-1) 18442240474082181120 = true := by decide
  go_enter Tryd.func43, Tryd.ntmps43
  go_wp2_with (first | (go_at_call 50; refine (isNaN_ok _ (by decide) _).mono ?_; rintro e w' ⟨rfl, rfl⟩) | (go_at_call 51; refine (isInf_s _ (by decide) _ (by decide) _).mono ?_; rintro e w' ⟨rfl, rfl⟩))
  go_ret
  exact ⟨rfl, rfl⟩
end Go.Proofs.YticflknfkaoejaaDoor
