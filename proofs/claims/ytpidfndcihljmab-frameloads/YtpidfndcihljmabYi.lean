/- A Framer made since a law began; awake. -/
import Derived.Test.YtpidfndcihljmabYh
import Derived.Lib.SlBytesConst
namespace Go.Proofs.Ytpidfndcihljmab
open Go.RowKit

/-- A Framer made since W; of what was at W nothing has turned. -/
structure Fs (W w : World) (f : Nat) (g : Option Nat) (l : List UInt8) (lv : Bool) (sk N : Nat) : Prop where
  fm : Fm w f g l lv sk N
  st : Still W w
  fge : W.heap.size ≤ f
  gge : ∀ k, g = some k → W.heap.size ≤ k
theorem Fs.new {W w w' : World} (h : Still W w) (k : Still w w') (m : Fm w' w.heap.size none [] false 0 0) : Fs W w' w.heap.size none [] false 0 0 := ⟨m, h.trans k, h.size, fun _ e => by cases e⟩
theorem Fs.step {W w w' : World} {f : Nat} {g g' : Option Nat} {l l' : List UInt8} {lv lv' : Bool} {sk N sk' N' : Nat} (h : Fs W w f g l lv sk N) (x : Fx w w' f g l' lv' sk' N' g') : Fs W w' f g' l' lv' sk' N' :=
  ⟨x.fm, h.st.trans' x.fr (fun k hk => by
    rcases hk with e | e
    · exact .inr (e ▸ h.fge)
    · exact .inr (h.gge k e)), h.fge, fun k hk => by
    rcases x.ng k hk with e | e
    · exact h.gge k e
    · have := h.st.size; omega⟩
theorem Fs.still {W w w' : World} {f : Nat} {g : Option Nat} {l : List UInt8} {lv : Bool} {sk N : Nat} (h : Fs W w f g l lv sk N) (k : Still w w') : Fs W w' f g l lv sk N := ⟨h.fm.still k, h.st.trans k, h.fge, h.gge⟩
theorem Fs.drewN {W w : World} {f : Nat} {g : Option Nat} {l : List UInt8} {lv : Bool} {sk N : Nat} (h : Fs W w f g l lv sk N) (q : Nat) : Fs W (w.drewN q) f g l lv sk N := ⟨h.fm.drewN q, h.st.drewN q, h.fge, h.gge⟩
/-- Bytes built in a new row. -/
theorem sl_built (w : World) (l : List UInt8) (n : Nat) (hn : n = l.length) (z : Nat × Nat) : Sl (w.alloc (.cells (l.map bv).toArray 5 z)) (some ⟨w.heap.size, 0, none⟩) n n l :=
  ⟨hn, Nat.le_refl _, fun i hi => ⟨_, _, rfl, by rw [cell_of_obj (heap_alloc_new w _)]; simp [hi]⟩, (fun e => by cases e), fun x e _ => by cases e; exact ⟨_, _, rfl⟩⟩
theorem fresh_ne {f n o' len : Nat} (h : f < n) : ∀ x, (some ⟨n, o', none⟩ : Option Addr) = some x → 0 < len → x.block ≠ f := fun x e _ => by cases e; show n ≠ f; omega
theorem no_lv {p : Prop} (h : false = true) : p := by cases h
theorem still_alloc (w : World) (o : Obj) : Still w (w.alloc o) := (Fr.refl _ w).alloc o

set_option maxRecDepth 100000 in
set_option maxHeartbeats 2000000 in
theorem awake_ok (W : World) : Calls Try.prog 5 #[] W fun e w' => e = .returned (.bool true) ∧ Still W w' := by
  go_enter Try.func5, Try.ntmps5
  go_wp2_with fail
  refine (new_ok W).mono ?_
  rintro e w1 ⟨rfl, m1, s1⟩
  have F1 := Fs.new (Fr.refl _ W) s1 m1
  have HF1 := hide F1
  clear m1 s1 F1
  have cv : (convert 25 25 (.slice (some ⟨w1.heap.size, 0, none⟩) 3 3)).run Try.prog (w1.alloc (.cells #[.int .u8 97, .int .u8 10, .int .u8 98] 5)) = .ok (.slice (some ⟨w1.heap.size, 0, none⟩) 3 3) (w1.alloc (.cells #[.int .u8 97, .int .u8 10, .int .u8 98] 5 (3, 4))) := Lib.run_convert_bytes_const w1 25 5 #[.int .u8 97, .int .u8 10, .int .u8 98] 3 3 Try.underlying25 Try.underlying5
  go_wp2_with fail
  clear cv
  have F2 := (unhide HF1).still (still_alloc w1 (.cells #[.int .u8 97, .int .u8 10, .int .u8 98] 5 (3, 4)))
  have S2 : Sl (w1.alloc (.cells #[.int .u8 97, .int .u8 10, .int .u8 98] 5 (3, 4))) (some ⟨w1.heap.size, 0, none⟩) 3 3 [97, 10, 98] := sl_built w1 [97, 10, 98] 3 rfl (3, 4)
  have KF := feed_ok F2.fm _ 3 3 _ S2 (by omega) (by omega) (fresh_ne (unhide HF1).fm.lt.1) no_lv
  refine KF.mono ?_
  rintro e w3 ⟨rfl, g3, x3⟩
  have F3 := F2.step x3
  have HF3 := hide F3
  clear KF S2 F2 HF1 x3 F3
  go_wp2_with fail
  refine (line_ok (unhide HF3).fm (by omega)).mono ?_
  rintro e w4 ⟨rfl, g4, x4⟩
  have HF4 := hide ((unhide HF3).step x4)
  clear HF3 x4
  have F4 := unhide HF4
  rw [show lineR (feedR [] false 0 [97, 10, 98]).1 (feedR [] false 0 [97, 10, 98]).2.1 = (([97], true, 0), [98], false) by decide +kernel] at F4 ⊢
  have HF4 := hide F4
  clear F4
  go_wp2_with fail
  refine (line_ok (unhide HF4).fm (by omega)).mono ?_
  rintro e w5 ⟨rfl, g5, x5⟩
  have F5 := (unhide HF4).step x5
  rw [show lineR [98] false = (([], false, 0), [98], false) by decide +kernel] at F5 ⊢
  have HF5 := hide F5
  clear HF4 x5 F5
  have hb : ((bs [97]).toList == [97]) = true := by rw [bs_list]; rfl
  go_wp2_with fail
  refine (waiting_ok (unhide HF5).fm (by omega)).mono ?_
  rintro e w6 ⟨rfl, q, rfl⟩
  go_wp2_with fail
  go_ret
  exact ⟨rfl, ((unhide HF5).drewN q).st⟩
end Go.Proofs.Ytpidfndcihljmab
