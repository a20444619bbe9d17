/- The law's own tells: does a device tell these words? -/
import Derived.Test.YtockkjkaopihjaaDon
import Derived.Test.YtockkjkaopihjaaTellD
namespace Go.Proofs.Ytockkjkaopihjaa
open Go.RowKit

/-- The words from 64 up to m agree. -/
def agree (h g : Nat → Int) (m : Nat) : Bool := decide (∀ j, j < m → 64 ≤ j → h j = g j)
theorem agree_succ (h g : Nat → Int) (m : Nat) (hm : 64 ≤ m) : agree h g (m + 1) = (agree h g m && (h m == g m)) := by
  unfold agree
  rw [Bool.eq_iff_iff]
  simp only [decide_eq_true_eq, Bool.and_eq_true, beq_iff_eq]
  constructor
  · exact fun H => ⟨fun j h1 h2 => H j (by omega) h2, H m (by omega) hm⟩
  · rintro ⟨H1, H2⟩ j h2 h1
    by_cases e : j = m
    · subst e; exact H2
    · exact H1 j (by omega) h1
theorem agree_0 (h g : Nat → Int) : agree h g 64 = true := by
  unfold agree
  simp only [decide_eq_true_eq]
  intro j h1 h2; omega

set_option maxRecDepth 100000 in
set_option maxHeartbeats 2000000 in
theorem clo_tells {W : World} {b : Nat} {L : Lay} {A : Ab} {free : Prop} {s : Int} {h g : Nat → Int} {ok db ab : Nat} (d : DevL W b L A) (c : Calm 32 free A s h) (bo : Box W ok (.bool true)) (bd : Box W db (ptr b)) (ba : ArrAt W ab g)
    (no : ¬ foot b L ok) (n1 : db ≠ ok) (n2 : ab ≠ ok) :
    Calls Try.prog 46 #[ptr ok, ptr db, ptr ab] W fun e w' => (∃ v, e = .returned v) ∧ Box w' ok (.bool (agree h g 256)) ∧ Fr (fun r => r = ok) W w' := by
  have HD := hide d; have HC := hide c; have HB := hide bo; have HBD := hide bd; have HBA := hide ba; have HNO := hide no
  clear d c bo bd ba no
  go_enter Try.func46, Try.ntmps46
  go_wp2_with fail
  go_loopw [3] (fun i wr => ∃ m : Nat, 64 ≤ m ∧ m ≤ 256 ∧ i = .int .i64 m ∧ Box wr ok (.bool (agree h g m)) ∧ Fr (fun r => r = ok) W wr) (fun i wr => 256 - (intOf i).toNat)
  case atStart =>
    exact ⟨64, by omega, by omega, rfl, by rw [agree_0]; exact unhide HB, Fr.refl _ _⟩
  case round =>
    obtain ⟨m, hm1, hm2, rfl, bx, hf⟩ := hrel
    by_cases hlt : m < 256
    · have d1 : DevL wr b L A := (unhide HD).kept hf (fun k hk e => unhide HNO (e ▸ hk))
      have b1 := ((unhide HBD).kept hf n1).c
      have a1 := ((unhide HBA).kept hf n2).cell m hlt
      have xo := bx.c; have xz := bx.z
      have LD : ∀ n, Calls Try.prog 14 #[ptr b, .int .i64 m] (wr.drewN n) _ := fun n => d_load (d1.keptF ((Fr.refl _ wr).drewN n)) (unhide HC) m (by omega)
      have S : ∀ n, Box ((wr.drewN n).setCell ⟨ok, 0, none⟩ (.bool (agree h g (m + 1)))) ok (.bool (agree h g (m + 1))) := fun n => (bx.kept ((Fr.refl (fun _ => False) wr).drewN n) (fun h => h)).set _
      have HLD := @hide _ LD; have HF := hide hf; have HS := @hide _ S
      clear LD S hf d1 bx
      cases hag : agree h g m
      · rw [hag] at xo
        have hn : agree h g (m + 1) = false := by rw [agree_succ _ _ _ hm1, hag]; rfl
        rw [hn] at HS
        go_wp2_with fail
        refine region_tailP 10 (by kernel_rfl) (by kernel_rfl) ?_
        simp only [List.take_succ_cons, List.take_zero, List.drop_succ_cons, List.drop_zero]
        repeat (go_big_quiet_step (first | (go_at_call 14; exact Calls.quiet_of_same (unhide HLD _))))
        refine wpQuiet_nil ?_
        rintro _ ⟨nq, rfl⟩
        go_wp2
        exact ⟨⟨m + 1, by omega, by omega, by go_num, by rw [hn]; exact unhide HS nq, ((unhide HF).drewN nq).setCell (.inl rfl) _⟩, by simp [intOf]; omega⟩
      · rw [hag] at xo
        have hn : agree h g (m + 1) = (h m == g m) := by rw [agree_succ _ _ _ hm1, hag]; rfl
        rw [hn] at HS
        go_wp2_with fail
        refine region_tailP 10 (by kernel_rfl) (by kernel_rfl) ?_
        simp only [List.take_succ_cons, List.take_zero, List.drop_succ_cons, List.drop_zero]
        repeat (go_big_quiet_step (first | (go_at_call 14; exact Calls.quiet_of_same (unhide HLD _))))
        refine wpQuiet_nil ?_
        rintro _ ⟨nq, rfl⟩
        go_wp2
        exact ⟨⟨m + 1, by omega, by omega, by go_num, by rw [hn]; exact unhide HS nq, ((unhide HF).drewN nq).setCell (.inl rfl) _⟩, by simp [intOf]; omega⟩
    · have : m = 256 := by omega
      subst this
      have HX := hide (And.intro bx hf)
      clear bx hf
      go_wp2
      go_end0
      exact ⟨⟨_, rfl⟩, unhide HX⟩

theorem boxed_how_z (w : World) (word : Int) : (boxed w word).cell? ⟨w.heap.size + 1, 0, none⟩ = some (.int .i64 0) ∧ (boxed w word).frozen? ⟨w.heap.size + 1, 0, none⟩ = false := by
  have h := boxed_how w word
  exact ⟨by unfold World.cell?; rw [h]; rfl, by unfold World.frozen?; rw [h]; rfl⟩

set_option maxRecDepth 100000 in
set_option maxHeartbeats 2000000 in
theorem tells_ok {w : World} {b : Nat} {L : Lay} {A : Ab} {free : Prop} {s : Int} {h : Nat → Int} (g : Nat → Int) (d : DevL w b L A) (c : Calm 32 free A s h) :
    Calls Try.prog 24 #[ptr b, .agg (arr 256 g)] w fun e w' => e = .returned (.bool (agree h g 256)) ∧ Fr (fun _ => False) w w' := by
  obtain ⟨W, hW⟩ : ∃ W, ((w.alloc (.cells #[ptr b] 23)).alloc (.cells (arr 256 g) 43)).alloc (.cells #[.bool true] 4) = W := ⟨_, rfl⟩
  have fW : Fr (fun _ => False) w W := hW ▸ (((Fr.refl _ w).alloc _).alloc _).alloc _
  have zW : W.heap.size = w.heap.size + 3 := by rw [← hW]; simp
  have bd : Box W w.heap.size (ptr b) := hW ▸ ((Box.new w (ptr b) 23).alloc _).alloc _
  have ba : ArrAt W (w.heap.size + 1) g := by
    have := ((ArrAt.new (w.alloc (.cells #[ptr b] 23)) g).kept ((Fr.refl (fun _ => False) _).alloc (.cells #[.bool true] 4)) (fun h => h))
    rw [hW] at this
    simpa using this
  have bo : Box W (w.heap.size + 2) (.bool true) := by
    have := Box.new ((w.alloc (.cells #[ptr b] 23)).alloc (.cells (arr 256 g) 43)) (.bool true) 4
    rw [hW] at this
    simpa using this
  have fb := boxed_fr W 0
  have dW := d.keptF fW
  have C := clo_tells (dW.keptF fb) c (bo.kept fb (fun h => h)) (bd.kept fb (fun h => h)) (ba.kept fb (fun h => h)) (fun hf => by have := d.lt _ hf; omega) (by omega) (by omega)
  have T := Told_both 0 46 (fun _ _ => by kernel_rfl) #[] #[ptr (w.heap.size + 2), ptr w.heap.size, ptr (w.heap.size + 1)] W (fun w1 => Box w1 (w.heap.size + 2) (.bool (agree h g 256)) ∧ Fr (fun r => r = w.heap.size + 2) (boxed W 0) w1) (fun _ => False) (C.mono (by
    rintro e w' ⟨⟨v, rfl⟩, x, f⟩
    obtain ⟨q1, q2⟩ := boxed_how_z W 0
    exact ⟨.inl ⟨⟨v, rfl⟩, x, f⟩, f.cell' q1 (by show ¬ W.heap.size + 1 = _; omega), (f.frozen (World.block_lt_of_cell? _ _ q1) (by show ¬ W.heap.size + 1 = _; omega)).trans q2⟩))
  have HT := hide T; have HW := hide hW; have HFW := hide fW; have HZ := hide zW
  clear T C dW fb bo ba bd zW fW hW d c
  have HA := alloc_arr
  go_enter Try.func24, Try.ntmps24
  go_wp2_with (first | (refine Great.wpList_boxTo rfl 43 _ rfl _ rfl _ rfl (arr 256 g) rfl ?_) | fail)
  clear HA
  rw [unhide HW]
  refine (unhide HT).mono ?_
  rintro e w2 (⟨rfl, w1, ⟨x, f⟩, hh⟩ | ⟨_, _, hh, _⟩)
  rotate_left
  · exact hh.elim
  have zW := unhide HZ
  have x2 : Box w2 (w.heap.size + 2) (.bool (agree h g 256)) := hh ▸ x.other (by show w.heap.size + 2 ≠ W.heap.size + 1; omega) _
  have f2 : Fr (fun _ => False) w w2 := by
    have h1 : Fr (fun _ => False) w w1 := ((unhide HFW).trans (boxed_fr W 0)).trans' f (fun r hr => .inr (by omega))
    exact hh ▸ h1.setCell (.inr (by show w.heap.size ≤ W.heap.size + 1; omega)) _
  have xc : w2.cell? ⟨w.heap.size + 1 + 1, 0, none⟩ = some (.bool (agree h g 256)) := x2.c
  have HF2 := hide f2
  clear x f hh x2 f2 HT zW
  cases hag : agree h g 256
  all_goals
    rw [hag] at xc
    go_wp2
    go_ret
    exact ⟨by rw [hag]; rfl, unhide HF2⟩
end Go.Proofs.Ytockkjkaopihjaa
