/- tx.Open, whole. -/
import Derived.Test.YtdgobaknbjlahaaGreatDoorTxB
namespace Go.Proofs.YtdgobaknbjlahaaGreatDoor
open Go.RowKit

section
variable {w w' : World} {b sb : Nat} {L : Lay} {N n : Nat} {free : Prop} {A : Ab} {s : Int} {h base : Nat → Int} {xs : List (Int × Int)}

set_option maxHeartbeats 2000000 in
theorem tx_open (d : DevL w b L A) (c : Calm N free A s h) (st : Stand N base xs h) (hxs : xs.length ≤ 6144) (hn : N * 8 = 12400 + n) (hn0 : 0 < n) (hs : s + 12292 < 4294967296) :
    Calls Tryz.prog 45 #[ptr b] w fun e w' =>
      (∃ sb, e = .returned (.tuple #[ptr sb, .int .i64 0]) ∧ w.heap.size ≤ sb ∧ Ope w b L n N free s base xs sb w') ∨
      (e = .returned (.tuple #[.pointer none, .int .i64 50]) ∧ DM w b L w' fun A' => ¬ free ∧ LogTorn N 0 12304 base xs (s + 12292) A') := by
  have n8 := d.n8
  have wd := words_any b L.bn A.n w d.n8 d.c0
  have hAn := c.n
  obtain ⟨W, hW⟩ : ∃ W, w.alloc (.cells #[ptr b] 23) = W := ⟨_, rfl⟩
  have fW : Still w W := hW ▸ (Fr.refl _ w).alloc _
  have WD : ∀ w1, Still w w1 → Calls Tryz.prog 80 #[ptr b] w1 fun e w' => e = .returned (.int .i64 (12400 + n)) ∧ w' = w1 := fun w1 f1 => by
    have := words_any b L.bn A.n w1 d.n8 (d.keptF f1).c0
    rw [hAn, show (N : Int) * 8 = 12400 + n by omega] at this
    exact this
  have RM : ∀ w1, Calls Tryz.prog 79 #[.int .i64 (12400 + n)] w1 fun e w' => e = .returned (.int .i64 n) ∧ w' = w1 := fun w1 => by
    have := room_ok (12400 + n) (by omega) (by omega) w1
    rw [show ((12400 : Int) + n - 12400) / 8 * 8 = n by omega] at this
    exact this
  have WD1 := WD W fW
  have hne : ((n : Int) == 0) = false := by simp; omega
  have enil : ∀ w : World, (binOp .eql 23 (ptr b) (.pointer none)).run Tryz.prog w = .ok (.bool false) w := fun w => by kernel_rfl
  have HW := hide hW; have HFW := hide fW; have H1 := hide WD1; have H2 := @hide _ WD; have HD := hide d; have HC := hide c; have HST := hide st
  clear wd WD fW d c st WD1
  have bc : W.cell? ⟨w.heap.size, 0, none⟩ = some (ptr b) := hW ▸ (Box.new w (ptr b) 23).c
  go_enter Tryz.func45, Tryz.ntmps45
  go_wp2_with (first | (go_at_call 80; refine (unhide H1).mono ?_; rintro e w1 ⟨rfl, hh⟩; replace hh := hh.symm; subst hh) | (go_at_call 79; refine (RM _).mono ?_; rintro e w1 ⟨rfl, hh⟩; replace hh := hh.symm; subst hh) | fail)
  go_cut [4] from 15 to 20 (fun s4 wx => ∃ bs sb, s4 = ptr bs ∧ Raw w wx w.heap.size bs sb b n)
  case first =>
    have bca : ∀ o, (W.alloc o).cell? ⟨w.heap.size, 0, none⟩ = some (ptr b) := fun o => ((Fr.refl (fun _ => False) W).alloc o).cell' bc (fun x => x)
    have ltW : w.heap.size < W.heap.size := World.block_lt_of_cell? _ _ bc
    go_region_with (first | (go_at_call 80; refine (unhide H2 _ (by first | exact (unhide HFW).drew | exact ((unhide HFW).drew).alloc _ | exact ((unhide HFW).alloc _).drew)).mono ?_; rintro e w1 ⟨rfl, hh⟩; replace hh := hh.symm; subst hh) | (go_at_call 79; refine (RM _).mono ?_; rintro e w1 ⟨rfl, hh⟩; replace hh := hh.symm; subst hh))
    all_goals
      go_wp2_with fail
      go_meet
      first
        | exact ⟨_, _, rfl, raw_a (unhide HFW) bc n⟩
        | exact ⟨_, _, rfl, raw_b (unhide HFW) bc n⟩
  case rest =>
  obtain ⟨bs, sb, rfl, r⟩ := hcut
  have ob := r.obj
  have FG := forget_raw (.slice none 0 0) (.map none) (cell_of_obj ob 3) (cell_of_obj ob 4) (fun o => frozen_of_obj ob o)
  have m := r.made
  have cs := r.cs
  have nsb := r.nn
  have ON := fun W0 f0 => open_made m (unhide HD) (unhide HC) (unhide HST) hxs hn hs W0 f0
  have hmf := mf
  have HON := @hide _ ON; have HFG := hide FG; have HM := hide m
  clear ON FG r ob m bc
  go_wp2_with fail
  refine (unhide HFG).mono ?_
  clear HFG
  rintro e w2 ⟨rfl, hh⟩
  rw [← hh] at HON HM
  clear hh cs
  have OL := onlyL_two (w := w2) (unhide HON)
  have HOL := hide OL
  clear OL HON
  go_wp2_with fail
  refine (unhide HOL).mono ?_
  clear HOL
  rintro e w3 ⟨w1, f13, ⟨rfl, op, cb⟩ | ⟨rfl, D⟩⟩
  · have o3 := op.still (f13.alloc (.cells #[] 95))
    have c3 : (w3.alloc (.cells #[] 95)).cell? ⟨bs, 0, none⟩ = some (ptr sb) := (f13.alloc _).cell' cb (fun x => x)
    have HO := hide o3
    clear op cb o3 f13
    go_wp2
    go_ret2
    exact .inl ⟨sb, rfl, nsb, unhide HO⟩
  · have HD3 := hide (D.more (f13.alloc (.cells #[] 95)))
    clear D f13
    go_wp2
    go_ret2
    exact .inr ⟨rfl, unhide HD3⟩
end
end Go.Proofs.YtdgobaknbjlahaaGreatDoor
