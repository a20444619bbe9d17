/- TxRooms, walked. -/
import Derived.Test.YtamghkabclbkgaaRoomsC
import Derived.BigQuiet
namespace Go.Proofs.Ytamghkabclbkgaa
open Go.RowKit

theorem eq_nil_nil_s (w : World) : (binOp .eql 24 (.pointer none) (.pointer none)).run Try.prog w = .ok (.bool true) w := by kernel_rfl

theorem mask14 (z : Int) : bits .and .i64 z 16383 = (msk z 16383 : Int) := mask_i64 z 16383 (by omega)

set_option maxRecDepth 100000 in
set_option maxHeartbeats 4000000 in
/-- There is no device, or no room on it. -/
theorem rooms_none (n0 : Int) (m : Nat) (hm : bits .and .i64 n0 16383 = (m : Int)) (h1 : m ≤ 16383) (dv : Value) (w : World) (hd : dv = .pointer none ∨ (m * 4 ≤ 12400 ∧ ∃ b, dv = ptr b))
    (K : Calls Try.prog 9 #[.int .i64 ((m : Int) * 4)] w fun e w' => e = .returned (.tuple #[dv, .pointer none]) ∧ Still w w') :
    Calls Try.prog 4 #[.int .i64 n0] w fun e w' => e = .returned (.bool true) ∧ Below w.heap.size w w' := by
  have HK := hide K
  have e1 := eq_nil_dev; have e2 := eq_nil_nil; have e3 := eq_nil_nil_s
  have AW := awake_ok
  clear K
  rcases (show m * 4 ≤ 12400 ∨ 12400 < m * 4 by omega) with hlt | hgt
  · have RM : ∀ w, Calls Try.prog 18 #[.int .i64 ((m : Int) * 4)] w fun e w' => e = .returned (.int .i64 0) ∧ w' = w := fun w => by
      rcases Nat.lt_or_ge (m * 4) 12400 with h1 | h1
      · exact room_no _ (by omega) w
      · have := room_ok ((m : Int) * 4) (by omega) (by omega) w
        rw [show (((m : Int) * 4 - 12400) / 8 * 8) = 0 by omega] at this
        exact this
    have HR := @hide _ RM
    have hg : ¬ (12400 : Int) < (m : Int) * 4 := by omega
    clear RM
    rcases hd with rfl | ⟨_, b, rfl⟩
    all_goals
      go_enter Try.func4, Try.ntmps4
      go_wp2_with fail
      refine (unhide HK).mono ?_
      clear HK
      rintro e w1 ⟨rfl, f1⟩
      have HF1 := hide f1
      clear f1
      go_wp2_with (first | (go_at_call 18; refine (unhide HR _).mono ?_; rintro e w' ⟨rfl, hh⟩; replace hh := hh.symm; subst hh) | (go_at_call 17; refine (AW _).mono ?_; rintro e w7 ⟨rfl, f7⟩; have HF7 := hide f7; clear f7))
      go_ret
      exact ⟨rfl, ((((unhide HF1).alloc _).alloc _).trans (unhide HF7)).below (Nat.le_refl _) (fun _ x => x.elim)⟩
  · have RM : ∀ w, Calls Try.prog 18 #[.int .i64 ((m : Int) * 4)] w fun e w' => e = .returned (.int .i64 (((m : Int) * 4 - 12400) / 8 * 8)) ∧ w' = w := fun w => room_ok _ (by omega) (by omega) w
    have HR := @hide _ RM
    have hg : (12400 : Int) < (m : Int) * 4 := by omega
    clear RM
    rcases hd with rfl | ⟨h, _⟩
    · go_enter Try.func4, Try.ntmps4
      go_wp2_with fail
      refine (unhide HK).mono ?_
      clear HK
      rintro e w1 ⟨rfl, f1⟩
      have HF1 := hide f1
      clear f1
      go_wp2_with (first | (go_at_call 18; refine (unhide HR _).mono ?_; rintro e w' ⟨rfl, hh⟩; replace hh := hh.symm; subst hh) | (go_at_call 17; refine (AW _).mono ?_; rintro e w7 ⟨rfl, f7⟩; have HF7 := hide f7; clear f7))
      go_ret
      exact ⟨rfl, ((((unhide HF1).alloc _).alloc _).trans (unhide HF7)).below (Nat.le_refl _) (fun _ x => x.elim)⟩
    · omega

set_option maxRecDepth 100000 in
set_option maxHeartbeats 4000000 in
/-- There is room. -/
theorem rooms_full (n0 : Int) (m N n : Nat) (hm : bits .and .i64 n0 16383 = (m : Int)) (h1 : m ≤ 16383) (hN : m * 4 = N * 8) (hn : N * 8 = 12400 + n) (hn0 : 0 < n) (w : World) :
    Calls Try.prog 4 #[.int .i64 n0] w fun e w' => e = .returned (.bool true) ∧ Below w.heap.size w w' := by
  have K := law_open n N hn hn0 (by omega) w
  rw [show (N : Int) * 8 = (m : Int) * 4 by omega] at K
  have RM : ∀ w, Calls Try.prog 18 #[.int .i64 ((m : Int) * 4)] w fun e w' => e = .returned (.int .i64 n) ∧ w' = w := fun w => by
    have := room_ok ((m : Int) * 4) (by omega) (by omega) w
    rw [show (((m : Int) * 4 - 12400) / 8 * 8) = n by omega] at this
    exact this
  have wn : ((m : Int) * 4 - 12400) / 8 * 8 = n := by omega
  have HK := hide K; have HR := @hide _ RM
  have e1 := eq_nil_dev; have e2 := eq_nil_stor; have e3 := mf
  have AW := awake_ok
  have hg : (12400 : Int) < (m : Int) * 4 := by omega
  clear K RM
  go_enter Try.func4, Try.ntmps4
  go_wp2_with fail
  refine (unhide HK).mono ?_
  clear HK
  rintro e w1 ⟨b, sb, T, A, rfl, o⟩
  obtain ⟨N', f, hN', c, k⟩ := o.calm
  obtain ⟨W, hW⟩ : ∃ W, (w1.alloc (.cells #[ptr sb] 24)).alloc (.cells #[.int .i64 n] 3) = W := ⟨_, rfl⟩
  have z1 : (w1.alloc (.cells #[ptr sb] 24)).heap.size = w1.heap.size + 1 := by simp
  have hd : Hold w (fun r => r = w1.heap.size ∨ r = w1.heap.size + 1) W sb b n T A [] false := hW ▸ ((o.hold.more _).more _).sub (fun k hk => by
    rcases hk with hk | hk
    · exact .inl (.inr hk)
    · exact .inr (by rw [z1]; exact hk))
  have bs : Box W w1.heap.size (ptr sb) := hW ▸ (Box.new w1 (ptr sb) 24).alloc _
  have bn : Box W (w1.heap.size + 1) (.int .i64 n) := by
    have := Box.new (w1.alloc (.cells #[ptr sb] 24)) (.int .i64 n) 3
    rw [hW, z1] at this
    exact this
  have SZ : ∀ q, Calls Try.prog 19 #[ptr sb] (W.drewN q) fun e w' => e = .returned (.int .i64 n) ∧ w' = W.drewN q := fun q => t_size (hd.st.still ((Fr.refl _ W).drewN q)).c2
  have bsc := bs.c; have bnc := bn.c
  have HSZ := @hide _ SZ; have HH := hide hd; have HBS := hide bs; have HBN := hide bn; have HC := hide c; have HKL := hide k
  clear SZ hd bs bn c k o z1
  have hne : ((n : Int) == 0) = false := by simp; omega
  go_wp2_with (first | (go_at_call 18; refine (unhide HR _).mono ?_; rintro e w' ⟨rfl, hh⟩; replace hh := hh.symm; subst hh) | fail)
  go_quiet (first | (go_at_call 19; exact Calls.quiet_of_same (unhide HSZ _)))
  obtain ⟨V, hV⟩ : ∃ V, W.drewN nq = V := ⟨_, rfl⟩
  have fV : Still W V := hV ▸ (Fr.refl _ W).drewN nq
  rw [hV]
  have hd := (unhide HH).still fV
  have bs := (unhide HBS).kept fV (fun x => x)
  have bn := (unhide HBN).kept fV (fun x => x)
  have bc := bs.c
  have D1 := do_well (Q := fun P' => P' = put [] (12400 + ((n - 1 : Nat) : Int)) 9) hd.st (unhide HC) (unhide HKL) (g := 21) (fi := #[]) (ca := #[ptr w1.heap.size, ptr (w1.heap.size + 1)]) (fun w2 f2 => acts_of (fun _ _ => by kernel_rfl) ((rooms_c1 (hd.st.still f2) (unhide HC).dead hn0 (by simp) (f2.cell' bs.c (fun x => x)) (f2.cell' bn.c (fun x => x))).mono (by
    rintro e w3 ⟨rfl, T', o⟩
    exact ⟨.well, rfl, .inl rfl, T', _, o, rfl, rfl⟩))) (by omega)
  have HD1 := hide D1; have HH1 := hide hd; have HBS1 := hide bs; have HBN1 := hide bn
  clear D1 hd bs bn hV fV HH HBS HBN HSZ bsc bnc
  go_wp2_with fail
  refine (unhide HD1).mono ?_
  clear HD1
  rintro e w3 ⟨rfl, P', T3, A3, f3, rfl, o3, c3, k3⟩
  have hd := (unhide HH1).call o3
  have bs := (unhide HBS1).kept o3.fr ((unhide HH1).ap _ (.inl rfl))
  have bn := (unhide HBN1).kept o3.fr ((unhide HH1).ap _ (.inr rfl))
  have bc3 := bs.c
  have D2 := do_err (i := 1) hd.st c3 k3 (g := 22) (fi := #[]) (ca := #[ptr w1.heap.size, ptr (w1.heap.size + 1)]) (fun w2 f2 => acts_of (fun _ _ => by kernel_rfl) ((rooms_c2 (hd.st.still f2) (f2.cell' bs.c (fun x => x)) (f2.cell' bn.c (fun x => x))).mono (by
    rintro e w5 ⟨rfl, hh⟩
    replace hh := hh.symm
    subst hh
    exact ⟨.errno 1, How.ended_one _ _, .inr (.inl ⟨1, rfl⟩), T3, _, Onx.start (hd.st.still f2), rfl⟩))) (by omega)
  have HD2 := hide D2; have HH3 := hide hd; have HBS3 := hide bs; have HBN3 := hide bn; have HC3 := hide c3; have HK3 := hide k3
  clear D2 hd bs bn o3 c3 k3 HH1 HBS1 HBN1 bc HC HKL
  go_wp2_with fail
  refine (unhide HD2).mono ?_
  clear HD2
  rintro e w4 ⟨rfl, T4, o4⟩
  have hd := (unhide HH3).call o4
  have bs := (unhide HBS3).kept o4.fr ((unhide HH3).ap _ (.inl rfl))
  have bn := (unhide HBN3).kept o4.fr ((unhide HH3).ap _ (.inr rfl))
  have bc4 := bs.c
  have D3 := do_err (i := 1) hd.st (unhide HC3) (unhide HK3) (g := 23) (fi := #[]) (ca := #[ptr w1.heap.size]) (fun w2 f2 => acts_of (fun _ _ => by kernel_rfl) ((rooms_c3 (hd.st.still f2) (f2.cell' bs.c (fun x => x))).mono (by
    rintro e w5 ⟨rfl, hh⟩
    replace hh := hh.symm
    subst hh
    exact ⟨.errno 1, How.ended_one _ _, .inr (.inl ⟨1, rfl⟩), T4, _, Onx.start (hd.st.still f2), rfl⟩))) (by omega)
  have HD3 := hide D3; have HH4 := hide hd; have HBS4 := hide bs; have HBN4 := hide bn
  clear D3 hd bs bn o4 HH3 HBS3 HBN3 bc3
  go_wp2_with fail
  refine (unhide HD3).mono ?_
  clear HD3
  rintro e w5 ⟨rfl, T5, o5⟩
  have hd := (unhide HH4).call o5
  have bs := (unhide HBS4).kept o5.fr ((unhide HH4).ap _ (.inl rfl))
  have bn := (unhide HBN4).kept o5.fr ((unhide HH4).ap _ (.inr rfl))
  have bc5 := bs.c; have nc5 := bn.c
  have LD := t_load hd.st (unhide HC3).dead (n - 1) (by omega)
  have val : A3.now (12400 + (n - 1)) = 9 := by
    rw [(unhide HC3).now, (unhide HK3).out _ (by omega)]
    have := (homed_put once_nil (12400 + (n - 1)) 9 (fun _ => 0)).1
    rw [show ((12400 : Int) + ((n - 1 : Nat) : Int)) = ((12400 + (n - 1) : Nat) : Int) by omega, this, upd_same]
  rw [homed_nil, val, show ((n - 1 : Nat) : Int) = (n : Int) - 1 by omega] at LD
  have TL := Told_fr (F := fun _ => False) 0 26 (fun _ _ => by kernel_rfl) #[] #[ptr w1.heap.size, ptr (w1.heap.size + 1)] w5 (fun h w' => h = .errno 1 ∧ Still w w') (fun _ x => x.elim) ((rooms_c4 (hd.st.still (boxed_fr w5 0)) ((boxed_fr w5 0).cell' bs.c (fun x => x)) ((boxed_fr w5 0).cell' bn.c (fun x => x))).mono (by
    rintro e w6 ⟨rfl, rfl⟩
    exact ⟨.errno 1, How.ended_one _ _, .inr (.inl ⟨1, rfl⟩), Fr.refl _ _, fun w2 f2 => ⟨rfl, (hd.fr.trans (boxed_fr w5 0)).trans' f2 (fun k hk => .inr (by have := hd.fr.size; omega))⟩⟩))
  have HLD := hide LD; have HTL := hide TL
  clear LD TL hd bs bn o5 HH4 HBS4 HBN4 bc4 val HC3 HK3
  go_wp2_with (first | (go_at_call 24; refine (unhide HLD).mono ?_; rintro e w' ⟨rfl, hh⟩; replace hh := hh.symm; subst hh) | (go_at_call 25; refine (unhide HTL).mono ?_; rintro e w6 ⟨h, rfl, rfl, f6⟩; have HF6 := hide f6; clear f6; simp only [How.told]) | (go_at_call 17; refine (AW _).mono ?_; rintro e w7 ⟨rfl, f7⟩; have HF7 := hide f7; clear f7))
  go_ret
  exact ⟨rfl, ((unhide HF6).trans (unhide HF7)).below (Nat.le_refl _) (fun _ x => x.elim)⟩

theorem rooms_ok (n0 : Int) (w : World) : Calls Try.prog 4 #[.int .i64 n0] w fun e w' => e = .returned (.bool true) ∧ Below w.heap.size w w' := by
  have hm := mask14 n0
  have hl := msk_le n0 16383
  generalize msk n0 16383 = m at *
  by_cases h8 : m * 4 < 8 ∨ m * 4 % 8 ≠ 0
  · refine rooms_none n0 m hm hl (.pointer none) w (.inl rfl) ((law_open_nil ((m : Int) * 4) (by omega) w).mono ?_)
    rintro e w' ⟨rfl, rfl⟩
    exact ⟨rfl, Fr.refl _ _⟩
  · obtain ⟨N, hN⟩ : ∃ N, m * 4 = N * 8 := ⟨m / 2, by omega⟩
    by_cases hr : m * 4 ≤ 12400
    · have K := law_open_none N (by omega) (by omega) w
      rw [show (N : Int) * 8 = (m : Int) * 4 by omega] at K
      exact rooms_none n0 m hm hl _ w (.inr ⟨hr, _, rfl⟩) K
    · exact rooms_full n0 m N (m * 4 - 12400) hm hl hN (by omega) (by omega) w
end Go.Proofs.Ytamghkabclbkgaa
