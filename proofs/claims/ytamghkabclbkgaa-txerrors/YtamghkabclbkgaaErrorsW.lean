/- TxErrors, walked. -/
import Derived.Test.YtamghkabclbkgaaErrorsC
namespace Go.Proofs.Ytamghkabclbkgaa
open Go.RowKit

theorem arr_zero : arr 16 (fun _ => 0) = #[u64 0, u64 0, u64 0, u64 0, u64 0, u64 0, u64 0, u64 0, u64 0, u64 0, u64 0, u64 0, u64 0, u64 0, u64 0, u64 0] := by kernel_rfl
theorem mask15 (z : Int) : bits .and .i64 z 15 = (msk z 15 : Int) := mask_i64 z 15 (by omega)

set_option maxRecDepth 100000 in
set_option maxHeartbeats 4000000 in
theorem errors_ok (e0 n0 fu : Int) (w : World) :
    Calls Try.prog 5 #[.int .i64 e0, .int .i64 n0, .int .i64 fu] w fun e w' => e = .returned (.bool true) ∧ Below w.heap.size w w' := by
  obtain ⟨W0, hW0⟩ : ∃ W0, (w.alloc (.cells #[.int .i64 e0] 3)).alloc (.cells #[.int .i64 n0] 3) = W0 := ⟨_, rfl⟩
  have z0 : W0.heap.size = w.heap.size + 2 := by rw [← hW0]; simp
  have f0 : Still w W0 := hW0 ▸ ((Fr.refl _ w).alloc _).alloc _
  have be : Box W0 w.heap.size (.int .i64 e0) := hW0 ▸ (Box.new w (.int .i64 e0) 3).alloc _
  have bn : Box W0 (w.heap.size + 1) (.int .i64 n0) := by
    have := Box.new (w.alloc (.cells #[.int .i64 e0] 3)) (.int .i64 n0) 3
    rw [hW0] at this
    simpa using this
  have K : Calls Try.prog 9 #[.int .i64 13008] W0 _ := law_open 608 1626 (by omega) (by omega) (by omega) W0
  have HK := hide K; have HBE := hide be; have HBN := hide bn; have HF0 := hide f0; have HZ0 := hide z0
  have h1 := eq_nil_stor
  have h2 := mf
  have m15 := mask15 n0
  have l15 := msk_le n0 15
  have m63 := mask63 fu
  have l63 := msk_le fu 63
  generalize msk n0 15 = m at *
  generalize msk fu 63 = fz at *
  clear K be bn f0 z0
  go_enter Try.func5, Try.ntmps5
  go_wp2_with fail
  refine (unhide HK).mono ?_
  clear HK
  rintro e w1 ⟨b, sb, T, A, rfl, o⟩
  obtain ⟨N, f, hN, c, k⟩ := o.calm
  have z0 := unhide HZ0
  obtain ⟨W, hW⟩ : ∃ W, (w1.alloc (.cells #[ptr sb] 24)).setCell ⟨w.heap.size + 1, 0, none⟩ (.int .i64 m) = W := ⟨_, rfl⟩
  have sz1 := o.fr.size
  have bn1 : Box (w1.alloc (.cells #[ptr sb] 24)) (w.heap.size + 1) (.int .i64 n0) := ((unhide HBN).kept o.fr (fun x => x)).alloc _
  have q1 := bn1.c; have q2 := bn1.z
  have fa : Fr (fun r => r = w.heap.size + 1) (w1.alloc (.cells #[ptr sb] 24)) W := hW ▸ (Fr.refl (fun r => r = w.heap.size + 1) _).setCell (.inl rfl) _
  have hd0 := o.hold.more (.cells #[ptr sb] 24)
  have hd1 : Hold w (fun r => r = w1.heap.size ∨ r = w.heap.size ∨ r = w.heap.size + 1) (w1.alloc (.cells #[ptr sb] 24)) sb b 608 T A [] false :=
    ⟨hd0.st, (unhide HF0).trans hd0.fr, fun k hk => by have := hd0.new k hk; omega, fun k hk ht => by
      rcases hk with hk | hk
      · exact hd0.ap k (.inr hk) ht
      · have := hd0.new k ht; omega, fun k hk => by
      have : (w1.alloc (.cells #[ptr sb] 24)).heap.size = w1.heap.size + 1 := by simp
      omega⟩
  have hd : Hold w (fun r => r = w1.heap.size ∨ r = w.heap.size ∨ r = w.heap.size + 1) W sb b 608 T A [] false := hd1.var fa (fun k hk => .inr (.inr hk))
  have bs : Box W w1.heap.size (ptr sb) := (Box.new w1 (ptr sb) 24).kept fa (by omega)
  have be : Box W w.heap.size (.int .i64 e0) := (((unhide HBE).kept o.fr (fun x => x)).alloc _).kept fa (by omega)
  have bn : Box W (w.heap.size + 1) (.int .i64 m) := hW ▸ bn1.set _
  have D1 := do_err (i := e0) hd.st c k (g := 27) (fi := #[]) (ca := #[ptr (w.heap.size + 1), ptr w1.heap.size, ptr w.heap.size]) (fun w2 f2 => acts_of (fun _ _ => by kernel_rfl) ((errors_c1 (bs := w1.heap.size) (nb := w.heap.size + 1) (eb := w.heap.size) (hd.st.still f2) c.dead m l15 (by omega) rfl e0 (bs.kept f2 (fun x => x)) (bn.kept f2 (fun x => x)) (be.kept f2 (fun x => x)) (hd.ap _ (.inl rfl)) (hd.ap _ (.inr (.inr rfl))) (hd.ap _ (.inr (.inl rfl)))).mono (by
    rintro e w3 ⟨rfl, T', P', o⟩
    exact ⟨.errno e0, How.ended_one _ _, .inr (.inl ⟨e0, rfl⟩), T', _, o, rfl⟩))) (by omega)
  have bc := bs.c
  have HD1 := hide D1; have HH := hide hd; have HBS := hide bs; have HB2 := hide be; have HC := hide c; have HKL := hide k
  clear D1 hd hd0 hd1 o bs be bn bn1 fa c k HBE HBN
  go_wp2_with fail
  refine (unhide HD1).mono ?_
  clear HD1
  rintro e w3 ⟨rfl, T3, o3⟩
  have hd3 := (unhide HH).call o3
  have bs3 := (unhide HBS).kept o3.fr ((unhide HH).ap _ (.inl rfl))
  have be3 := (unhide HB2).kept o3.fr ((unhide HH).ap _ (.inr (.inl rfl)))
  have TL := tells_ok (fun _ => 0) hd3.st (unhide HC).dead (by omega)
  rw [show agree (says [] A) (fun _ => 0) 16 = true from by
    unfold agree says
    simp only [decide_eq_true_eq]
    intro j hj
    rw [homed_nil, (unhide HC).now, (unhide HKL).out _ (by omega)]] at TL
  rw [arr_zero] at TL
  have bc3 := bs3.c; have ec3 := be3.c
  have HTL := hide TL; have HH3 := hide hd3; have HBS3 := hide bs3
  clear TL hd3 bs3 be3 o3 HH HBS HB2 bc
  go_wp2_with fail
  refine (unhide HTL).mono ?_
  clear HTL
  rintro e w4 ⟨rfl, f4⟩
  have hd4 := (unhide HH3).still f4
  have bs4 := (unhide HBS3).kept f4 (fun x => x)
  have FU := t_fuse hd4.st (unhide HC) (fz : Int) (by omega)
  have HFU := hide FU; have HH4 := hide hd4; have HBS4 := hide bs4
  clear FU hd4 bs4 f4 HH3 HBS3 bc3 ec3
  go_wp2_with fail
  refine (unhide HFU).mono ?_
  clear HFU
  rintro e w5 ⟨rfl, T5, A5, o5, c5⟩
  have hd5 := (unhide HH4).call o5
  have bs5 := (unhide HBS4).kept o5.fr ((unhide HH4).ap _ (.inl rfl))
  have bc5 := bs5.c
  have D2 := t_do (R := fun h P' => h = .well ∧ P' = put [] 12401 5) hd5.st c5 (unhide HKL) (g := 29) (fi := #[]) (ca := #[ptr w1.heap.size]) (fun w2 f2 => acts_of (fun _ _ => by kernel_rfl) ((errors_c2 (hd5.st.still f2) c5.dead (by omega) (by simp) (f2.cell' bc5 (fun x => x))).mono (by
    rintro e w3 ⟨rfl, T', o⟩
    exact ⟨.well, rfl, .inl rfl, T', _, o, rfl, rfl⟩))) (by omega)
  have HD2 := hide D2; have HH5 := hide hd5; have HBS5 := hide bs5
  clear D2 hd5 bs5 o5 c5 HH4 HBS4
  go_wp2_with fail
  refine (unhide HD2).mono ?_
  clear HD2 HKL
  have AW := awake_ok
  rintro e w6 (⟨P', ⟨_, rfl⟩, rfl, T', A', o, f', c', k'⟩ | ⟨P', ⟨_, rfl⟩, rfl, T', A', o, _⟩ | ⟨i, P', ⟨x, _⟩, _⟩ | ⟨y, P', ⟨x, _⟩, _⟩)
  · have hd6 := (unhide HH5).call o
    have bs6 := (unhide HBS5).kept o.fr ((unhide HH5).ap _ (.inl rfl))
    have bc6 := bs6.c
    have LD : Calls Try.prog 24 #[ptr sb, .int .i64 1] w6 fun e w' => e = .returned (u64 (A'.now 12401)) ∧ w' = w6 := t_load hd6.st c'.dead 1 (by omega)
    have val : A'.now 12401 = 5 := by
      rw [c'.now, k'.out 12401 (by omega)]
      have := (homed_put once_nil 12401 5 (fun _ => 0)).1
      rw [show (12401 : Int) = ((12401 : Nat) : Int) from rfl, this, upd_same]
    rw [val] at LD
    have HLD := hide LD; have HF := hide hd6.fr
    clear LD hd6 bs6 o HH5 HBS5 bc5 HC val k' c'
    go_wp2_with (first | (go_at_call 24; refine (unhide HLD).mono ?_; rintro e w' ⟨rfl, hh⟩; replace hh := hh.symm; subst hh) | (go_at_call 17; refine (AW _).mono ?_; rintro e w7 ⟨rfl, f7⟩; have HF7 := hide f7; clear f7))
    go_ret
    exact ⟨rfl, ((unhide HF).trans (unhide HF7)).below (Nat.le_refl _) (fun _ x => x.elim)⟩
  · have hd6 := (unhide HH5).call o
    have bs6 := (unhide HBS5).kept o.fr ((unhide HH5).ap _ (.inl rfl))
    have hd7 := hd6.more (.cells #[.bool false] 4)
    have bs7 := bs6.alloc (.cells #[.bool false] 4)
    have bx7 := Box.new w6 (.bool false) 4
    have bc7 := bs7.c
    have xc7 := bx7.c
    have DD : ∀ fv, Calls Try.prog 20 #[ptr sb, fv] (w6.alloc (.cells #[.bool false] 4)) _ := fun fv => t_do_dead (fv := fv) hd7.st
    have HDD := @hide _ DD; have HF := hide hd7.fr
    clear DD hd6 hd7 bs6 bs7 bx7 o HH5 HBS5 bc5 HC
    go_wp2_with (first | (go_at_call 20; refine (unhide HDD _).mono ?_; rintro e w' ⟨rfl, hh⟩; replace hh := hh.symm; subst hh) | (go_at_call 17; refine (AW _).mono ?_; rintro e w7 ⟨rfl, f7⟩; have HF7 := hide f7; clear f7))
    go_ret
    exact ⟨rfl, ((unhide HF).trans (unhide HF7)).below (Nat.le_refl _) (fun _ x => x.elim)⟩
  · injection x with x; cases x
  · injection x with x; cases x
end Go.Proofs.Ytamghkabclbkgaa
