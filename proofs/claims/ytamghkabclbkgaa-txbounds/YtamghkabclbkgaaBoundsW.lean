/- TxBounds, walked. -/
import Derived.Test.YtamghkabclbkgaaBoundsC
namespace Go.Proofs.Ytamghkabclbkgaa
open Go.RowKit

set_option maxRecDepth 100000 in
set_option maxHeartbeats 4000000 in
theorem bounds_ok (n0 tw : Int) (w : World) : Calls Try.prog 8 #[.int .i64 n0, .int .i64 tw] w fun e w' => e = .returned (.bool true) ∧ Below w.heap.size w w' := by
  obtain ⟨W0, hW0⟩ : ∃ W0, (w.alloc (.cells #[.int .i64 n0] 3)).alloc (.cells #[.int .i64 tw] 3) = W0 := ⟨_, rfl⟩
  have z0 : W0.heap.size = w.heap.size + 2 := by rw [← hW0]; simp
  have f0 : Still w W0 := hW0 ▸ ((Fr.refl _ w).alloc _).alloc _
  have bn : Box W0 w.heap.size (.int .i64 n0) := hW0 ▸ (Box.new w (.int .i64 n0) 3).alloc _
  have bt : Box W0 (w.heap.size + 1) (.int .i64 tw) := by
    have := Box.new (w.alloc (.cells #[.int .i64 n0] 3)) (.int .i64 tw) 3
    rw [hW0] at this
    simpa using this
  have K : Calls Try.prog 9 #[.int .i64 20000] W0 _ := law_open 7600 2500 (by omega) (by omega) (by omega) W0
  have HK := hide K; have HBT := hide bt; have HBN := hide bn; have HF0 := hide f0; have HZ0 := hide z0
  have h1 := eq_nil_stor
  have h2 := mf
  clear K bt bn f0 z0
  go_enter Try.func8, Try.ntmps8
  go_wp2_with fail
  refine (unhide HK).mono ?_
  clear HK
  rintro e w1 ⟨b, sb, T, A, rfl, o⟩
  obtain ⟨N, f, hN, c, k⟩ := o.calm
  have z0 := unhide HZ0
  have sz1 := o.fr.size
  obtain ⟨W1, hW1⟩ : ∃ W1, w1.alloc (.cells #[ptr sb] 24) = W1 := ⟨_, rfl⟩
  have zW1 : W1.heap.size = w1.heap.size + 1 := by rw [← hW1]; simp
  have fW1 : Still w1 W1 := hW1 ▸ (Fr.refl _ w1).alloc _
  have bn1 : Box W1 w.heap.size (.int .i64 n0) := ((unhide HBN).kept o.fr (fun x => x)).kept fW1 (fun x => x)
  have bt1 : Box W1 (w.heap.size + 1) (.int .i64 tw) := ((unhide HBT).kept o.fr (fun x => x)).kept fW1 (fun x => x)
  have bs1 : Box W1 w1.heap.size (ptr sb) := hW1 ▸ Box.new w1 (ptr sb) 24
  have hd0 : Hold W0 _ W1 sb b 7600 T A [] false := hW1 ▸ o.hold.more (.cells #[ptr sb] 24)
  have hd1 : Hold w (fun r => r = w1.heap.size ∨ r = w.heap.size ∨ r = w.heap.size + 1) W1 sb b 7600 T A [] false :=
    ⟨hd0.st, (unhide HF0).trans hd0.fr, fun k hk => by have := hd0.new k hk; omega, fun k hk ht => by
      rcases hk with hk | hk
      · exact hd0.ap k (.inr hk) ht
      · have := hd0.new k ht; omega, fun k hk => by omega⟩
  have q1 := bn1.c; have q2 := bn1.z; have q3 := bs1.c
  have SZ := t_size hd1.st.c2
  have hr1 := Int.tmod_lt_of_pos n0 (show (0 : Int) < 6300 by omega)
  have hr2 : -6300 < n0.tmod 6300 := by
    have := Int.lt_tmod_of_pos n0 (show (0 : Int) < 6300 by omega)
    omega
  have HSZ := hide SZ; have HH1 := hide hd1; have HN1 := hide bn1; have HT1 := hide bt1; have HS1 := hide bs1; have HC := hide c; have HKL := hide k
  clear SZ hd0 hd1 bn1 bt1 bs1 c k o HBT HBN fW1
  go_wp2_with (first | (go_at_call 19; refine (unhide HSZ).mono ?_; rintro e w' ⟨rfl, hh⟩; replace hh := hh.symm; subst hh) | fail)
  obtain ⟨m, hm, hm2⟩ : ∃ m : Nat, n0.tmod 6300 % 6300 = (m : Int) ∧ m ≤ 6299 := ⟨(n0.tmod 6300 % 6300).toNat, by omega, by omega⟩
  rw [hm]
  clear hr1 hr2 HSZ q1 q2 q3
  obtain ⟨W, hW⟩ : ∃ W, W1.setCell ⟨w.heap.size, 0, none⟩ (.int .i64 (m : Int)) = W := ⟨_, rfl⟩
  have fa : Fr (fun r => r = w.heap.size) W1 W := hW ▸ (Fr.refl (fun r => r = w.heap.size) W1).setCell (.inl rfl) _
  have hd := (unhide HH1).var fa (fun k hk => .inr (.inl hk))
  have bs := (unhide HS1).kept fa (by omega)
  have bt := (unhide HT1).kept fa (by omega)
  have bn : Box W w.heap.size (.int .i64 m) := hW ▸ (unhide HN1).set _
  have D1 := t_do (R := fun h P' => (m ≤ 6144 ∧ h = .well ∧ P' = ramp m) ∨ (6144 < m ∧ h = .errno 5)) hd.st (unhide HC) (unhide HKL) (g := 37) (fi := #[]) (ca := #[ptr w.heap.size, ptr w1.heap.size, ptr (w.heap.size + 1)]) (fun w2 f2 => acts_of (fun _ _ => by kernel_rfl) ((bounds_c1 (bs := w1.heap.size) (nb := w.heap.size) (tb := w.heap.size + 1) (hd.st.still f2) (unhide HC).dead m hm2 (by omega) rfl tw (bs.kept f2 (fun x => x)) (bn.kept f2 (fun x => x)) (bt.kept f2 (fun x => x)) (hd.ap _ (.inl rfl)) (hd.ap _ (.inr (.inl rfl))) (hd.ap _ (.inr (.inr rfl)))).mono (by
    rintro e w3 (⟨h1, rfl, T', o⟩ | ⟨h1, rfl, T', P', o⟩)
    · exact ⟨.well, rfl, .inl rfl, T', _, o, .inl ⟨h1, rfl, rfl⟩⟩
    · exact ⟨.errno 5, How.ended_one _ _, .inr (.inl ⟨5, rfl⟩), T', P', o, .inr ⟨h1, rfl⟩⟩))) (by omega)
  have bc := bs.c
  have HD1 := hide D1; have HH := hide hd; have HBS := hide bs; have HBN := hide bn
  rw [hW]
  clear D1 hd bs bt bn fa HH1 HS1 HT1 HN1 hW hm
  refine (unhide HD1).mono ?_
  clear HD1
  have AW := awake_ok
  rintro e w3 (⟨P', r, rfl, T3, A3, o3, f3, c3, k3⟩ | ⟨_, _, _, _, _, _, hn, _⟩ | ⟨i, P', r, rfl, T3, o3⟩ | ⟨y, P', r, _⟩)
  · obtain ⟨hle, rfl⟩ : m ≤ 6144 ∧ P' = ramp m := by
      rcases r with ⟨h1, _, h2⟩ | ⟨_, e⟩
      · exact ⟨h1, h2⟩
      · injection e with e; cases e
    clear r
    have hd3 := (unhide HH).call o3
    have bs3 := (unhide HBS).kept o3.fr ((unhide HH).ap _ (.inl rfl))
    have bn3 := (unhide HBN).kept o3.fr ((unhide HH).ap _ (.inr (.inl rfl)))
    have bc3 := bs3.c; have nc3 := bn3.c
    have LD : ∀ i : Nat, i < m → Calls Try.prog 24 #[ptr sb, .int .i64 i] w3 fun e w' => e = .returned (u64 ((i : Int) + 1)) ∧ w' = w3 := fun i hi => by
      have := t_load hd3.st c3.dead i (by omega)
      rw [homed_nil, c3.now, k3.out _ (by omega), ramp_tells hi] at this
      exact this
    have TL := Told_fr (F := fun _ => False) 0 38 (fun _ _ => by kernel_rfl) #[] #[ptr w1.heap.size] w3 (fun h w' => h = .errno 1 ∧ Still w w') (fun _ x => x.elim) ((bounds_c2 (hd3.st.still (boxed_fr w3 0)) ((boxed_fr w3 0).cell' bs3.c (fun x => x))).mono (by
      rintro e w6 ⟨rfl, rfl⟩
      exact ⟨.errno 1, How.ended_one _ _, .inr (.inl ⟨1, rfl⟩), Fr.refl _ _, fun w2 f2 => ⟨rfl, (hd3.fr.trans (boxed_fr w3 0)).trans' f2 (fun k hk => .inr (by have := hd3.fr.size; omega))⟩⟩))
    have HLD := @hide _ LD; have HTL := hide TL
    clear LD TL hd3 bs3 bn3 o3 HH HBS HBN bc c3 k3 HC HKL
    go_wp2_with fail
    go_loopw [9, 10] (fun i v wr => ∃ q : Nat, q < m + 13 ∧ i = .int .i64 q ∧ wr = w3) (fun i v wr => m + 13 - (intOf i).toNat)
    case atStart => exact ⟨0, by omega, rfl, rfl⟩
    case round =>
      obtain ⟨q, hq, rfl, hwr⟩ := hrel
      subst hwr
      have wq : IntKind.u64.wrap ((q : Int) + 1) = (q : Int) + 1 := (wrap_small _ (by omega) (by omega)).2
      by_cases hlt : q < m
      · have K := unhide HLD q hlt
        have HK := hide K
        clear K
        go_wp2_with (go_at_call 24; refine (unhide HK).mono ?_; rintro e w' ⟨rfl, hh⟩; replace hh := hh.symm; subst hh)
        exact ⟨⟨q + 13, by omega, by go_num, trivial⟩, by simp [intOf]; omega⟩
      · clear HLD
        go_wp2_with (first | (go_at_call 25; refine (unhide HTL).mono ?_; rintro e w6 ⟨h, rfl, rfl, f6⟩; have HF6 := hide f6; clear f6; simp only [How.told]) | (go_at_call 17; refine (AW _).mono ?_; rintro e w7 ⟨rfl, f7⟩; have HF7 := hide f7; clear f7))
        go_ret
        exact ⟨rfl, ((unhide HF6).trans (unhide HF7)).below (Nat.le_refl _) (fun _ x => x.elim)⟩
  · exact absurd trivial hn
  · obtain ⟨hgt, rfl⟩ : 6144 < m ∧ i = 5 := by
      rcases r with ⟨_, e, _⟩ | ⟨h1, e⟩
      · injection e with e; cases e
      · injection e with e; injection e with e; injection e with _ e; injection e with _ e; exact ⟨h1, e⟩
    clear r
    have hd3 := (unhide HH).call o3
    have bs3 := (unhide HBS).kept o3.fr ((unhide HH).ap _ (.inl rfl))
    have bn3 := (unhide HBN).kept o3.fr ((unhide HH).ap _ (.inr (.inl rfl)))
    have bc3 := bs3.c; have nc3 := bn3.c
    have LD : ∀ i : Nat, i < m → Calls Try.prog 24 #[ptr sb, .int .i64 i] w3 fun e w' => e = .returned (u64 (0)) ∧ w' = w3 := fun i hi => by
      have := t_load hd3.st (unhide HC).dead i (by omega)
      rw [homed_nil, (unhide HC).now, (unhide HKL).out _ (by omega)] at this
      exact this
    have TL := Told_fr (F := fun _ => False) 0 38 (fun _ _ => by kernel_rfl) #[] #[ptr w1.heap.size] w3 (fun h w' => h = .errno 1 ∧ Still w w') (fun _ x => x.elim) ((bounds_c2 (hd3.st.still (boxed_fr w3 0)) ((boxed_fr w3 0).cell' bs3.c (fun x => x))).mono (by
      rintro e w6 ⟨rfl, rfl⟩
      exact ⟨.errno 1, How.ended_one _ _, .inr (.inl ⟨1, rfl⟩), Fr.refl _ _, fun w2 f2 => ⟨rfl, (hd3.fr.trans (boxed_fr w3 0)).trans' f2 (fun k hk => .inr (by have := hd3.fr.size; omega))⟩⟩))
    have HLD := @hide _ LD; have HTL := hide TL
    clear LD TL hd3 bs3 bn3 o3 HH HBS HBN bc HC HKL
    go_wp2_with fail
    go_loopw [9, 10] (fun i v wr => ∃ q : Nat, q < m + 13 ∧ i = .int .i64 q ∧ wr = w3) (fun i v wr => m + 13 - (intOf i).toNat)
    case atStart => exact ⟨0, by omega, rfl, rfl⟩
    case round =>
      obtain ⟨q, hq, rfl, hwr⟩ := hrel
      subst hwr
      have wq : IntKind.u64.wrap ((q : Int) + 1) = (q : Int) + 1 := (wrap_small _ (by omega) (by omega)).2
      by_cases hlt : q < m
      · have K := unhide HLD q hlt
        have HK := hide K
        clear K
        go_wp2_with (go_at_call 24; refine (unhide HK).mono ?_; rintro e w' ⟨rfl, hh⟩; replace hh := hh.symm; subst hh)
        exact ⟨⟨q + 13, by omega, by go_num, trivial⟩, by simp [intOf]; omega⟩
      · clear HLD
        go_wp2_with (first | (go_at_call 25; refine (unhide HTL).mono ?_; rintro e w6 ⟨h, rfl, rfl, f6⟩; have HF6 := hide f6; clear f6; simp only [How.told]) | (go_at_call 17; refine (AW _).mono ?_; rintro e w7 ⟨rfl, f7⟩; have HF7 := hide f7; clear f7))
        go_ret
        exact ⟨rfl, ((unhide HF6).trans (unhide HF7)).below (Nat.le_refl _) (fun _ x => x.elim)⟩
  · rcases r with ⟨_, e, _⟩ | ⟨h1, e⟩
    · injection e with e; cases e
    · have : 9 = 36 := by injection e with e; injection e with e; injection e
      exact absurd this (by decide)
end Go.Proofs.Ytamghkabclbkgaa
