/- blank, begin, Open. -/
import Derived.Test.YtacfmmbdeajjbaaGreatDoorHo
import Derived.Test.YtacfmmbdeajjbaaGreatDoorDox
namespace Go.Proofs.YtacfmmbdeajjbaaGreatDoor
open Go.RowKit

section
variable {w w' : World} {hb sb b : Nat} {T : Tay} {A : Ab} {P : List (Int × Int)}

set_option maxRecDepth 20000 in
set_option maxHeartbeats 1000000 in
theorem h_blank (h : Hp w hb sb b T A P) (hz : ∀ i, i < 160 → says P A i = 0) : Calls Tryz.prog 58 #[ptr hb] w fun e w' => e = .returned (.bool true) ∧ w' = w := by
  have c0 := h.hp.c0; have c10 := h.hp.c10
  have LD : ∀ i : Nat, i < 160 → Calls Tryz.prog 38 #[ptr sb, .int .i64 i] w fun e w' => e = .returned (u64 0) ∧ w' = w := fun i hi => by
    have := h.load i (by omega)
    rw [hz i hi] at this; exact this
  have HLD := @hide _ LD
  clear LD h hz
  go_enter Tryz.func58, Tryz.ntmps58
  go_wp2_with fail
  go_loopw [8] (fun i wr => ∃ m : Nat, m ≤ 160 ∧ i = .int .i64 m ∧ Hid (wr = w)) (fun i wr => 160 - (intOf i).toNat)
  case atStart => exact ⟨0, by omega, rfl, rfl⟩
  case round =>
    obtain ⟨m, hm, rfl, hw⟩ := hrel
    have hw' : wr = w := hw
    subst hw'
    by_cases hlt : m < 160
    · have LDm := unhide HLD m hlt
      go_wp2_with (go_at_call 38; refine LDm.mono ?_; rintro e w' ⟨rfl, hh⟩; replace hh := hh.symm; subst hh)
      exact ⟨⟨m + 1, by omega, by go_num, hw⟩, by simp [intOf]; omega⟩
    · have : m = 160 := by omega
      subst this
      go_wp2
      go_ret
      exact ⟨rfl, rfl⟩

set_option maxRecDepth 20000 in
set_option maxHeartbeats 1000000 in
theorem h_blank_no (h : Hp w hb sb b T A P) (hz : says P A 0 ≠ 0) : Calls Tryz.prog 58 #[ptr hb] w fun e w' => e = .returned (.bool false) ∧ w' = w := by
  have c0 := h.hp.c0; have c10 := h.hp.c10
  have LD : Calls Tryz.prog 38 #[ptr sb, .int .i64 0] w _ := h.load 0 (by omega)
  have hz1 : (says P A 0 != 0) = true := by simp; exact hz
  obtain ⟨v, hv⟩ : ∃ v, says P A 0 = v := ⟨_, rfl⟩
  rw [hv] at LD hz1
  have HLD := @hide _ LD
  clear LD h hz hv
  go_enter Tryz.func58, Tryz.ntmps58
  go_wp2_with fail
  go_loopw [8] (fun i wr => i = .int .i64 0 ∧ Hid (wr = w)) (fun i wr => 160 - (intOf i).toNat)
  case atStart => exact ⟨rfl, rfl⟩
  case round =>
    obtain ⟨rfl, hw⟩ := hrel
    have hw' : wr = w := hw
    subst hw'
    go_wp2_with (go_at_call 38; refine (unhide HLD).mono ?_; rintro e w' ⟨rfl, hh⟩; replace hh := hh.symm; subst hh)
    go_ret
    exact ⟨rfl, rfl⟩

/-- The blocks that a new heap begins with, and where each begins. -/
def bls : List (Nat × Nat) := [(6, 0), (6, 1), (6, 2), (6, 3), (6, 4), (6, 5), (6, 6), (4, 28), (3, 58), (2, 118), (1, 238)]
def us (s : Nat) : Nat := ((bls.take s).map fun x => 2 ^ x.1).sum
def Fs (s : Nat) : Nat → Nat → Bool := fun k c => decide ((k, c) ∈ bls.take s)

theorem bls_tab : ∀ s : Fin 11, us s < 478 ∧ (bls.getD s (0, 0)).1 < 7 ∧ (bls.getD s (0, 0)).2 < 478 / 2 ^ (bls.getD s (0, 0)).1 ∧ us s / 2 ^ (bls.getD s (0, 0)).1 = (bls.getD s (0, 0)).2 ∧ us (s + 1) = us s + 2 ^ (bls.getD s (0, 0)).1 ∧ min 6 (Lib.bitLen (478 - us s) - 1) = (bls.getD s (0, 0)).1 ∧ 1 ≤ Lib.bitLen (478 - us s) ∧ Lib.bitLen (478 - us s) ≤ 9 := by decide +kernel
theorem Fs_0 : Fs 0 = fun _ _ => false := by funext k c; simp [Fs]
theorem Fs_step (s : Nat) (hs : s < 11) : Fs (s + 1) = setF (Fs s) (bls.getD s (0, 0)).1 (bls.getD s (0, 0)).2 true := by
  funext k c
  unfold Fs setF
  have hl : s < bls.length := hs
  have e : bls.getD s (0, 0) = bls[s] := by simp [List.getD, hl]
  rw [List.take_add_one, List.getElem?_eq_getElem hl, e]
  by_cases h : k = bls[s].1 ∧ c = bls[s].2
  · rw [if_pos h, h.1, h.2]; exact decide_eq_true (List.mem_append_right _ (by simp))
  · rw [if_neg h]
    rw [decide_eq_decide]
    simp only [Option.toList_some, List.mem_append, List.mem_singleton]
    constructor
    · rintro (h1 | h1)
      · exact h1
      · exact absurd ⟨by rw [← h1], by rw [← h1]⟩ h
    · exact .inl
theorem inv_new : Inv (Fs 11) (fun _ => 0) (fun _ => 0) := by
  have hm : ∀ k c, Fs 11 k c = true → (k, c) ∈ bls := fun k c h => by
    have : (k, c) ∈ bls.take 11 := of_decide_eq_true h
    exact List.mem_of_mem_take this
  refine ⟨?_, ?_, ?_, fun u h => absurd rfl h⟩
  · have : ∀ u : Fin 478, hv (Fs 11) (fun _ => 0) u.val + 0 = 1 := by decide +kernel
    exact fun u hu => this ⟨u, hu⟩
  · intro k hk c hc
    have key : ∀ x ∈ bls, x.1 < 6 → Fs 11 x.1 (bud x.2) = false := by decide +kernel
    exact key _ (hm k c hc) hk
  · intro k _ c hc
    have key : ∀ x ∈ bls, x.2 < 478 / 2 ^ x.1 := by decide +kernel
    exact key _ (hm k c hc)

/-- A heap that was just begun. -/
structure Began (f g : Nat → Int) : Prop where
  st : HpS g
  ak : ask g = fun _ => 0
  root : ∀ i, 2 ≤ i → i < 18 → g i = 0

theorem ask_zero {f : Nat → Int} (hz : ∀ i, i < 160 → f i = 0) : ask f = fun _ => 0 := by
  funext u
  by_cases hu : u < 480
  · rw [ask_of hu, hz _ (by omega)]; simp [dig]
  · rw [ask_no hu]
theorem fre_zeros {f : Nat → Int} (hz : ∀ i, i < 160 → f i = 0) : fre f = fun _ _ => false := by
  funext k c
  unfold fre
  by_cases hb : c < 64 * gr k
  · have := Bw_lt hb
    rw [hz _ (by omega)]; simp
  · simp [hb]
theorem inP_none : inP (fun _ => 0) = 0 := sumTo_zero fun u _ => by unfold cv sum7 pc; simp

theorem began_of {f g2 g : Nat → Int} (hz : ∀ i, i < 160 → f i = 0) (e2 : g2 = upd (upd f 0 7522525887014645809) 1 3824) (b : Bits g2 g) (hf : fre g = Fs 11) : Began f g := by
  have hak : ask g = fun _ => 0 := by rw [b.ak, e2, ask_upd _ (.inl (by omega)), ask_upd _ (.inl (by omega))]; exact ask_zero hz
  refine ⟨⟨b.wd, ?_, by rw [hf, hak]; exact inv_new, ?_⟩, hak, fun i h2 h18 => ?_⟩
  · rw [b.out 0 (.inl (by omega)), e2, upd_other _ _ (by omega), upd_same]
  · rw [b.out 1 (.inl (by omega)), e2, upd_same, hak, inP_none]; rfl
  · rw [b.out i (.inl h18), e2, upd_other _ _ (by omega), upd_other _ _ (by omega)]; exact hz i (by omega)

set_option maxRecDepth 20000 in
set_option maxHeartbeats 4000000 in
theorem h_begin (h : Hp w hb sb b T A P) (hz : ∀ i, i < 160 → says P A i = 0) : Calls Tryz.prog 59 #[ptr hb] w fun e w' => e = .returned (.tuple #[]) ∧ ∃ g, To w sb b T A w' g ∧ Began (says P A) g := by
  have c0 := h.hp.c0; have c1 := h.hp.c1
  have P0 : Calls Tryz.prog 37 #[ptr sb, .int .i64 0, .int .u64 7522525887014645809] w _ := h.put 0 (by omega) 7522525887014645809
  have HP0 := hide P0; have HH := hide h; have HZ := hide hz
  clear P0 h hz
  go_enter Tryz.func59, Tryz.ntmps59
  go_wp2_with fail
  refine (unhide HP0).mono ?_
  clear HP0
  rintro e w1 ⟨rfl, T1, P1, o1, eg1⟩
  have h1 := (unhide HH).call o1
  have c0' := h1.hp.c0; have c1' := h1.hp.c1
  have AL : ∀ q, Calls Tryz.prog 7 #[ptr hb] (w1.drewN q) fun e w' => e = .returned (.int .i64 3824) ∧ w' = w1.drewN q := fun q => h_all hb 478 (by omega) (w1.drewN q) c1'
  have PU : ∀ q, Calls Tryz.prog 37 #[ptr sb, .int .i64 1, .int .u64 3824] (w1.drewN q) _ := fun q => (h1.still ((Fr.refl _ w1).drewN q)).put 1 (by omega) 3824
  have HAL := @hide _ AL; have HPU := @hide _ PU; have HH1 := hide h1; have HO1 := hide o1; have HE1 := hide eg1
  clear AL PU h1 o1 eg1 c0 c1
  go_wp2_with fail
  refine region_tailP 7 (by kernel_rfl) (by kernel_rfl) ?_
  simp only [List.take_succ_cons, List.take_zero, List.drop_succ_cons, List.drop_zero]
  repeat (go_big_quiet_step (first | (go_at_call 7; exact Calls.quiet_of_same (unhide HAL _))))
  refine wpQuiet_nil ?_
  rintro _ ⟨nq, rfl⟩
  clear HAL
  go_wp2_with fail
  refine (unhide HPU nq).mono ?_
  clear HPU
  rintro e w2 ⟨rfl, T2, P2, o2, eg2⟩
  have o2' := o2.after ((Fr.refl (fun _ => False) w1).drewN nq)
  have h2 := (unhide HH1).call o2'
  have eg2' : says P2 A = upd (upd (says P A) 0 7522525887014645809) 1 3824 := by rw [eg2, unhide HE1]
  have z2 : Words64 (says P2 A) := by
    rw [eg2']
    refine words_upd (words_upd (fun i hi => ?_) 0 7522525887014645809 (by omega)) 1 3824 (by omega)
    rw [unhide HZ i hi]; omega
  have f2 : fre (says P2 A) = Fs 0 := by
    rw [eg2', fre_upd _ (.inl (by omega)), fre_upd _ (.inl (by omega)), Fs_0]; exact fre_zeros (unhide HZ)
  have HH2 := hide h2; have HO2 := hide o2'; have HE2 := hide eg2'; have HX2 := hide (And.intro z2 f2)
  clear o2 o2' h2 eg2 eg2' c0' c1' z2 f2
  go_wp2_with fail
  go_loopw [2] (fun i wr => ∃ s : Nat, s ≤ 11 ∧ i = .int .i64 (us s) ∧ ∃ T' P', Onx w2 sb b T2 wr T' 3984 A P' false ∧ Bits (says P2 A) (says P' A) ∧ fre (says P' A) = Fs s) (fun i wr => 478 - (intOf i).toNat)
  case atStart => exact ⟨0, by omega, rfl, T2, P2, Onx.start (unhide HH2).st, ⟨(unhide HX2).1, rfl, fun _ _ => rfl⟩, (unhide HX2).2⟩
  case round =>
    clear HX2
    obtain ⟨s, hs, rfl, T', P', o, bt, fs⟩ := hrel
    have h3 := (unhide HH2).call o
    have c1 := h3.hp.c1
    by_cases hlt : s < 11
    · obtain ⟨t1, t2, t3, t4, t5, t6, t7, t8⟩ := bls_tab ⟨s, hlt⟩
      have fst := Fs_step s hlt
      simp only at t1 t2 t3 t4 t5 t6 t7 t8
      obtain ⟨k, hk⟩ : ∃ k, (bls.getD s (0, 0)).1 = k := ⟨_, rfl⟩
      obtain ⟨c, hc⟩ : ∃ c, (bls.getD s (0, 0)).2 = c := ⟨_, rfl⟩
      rw [hk] at t2 t3 t4 t5 t6 fst
      rw [hc] at t3 t4 fst
      have SF := h_setFree h3 bt.wd k c (gr_ge t2 t3) true
      obtain ⟨u, hu⟩ : ∃ u, us s = u := ⟨_, rfl⟩
      rw [hu] at t1 t4 t5 t6 t7 t8 ⊢
      have BL : Calls Tryz.prog 82 #[.int .u64 (478 - (u : Int))] wr _ := Tryz.bits_Len (478 - (u : Int)) wr (by omega) (by omega)
      rw [show (478 - (u : Int)).toNat = 478 - u by omega] at BL
      obtain ⟨L, hL⟩ : ∃ L, Lib.bitLen (478 - u) = L := ⟨_, rfl⟩
      rw [hL] at BL t6 t7 t8
      obtain ⟨Y, hY⟩ : ∃ Y, 2 ^ k = Y := ⟨_, rfl⟩
      have hYe : ((2 : Int) ^ k) = Y := by rw [← hY]; simp
      have hY6 : Y ≤ 64 := by rw [← hY]; exact Nat.pow_le_pow_right (n := 2) (j := 6) (by omega) (by omega)
      have hw1 : wrap64 (Y : Int) = Y := small_w64 (by omega)
      have hY0 : 0 < Y := by rw [← hY]; exact two_pos k
      rw [hY] at t4 t5
      have huc : (u : Int) / Y = c := by rw [← t4]; omega
      have hmin : min 6 ((L : Int) - 1) = k := by omega
      have HSF := hide SF; have HX := hide (And.intro o (And.intro bt (And.intro fs (And.intro fst t5)))); have HH3 := hide h3
      clear SF o bt fs h3 fst t5 t4 hL hk hc hu t3
      go_wp2_with (first | (go_at_call 82; refine BL.mono ?_; rintro e w' ⟨rfl, hh⟩; replace hh := hh.symm; subst hh) | fail)
      refine (unhide HSF).mono ?_
      clear HSF BL
      rintro e w4 ⟨rfl, g4, ⟨T4, P4, o4, eg4⟩, b4, f4⟩
      have HX4 := hide (And.intro o4 (And.intro eg4 (And.intro b4 f4)))
      clear o4 eg4 b4 f4
      go_wp2
      obtain ⟨o4, eg4, b4, f4⟩ := unhide HX4
      obtain ⟨o, bt, fs, fst, t5⟩ := unhide HX
      rw [← eg4] at b4 f4
      refine ⟨⟨s + 1, by omega, by rw [t5]; simp, T4, P4, o.trans o4, bt.trans b4, ?_⟩, by simp [intOf]; omega⟩
      rw [f4, fs, fst]
    · have : s = 11 := by omega
      subst this
      have u11 : ((us 11 : Nat) : Int) = 478 := by decide +kernel
      rw [u11]
      have HX := hide (And.intro o (And.intro bt fs))
      clear o bt fs h3
      go_wp2
      go_end0
      obtain ⟨o, bt, fs⟩ := unhide HX
      exact ⟨rfl, _, ⟨T', P', ((unhide HO1).trans (unhide HO2)).trans o, rfl⟩, began_of (unhide HZ) (unhide HE2) bt fs⟩
end

/-- What a store tells that was committed as base. -/
def rb (base : Nat → Int) : Nat → Int := fun i => base (12400 + i)

section
variable {w w' w0 : World} {X : Nat → Prop} {hb sb b : Nat} {T : Tay} {A : Ab} {P : List (Int × Int)} {N : Nat} {free : Prop} {s : Int} {f base : Nat → Int}

theorem says_base (c : Calm N free A s f) (k : Clean 0 12304 base f) (P : List (Int × Int)) : says P A = rb (homed P base) := by
  funext i
  show homed P A.now (12400 + i) = homed P base (12400 + i)
  unfold homed
  split
  · rfl
  · rw [c.now, k.out _ (.inr (by omega))]

/-- A heap on a store that is new since w0, beside the law's own blocks X; nothing is put. -/
structure HpC (w0 : World) (X : Nat → Prop) (w : World) (hb sb b : Nat) (T : Tay) (A : Ab) (N : Nat) (free : Prop) (s : Int) (base : Nat → Int) : Prop where
  hd : Hold w0 X w sb b 3984 T A [] false
  cl : ∃ f, Calm N free A s f ∧ Clean 0 12304 base f
  hp : HpL w hb sb
  xh : X hb
  l0 : 0 < w0.heap.size

theorem HpC.toHp (h : HpC w0 X w hb sb b T A N free s base) : Hp w hb sb b T A [] := by
  obtain ⟨f, c, k⟩ := h.cl
  exact ⟨h.hd.st, h.hp, h.hd.ap hb h.xh, fun ht => by have := h.hd.new 0 ht; have := h.l0; omega, c.dead⟩
theorem HpC.says (h : HpC w0 X w hb sb b T A N free s base) (P : List (Int × Int)) : says P A = rb (homed P base) := by
  obtain ⟨f, c, k⟩ := h.cl
  exact says_base c k P

set_option maxHeartbeats 1000000 in
theorem h_openC_new {bx : Nat} (h : Hp w hb sb b T A P) (hz : ∀ i, i < 160 → says P A i = 0) (bc : w.cell? ⟨bx, 0, none⟩ = some (ptr hb)) : Calls Tryz.prog 57 #[ptr bx] w fun e w' => e = .returned (.tuple #[]) ∧ ∃ g, To w sb b T A w' g ∧ Began (says P A) g := by
  have BL := h_blank h hz
  have BG := h_begin h hz
  have HBL := hide BL; have HBG := hide BG
  clear BL BG h hz
  go_enter Tryz.func57, Tryz.ntmps57
  go_wp2_with fail
  refine (unhide HBL).mono ?_
  rintro e w1 ⟨rfl, hh⟩
  replace hh := hh.symm
  subst hh
  clear HBL
  go_wp2_with fail
  refine (unhide HBG).mono ?_
  clear HBG
  rintro e w1 ⟨rfl, x⟩
  have HX := hide x
  clear x
  go_wp2
  go_end0
  exact ⟨rfl, unhide HX⟩

set_option maxHeartbeats 1000000 in
theorem h_openC_old {bx : Nat} (h : Hp w hb sb b T A P) (hz : says P A 0 ≠ 0) (bc : w.cell? ⟨bx, 0, none⟩ = some (ptr hb)) : Calls Tryz.prog 57 #[ptr bx] w fun e w' => e = .returned (.tuple #[]) ∧ w' = w := by
  have BL := h_blank_no h hz
  have HBL := hide BL
  clear BL h hz
  go_enter Tryz.func57, Tryz.ntmps57
  go_wp2_with fail
  refine (unhide HBL).mono ?_
  rintro e w1 ⟨rfl, hh⟩
  replace hh := hh.symm
  subst hh
  clear HBL
  go_wp2
  go_end0
  exact ⟨rfl, rfl⟩

theorem HpU.hpl (h : HpU w hb sb 478 (fun k => (Bw k : Int)) 36 160) (tab : TabL w) : HpL w hb sb := ⟨h.c0, h.c1, h.cb, h.c9, h.c10, tab⟩

set_option maxRecDepth 20000 in
set_option maxHeartbeats 4000000 in
/-- Open, by what its closure does. -/
theorem h_open_by {R : List (Int × Int) → Prop} (st : StL w sb b T 3984 A [] false) (c : Calm N free A s f) (k : Clean 0 12304 base f) (tab : TabL w) (n0 : ¬ tfoot sb b T 0) (hs : s + 30729 < 4294967296)
    (hclo : ∀ (w1 : World) (hb bx : Nat), Hp w1 hb sb b T A [] → w1.cell? ⟨bx, 0, none⟩ = some (ptr hb) → Calls Tryz.prog 57 #[ptr bx] w1 fun e w' => e = .returned (.tuple #[]) ∧ ∃ T' P', Onx w1 sb b T w' T' 3984 A P' false ∧ R P') :
    Calls Tryz.prog 16 #[ptr sb] w fun e w' => (∃ hb P' T' A', e = .returned (.tuple #[ptr hb, .int .i64 0]) ∧ w.heap.size ≤ hb ∧ HpL w' hb sb ∧ R P' ∧ Onx w sb b T w' T' 3984 A' [] false ∧ ¬ tfoot sb b T' hb ∧ Done N free (s + 30729) base P' A') ∨
      (∃ P' T' A', e = .returned (.tuple #[.pointer none, .int .i64 50]) ∧ R P' ∧ Onx w sb b T w' T' 3984 A' P' true ∧ Gone N free (s + 30729) base P' A') := by
  have SZ : Calls Tryz.prog 55 #[ptr sb] w fun e w' => e = .returned (.int .i64 3984) ∧ w' = w := t_size (n := 3984) st.c2
  have LO := h_laidOut (w := w) (sb := sb) st.c2
  have e1 := eq_nil_stor
  have HLO := hide LO; have HST := hide st; have HCL := @hide _ hclo; have HCK := hide (And.intro c k); have HTB := hide tab; have HN0 := hide n0
  clear LO st c k hclo tab n0
  go_enter Tryz.func16, Tryz.ntmps16
  go_wp2_with (first | (go_at_call 55; refine SZ.mono ?_; rintro e w' ⟨rfl, hh⟩; replace hh := hh.symm; subst hh) | fail)
  refine (unhide HLO).mono ?_
  clear HLO SZ
  rintro e w1 ⟨rfl, hu, f1, l1⟩
  obtain ⟨W, hW⟩ : ∃ W, w1.alloc (.cells #[ptr w.heap.size] 26) = W := ⟨_, rfl⟩
  have fW : Still w1 W := hW ▸ (Fr.refl _ w1).alloc _
  have bx : Box W w1.heap.size (ptr w.heap.size) := hW ▸ Box.new w1 (ptr w.heap.size) 26
  have f0W : Still w W := f1.trans' fW (fun _ x => x.elim)
  have tabW : TabL W := fun j hj => f0W.cell' (unhide HTB j hj) (fun x => x)
  have stW := (unhide HST).still f0W
  have huW := (hu.still fW).hpl tabW
  have nh : ¬ tfoot sb b T w.heap.size := fun ht => by have := (unhide HST).lt _ ht; omega
  have D := t_do (R := fun h P' => h = .well ∧ R P') stW (unhide HCK).1 (unhide HCK).2 (g := 57) (fi := #[]) (ca := #[ptr w1.heap.size]) (fun w2 f2 => acts_of (fun _ _ => by kernel_rfl) ((unhide HCL w2 w.heap.size w1.heap.size ⟨stW.still f2, huW.kept f2 (fun x => x) (fun x => x), nh, unhide HN0, (unhide HCK).1.dead⟩ (f2.cell' bx.c (fun x => x))).mono (by
    rintro e w3 ⟨rfl, T', P', o, r⟩
    exact ⟨.well, rfl, .inl rfl, T', P', o, rfl, r⟩))) hs
  have bc := bx.c
  rw [← hW] at bc
  have HD := hide D; have HX := hide (And.intro huW (And.intro f0W nh)); have HW := hide hW; have HBX := hide bx
  have ltb : w1.heap.size < W.heap.size := bx.lt
  have nb : ¬ tfoot sb b T w1.heap.size := fun ht => by have := (unhide HST).lt _ ht; have := f1.size; omega
  clear D huW f0W nh stW tabW fW hW bx hu f1
  go_wp2_with fail
  rw [unhide HW]
  unfold Did at HD
  refine (unhide HD).mono ?_
  clear HD
  rintro e w3 (⟨P', ⟨_, r⟩, rfl, T', A', o, d⟩ | ⟨P', ⟨_, r⟩, rfl, T', A', o, d⟩ | ⟨i, P', ⟨e, _⟩, _⟩ | ⟨y, P', ⟨e, _⟩, _⟩)
  · have bc3 : w3.cell? ⟨w1.heap.size, 0, none⟩ = some (ptr w.heap.size) := o.fr.cell' (unhide HBX).c nb
    have HO := hide (And.intro r (And.intro o d))
    clear r o d bc
    go_wp2
    go_ret2
    obtain ⟨r, o, d⟩ := unhide HO
    obtain ⟨huW, f0W, nh⟩ := unhide HX
    have lh : w.heap.size < W.heap.size := by omega
    have o' := o.after f0W
    exact .inl ⟨w.heap.size, P', T', A', rfl, Nat.le_refl _, huW.kept o.fr nh (unhide HN0), r, o', o.other lh nh, d⟩
  · have HO := hide (And.intro r (And.intro o d))
    clear r o d bc
    go_wp2
    go_ret2
    obtain ⟨r, o, d⟩ := unhide HO
    exact .inr ⟨P', T', A', rfl, r, o.after (unhide HX).2.1, d⟩
  · injection e with e; cases e
  · injection e with e; cases e
end
end Go.Proofs.YtacfmmbdeajjbaaGreatDoor
