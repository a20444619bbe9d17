/- awake. -/
import Derived.Test.YtacfmmbdeajjbaaGreatDoorLh
import Derived.Test.YtacfmmbdeajjbaaGreatDoorFll
namespace Go.Proofs.YtacfmmbdeajjbaaGreatDoor
open Go.RowKit

/-- A piece of x words was taken, and its place told by the variable at. -/
def TookAt (x : Nat) (f : Nat → Int) (A : Ab) (bat : Nat) (P' : List (Int × Int)) (w' : World) : Prop := ∃ u : Nat, Box w' bat (.int .i64 (160 + u * 8)) ∧ Took f x u (says P' A)

/-- Nothing of what is asked for is free. -/
def FullAt (x : Nat) (f : Nat → Int) : Prop := ∀ j, lv x ≤ j → j < 7 → ∀ c, fre f j c = false

section
variable {w w' w0 : World} {hb sb b bh bat : Nat} {T : Tay} {A : Ab} {P : List (Int × Int)} {v : Value}

theorem Fr.box (w : World) (r : Nat) (v : Value) : Fr (fun k => k = r) w (w.setCell ⟨r, 0, none⟩ v) := (Fr.refl (fun k => k = r) w).setCell (.inl rfl) v

/-- A put, then a variable is set. -/
theorem To.var {g : Nat → Int} (_h : Hp w hb sb b T A P) (t : To w sb b T A w' g) (hl : bat < w.heap.size) (hn : ¬ tfoot sb b T bat) (v : Value) : ∃ T' P', OnxX (fun k => k = bat) w sb b T (w'.setCell ⟨bat, 0, none⟩ v) T' 3984 A P' false ∧ says P' A = g := by
  obtain ⟨T', P', o, e⟩ := t
  refine ⟨T', P', (OnxX.of o).var (Fr.box w' bat v) (fun k hk => hk) (fun k hk => ?_), e⟩
  have hk : k = bat := hk
  subst hk
  exact o.other hl hn

set_option maxHeartbeats 1000000 in
theorem awkC (h : Hp w hb sb b T A P) (s : HpS (says P A)) (ch : w.cell? ⟨bh, 0, none⟩ = some (ptr hb)) (ca : Box w bat v) (na : ¬ tfoot sb b T bat) :
    Calls Tryz.prog 42 #[ptr bh, ptr bat] w fun e w' => (e = .returned (.tuple #[]) ∧ ∃ T' P', OnxX (fun k => k = bat) w sb b T w' T' 3984 A P' false ∧ TookAt 9 (says P A) A bat P' w') ∨ (e = .panicked (errnoP 60) ∧ Still w w' ∧ FullAt 9 (says P A)) := by
  have TK : Calls Tryz.prog 11 #[ptr hb, .int .i64 9] w _ := h_takeP h s 9 (by omega) (by omega)
  have HTK := hide TK; have HH := hide h; have HCA := hide ca
  have lt := ca.lt
  clear TK h s ca
  go_enter Tryz.func42, Tryz.ntmps42
  go_wp2_with fail
  refine (unhide HTK).mono ?_
  clear HTK
  rintro e w1 (⟨u, g, rfl, t, tk⟩ | ⟨rfl, D, hf⟩)
  · have bx : Box w1 bat v := by obtain ⟨T', P', o, _⟩ := t; exact (unhide HCA).kept o.fr na
    have c := bx.c; have z := bx.z
    have HX := hide (And.intro t (And.intro tk bx))
    clear t tk bx
    go_wp2
    go_end0
    obtain ⟨t, tk, bx⟩ := unhide HX
    obtain ⟨T', P', o, e⟩ := t.var (unhide HH) lt na (.int .i64 (160 + u * 8))
    subst e
    exact .inl ⟨rfl, T', P', o, u, bx.set _, tk⟩
  · exact ⟨rfl, .inr ⟨rfl, D, hf⟩⟩

theorem tookAt_stays (x : Nat) (f : Nat → Int) (A : Ab) (bat : Nat) (Q : How → Prop) : Stays (fun k => k = bat) (fun h P' w' => Q h ∧ TookAt x f A bat P' w') := by
  rintro h P w w' F ⟨q, u, b, t⟩ hf hn
  exact ⟨q, u, b.kept hf (hn bat rfl), t⟩

theorem NewH.roomy {g : Nat → Int} (n : NewH g) {x : Nat} (hf : FullAt x g) : False := by
  have i := n.st.inv
  rw [n.ak] at i
  refine i.roomy (m := 6) (k := lv x) (by omega) (lv_le x) (fun u h => absurd rfl h) ?_ hf
  rw [cnt_none]; decide

set_option maxRecDepth 20000 in
set_option maxHeartbeats 4000000 in
theorem l8_awake (w : World) (tab : TabL w) : Calls Tryz.prog 13 #[] w fun e w' => e = .returned (.bool true) ∧ Still w w' := by
  have K := l8_open w tab
  have h1 := eq_nil_heap
  have h2 := mf
  have HK := hide K
  clear K tab
  go_enter Tryz.func13, Tryz.ntmps13
  go_wp2_with fail
  refine (unhide HK).mono ?_
  clear HK
  rintro e w1 ⟨b, sb, hb, T, A, base, rfl, hc, nw⟩
  obtain ⟨W, hW⟩ : ∃ W, w1.alloc (.cells #[ptr hb] 26) = W := ⟨_, rfl⟩
  have hcW : HpC w (fun k => k = hb ∨ k = w1.heap.size) W hb sb b T A 2048 True 43021 base := hW ▸ hc.more _
  have bh : Box W w1.heap.size (ptr hb) := hW ▸ Box.new w1 (ptr hb) 26
  have hp := hcW.toHp
  have sy := hcW.says []
  rw [homed_nil] at sy
  have f1 : rb base 1 = ((3824 : Nat) : Int) := by rw [nw.st.fr, nw.ak, inP_none]
  have FR := h_free hp.hp hp.reads 3824 (by omega) (by rw [sy]; exact f1)
  obtain ⟨W2, hW2⟩ : ∃ W2, W.alloc (.cells #[.int .i64 0] 3) = W2 := ⟨_, rfl⟩
  have hc2 : HpC w (fun k => (k = hb ∨ k = w1.heap.size) ∨ k = W.heap.size) W2 hb sb b T A 2048 True 43021 base := hW2 ▸ hcW.more _
  have fW2 : Still W W2 := hW2 ▸ (Fr.refl _ W).alloc _
  have bh2 : Box W2 w1.heap.size (ptr hb) := bh.kept fW2 (fun x => x)
  have ba2 : Box W2 W.heap.size (.int .i64 0) := hW2 ▸ Box.new W (.int .i64 0) 3
  have nea : W.heap.size ≠ w1.heap.size := by rw [← hW]; simp
  have nhb : hb ≠ W.heap.size := by have := (hcW.hd.xl hb hcW.xh).2; omega
  have DO := hc2.do_ (V := fun k => k = W.heap.size) (g := 42) (fi := #[]) (ca := #[ptr w1.heap.size, ptr W.heap.size]) (R := fun h P' w' => h = .well ∧ TookAt 9 (rb base) A W.heap.size P' w') (fun k hk => .inr hk) nhb (tookAt_stays 9 (rb base) A W.heap.size (fun h => h = .well)) (fun w3 f3 => acts_of (fun _ _ => by kernel_rfl) ((awkC (hc2.toHp.still f3) (by rw [sy]; exact nw.st) (f3.cell' bh2.c (fun x => x)) (ba2.kept f3 (fun x => x)) (hc2.hd.ap _ (.inr rfl))).mono (by
    rintro e w4 (⟨rfl, T', P', o, tk⟩ | ⟨rfl, _, hf⟩)
    · rw [sy] at tk
      exact ⟨.well, rfl, .inl rfl, T', P', o, rfl, tk⟩
    · rw [sy] at hf
      exact (nw.roomy hf).elim))) (by omega)
  have bc := bh.c; have bc2 := bh2.c; have ac2 := ba2.c
  have HDO := hide DO; have HFR := hide FR; have HC2 := hide hc2; have HB2 := hide bh2; have HNW := hide nw; have HF1 := hide f1; have HNE := hide nea
  rw [← hW] at bc
  have HW := hide hW; have HW2 := hide hW2
  clear DO FR hc2 hc hcW bh bh2 ba2 nw hp sy f1 fW2 hW hW2 nhb
  go_wp2_with fail
  rw [unhide HW]
  refine (unhide HFR).mono ?_
  clear HFR
  rintro e w' ⟨rfl, hh⟩
  replace hh := hh.symm
  subst hh
  go_wp2_with fail
  rw [unhide HW2]
  unfold DidH at HDO
  refine (unhide HDO).mono ?_
  clear HDO
  rintro e w5 ⟨fr5, ⟨P', T', A', ⟨_, u, ba5, tk⟩, rfl, hc5⟩ | ⟨i, P', T', ⟨hq, _⟩, _⟩⟩
  · have bh5 : Box w5 w1.heap.size (ptr hb) := (unhide HB2).kept fr5 (fun e => by
      rcases e with e | e
      · exact (unhide HC2).hd.ap _ (.inl (.inr rfl)) e
      · exact unhide HNE e.symm)
    have hp5 := hc5.toHp
    have sy5 := hc5.says []
    rw [homed_nil, ← (unhide HC2).says P'] at sy5
    obtain ⟨c, hu, hcc⟩ := tk.blk
    have hb4 := block_lt hcc
    rw [← hu] at hb4
    have hbg : begs (ask (says P' A)) u = true := begs_of tk.st.inv (by rw [tk.ak]; simp [setK])
    have a9 : ask (says P' A) u = 9 := by rw [tk.ak]; simp [setK]
    have SZ := h_size (f := says P' A) hp5.hp (by have := hp5.reads; rw [sy5] at this; exact this) tk.st.wd u (by have := two_pos (lv 9); omega) hbg
    rw [a9] at SZ
    have f5 : says P' A 1 = ((3808 : Nat) : Int) := by
      have K0 := tk.was
      rw [hu] at K0
      have p2 := inP_lay (K := ask (rb base)) (x := 9) hcc rfl (by omega) K0
      rw [tk.st.fr, tk.ak, hu, p2, (unhide HNW).ak, inP_none]
      rfl
    have FR : ∀ w6, Dr w5 w6 → Calls Tryz.prog 24 #[ptr hb] w6 fun e w' => e = .returned (.int .i64 (3808 : Nat)) ∧ w' = w6 := fun w6 d => by
      have hp6 := hp5.still d.still
      exact h_free hp6.hp hp6.reads 3808 (by omega) (by rw [sy5]; exact f5)
    have AL : ∀ w6, Dr w5 w6 → Calls Tryz.prog 7 #[ptr hb] w6 fun e w' => e = .returned (.int .i64 3824) ∧ w' = w6 := fun w6 d => h_all hb 478 (by omega) w6 (hp5.still d.still).hp.c1
    have CK : ∀ w6, Dr w5 w6 → Calls Tryz.prog 44 #[ptr hb] w6 fun e w' => e = .returned (.int .i64 0) ∧ Still w6 w' := fun w6 d => h_check (hp5.still d.still) (by rw [sy5]; exact tk.st)
    have bc5 := bh5.c; have ac5 := ba5.c
    have HSZ := hide SZ; have HFR := @hide _ FR; have HAL := @hide _ AL; have HCK := @hide _ CK; have HFF := hide hc5.hd.fr
    have hu4 : u ≤ 478 := Nat.le_trans (Nat.le_add_right _ _) hb4
    clear SZ FR AL CK hp5 sy5 hc5 tk hb4 hbg a9 f5 bh5 ba5 hcc hu bc2 ac2 bc
    have g1 : ((0 : Int) < 160 + (u : Int) * 8) = True := by simp; omega
    have g2 : (160 + (u : Int) * 8) % 8 = 0 := by omega
    go_wp2_with fail
    refine (unhide HSZ).mono ?_
    clear HSZ
    rintro e w6 ⟨rfl, d6⟩
    have bc6 : w6.cell? ⟨w1.heap.size, 0, none⟩ = some (ptr hb) := d6.still.cell' bc5 (fun x => x)
    have FR := unhide HFR w6 d6
    have AL := unhide HAL w6 d6
    have CK := unhide HCK w6 d6
    have HCK' := hide CK; have HD6 := hide d6
    clear CK HCK HFR HAL d6 bc5 ac5
    go_wp2_with (first | (go_at_call 24; refine FR.mono ?_; rintro e w' ⟨rfl, hh⟩; replace hh := hh.symm; subst hh) | (go_at_call 7; refine AL.mono ?_; rintro e w' ⟨rfl, hh⟩; replace hh := hh.symm; subst hh) | fail)
    refine (unhide HCK').mono ?_
    clear HCK'
    rintro e w7 ⟨rfl, f7⟩
    have HF7 := hide f7
    clear f7
    go_wp2
    go_ret
    exact ⟨rfl, ((unhide HFF).trans' (unhide HD6).still (fun _ x => x.elim)).trans' (unhide HF7) (fun _ x => x.elim)⟩
  · cases hq
end
end Go.Proofs.YtacfmmbdeajjbaaGreatDoor
