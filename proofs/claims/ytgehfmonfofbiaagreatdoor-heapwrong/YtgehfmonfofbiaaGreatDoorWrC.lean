/- HeapWrong: its closures. -/
import Derived.Test.YtgehfmonfofbiaaGreatDoorLq
import Derived.Test.YtgehfmonfofbiaaGreatDoorHs
namespace Go.Proofs.YtgehfmonfofbiaaGreatDoor
open Go.RowKit

section
variable {w w' w0 : World} {hb sb b bh bz bi bp ba : Nat} {T : Tay} {A : Ab} {P : List (Int × Int)} {v : Value}

set_option maxRecDepth 20000 in
set_option maxHeartbeats 2000000 in
theorem wrC1 (h : Hp w hb sb b T A P) (s : HpS (says P A)) (xb xo len cap m : Nat) (z : Int) (hm : m < len) (_hlen : len ≤ maxLen) (ch : w.cell? ⟨bh, 0, none⟩ = some (ptr hb)) (cz : w.cell? ⟨bz, 0, none⟩ = some (.slice (some ⟨xb, xo, none⟩) len cap)) (ci : w.cell? ⟨bi, 0, none⟩ = some (.int .i64 m)) (cx : w.cell? ⟨xb, xo + m, none⟩ = some (.int .i64 z))
    (cp : Box w bp v) (np : ¬ tfoot sb b T bp) :
    Calls Tryz.prog 27 #[ptr bh, ptr bz, ptr bi, ptr bp] w fun e w' => (e = .returned (.tuple #[]) ∧ ∃ T' P', OnxX (fun k => k = bp) w sb b T w' T' 3984 A P' false ∧ TookAt (msk z 63 + 1) (says P A) A bp P' w') ∨ (e = .panicked (errnoP 60) ∧ Still w w' ∧ FullAt (msk z 63 + 1) (says P A)) := by
  have l63 := msk_le z 63
  have e63 := mask63 z
  have TK := fun q => h_takeP (h.still ((Fr.refl _ w).drewN q)) s (msk z 63 + 1) (by omega) (by omega)
  obtain ⟨x, hx⟩ : ∃ x, msk z 63 + 1 = x := ⟨_, rfl⟩
  have ex : ((msk z 63 : Nat) : Int) + 1 = x := by omega
  rw [hx] at TK ⊢
  have HTK := @hide _ TK; have HH := hide h; have HCP := hide cp
  have lt := cp.lt
  clear TK h s cp hx
  go_enter Tryz.func27, Tryz.ntmps27
  go_wp2_with fail
  refine region_tailP 7 (by kernel_rfl) (by kernel_rfl) ?_
  simp only [List.take_succ_cons, List.take_zero, List.drop_succ_cons, List.drop_zero]
  repeat (go_big_quiet_step (first | fail))
  refine wpQuiet_nil ?_
  rintro _ ⟨nq, rfl⟩
  have fq : Still w (w.drewN nq) := (Fr.refl _ w).drewN nq
  have HFQ := hide fq
  go_wp2_with fail
  refine (unhide HTK nq).mono ?_
  clear HTK fq
  rintro e w1 (⟨u, g, rfl, t, tk⟩ | ⟨rfl, D, hf⟩)
  · have t' := t.after (unhide HFQ)
    have bx : Box w1 bp v := by obtain ⟨T', P', o, _⟩ := t'; exact (unhide HCP).kept o.fr np
    have c := bx.c; have zz := bx.z
    have HX := hide (And.intro t' (And.intro tk bx))
    clear t t' tk bx
    go_wp2
    go_end0
    obtain ⟨t, tk, bx⟩ := unhide HX
    obtain ⟨T', P', o, e⟩ := t.var (unhide HH) lt np (.int .i64 (160 + u * 8))
    subst e
    exact .inl ⟨rfl, T', P', o, u, bx.set _, tk⟩
  · exact ⟨rfl, .inr ⟨rfl, (unhide HFQ).trans' D (fun _ x => x.elim), hf⟩⟩

set_option maxHeartbeats 1000000 in
theorem wrC2 (h : Hp w hb sb b T A P) (s : HpS (says P A)) (u : Nat) (hu : ask (says P A) u ≠ 0) (ch : w.cell? ⟨bh, 0, none⟩ = some (ptr hb)) (ca : w.cell? ⟨ba, 0, none⟩ = some (.int .i64 (160 + u * 8))) :
    Calls Tryz.prog 28 #[ptr bh, ptr ba] w fun e w' => e = .returned (.tuple #[]) ∧ Still w w' := by
  have K := h_size h.hp h.reads s.wd u (s.inv.asks u hu).1 (begs_of s.inv hu)
  have HK := hide K
  clear K h s hu
  go_enter Tryz.func28, Tryz.ntmps28
  go_wp2_with fail
  refine (unhide HK).mono ?_
  clear HK
  rintro e w1 ⟨rfl, D⟩
  have HD := hide D.still
  clear D
  go_wp2
  go_end0
  exact ⟨rfl, unhide HD⟩
set_option maxHeartbeats 1000000 in
theorem wrC2no (h : Hp w hb sb b T A P) (s : HpS (says P A)) (at_ : Int) (hn : NoPiece (ask (says P A)) at_) (ch : w.cell? ⟨bh, 0, none⟩ = some (ptr hb)) (ca : w.cell? ⟨ba, 0, none⟩ = some (.int .i64 at_)) :
    Calls Tryz.prog 28 #[ptr bh, ptr ba] w fun e w' => e = .panicked (errnoP 1) ∧ Still w w' := by
  have HK := hide (h_size_none h.hp h.reads s.wd at_ hn)
  clear h s hn
  go_enter Tryz.func28, Tryz.ntmps28
  go_wp2_with fail
  refine (unhide HK).mono ?_
  clear HK
  rintro e w1 ⟨rfl, D⟩
  exact ⟨rfl, rfl, D.still⟩

set_option maxHeartbeats 1000000 in
theorem wrC3 (h : Hp w hb sb b T A P) (s : HpS (says P A)) (u : Nat) (hu : ask (says P A) u ≠ 0) (ch : w.cell? ⟨bh, 0, none⟩ = some (ptr hb)) (ca : w.cell? ⟨ba, 0, none⟩ = some (.int .i64 (160 + u * 8))) :
    Calls Tryz.prog 30 #[ptr bh, ptr ba] w fun e w' => e = .panicked (errnoP 3) ∧ ∃ T' P', Onx w sb b T w' T' 3984 A P' false := by
  have HK := hide (h_give h s u hu)
  clear h s hu
  go_enter Tryz.func30, Tryz.ntmps30
  go_wp2_with fail
  refine (unhide HK).mono ?_
  clear HK
  rintro e w1 ⟨rfl, g, ⟨T', P', o, _⟩, _⟩
  have HO := hide o
  clear o
  go_wp2
  exact ⟨rfl, rfl, T', P', unhide HO⟩
set_option maxHeartbeats 1000000 in
theorem wrC3no (h : Hp w hb sb b T A P) (s : HpS (says P A)) (at_ : Int) (hn : NoPiece (ask (says P A)) at_) (ch : w.cell? ⟨bh, 0, none⟩ = some (ptr hb)) (ca : w.cell? ⟨ba, 0, none⟩ = some (.int .i64 at_)) :
    Calls Tryz.prog 30 #[ptr bh, ptr ba] w fun e w' => e = .panicked (errnoP 1) ∧ Still w w' := by
  have HK := hide (h_give_none h s at_ hn)
  clear h s hn
  go_enter Tryz.func30, Tryz.ntmps30
  go_wp2_with fail
  refine (unhide HK).mono ?_
  clear HK
  rintro e w1 ⟨rfl, D⟩
  exact ⟨rfl, rfl, D.still⟩

set_option maxHeartbeats 1000000 in
theorem wrC4 (h : Hp w hb sb b T A P) (s : HpS (says P A)) (x : Nat) (h1 : 1 ≤ x) (h5 : x ≤ 512) (ch : w.cell? ⟨bh, 0, none⟩ = some (ptr hb)) (ca : w.cell? ⟨ba, 0, none⟩ = some (.int .i64 x)) :
    Calls Tryz.prog 31 #[ptr bh, ptr ba] w fun e w' => (e = .panicked (errnoP 3) ∧ ∃ T' P', Onx w sb b T w' T' 3984 A P' false) ∨ (e = .panicked (errnoP 60) ∧ Still w w') := by
  have HK := hide (h_takeP h s x h1 h5)
  clear h s
  go_enter Tryz.func31, Tryz.ntmps31
  go_wp2_with fail
  refine (unhide HK).mono ?_
  clear HK
  rintro e w1 (⟨u, g, rfl, ⟨T', P', o, _⟩, _⟩ | ⟨rfl, D, _⟩)
  · have HO := hide o
    clear o
    go_wp2
    exact ⟨rfl, .inl ⟨rfl, T', P', unhide HO⟩⟩
  · exact ⟨rfl, .inr ⟨rfl, D⟩⟩
set_option maxHeartbeats 1000000 in
theorem wrC4no (x : Int) (hx : x < 1 ∨ 512 < x) (ch : w.cell? ⟨bh, 0, none⟩ = some (ptr hb)) (ca : w.cell? ⟨ba, 0, none⟩ = some (.int .i64 x)) :
    Calls Tryz.prog 31 #[ptr bh, ptr ba] w fun e w' => e = .panicked (errnoP 1) ∧ w' = w := by
  have HK := hide (h_take_no (hb := hb) x hx w)
  clear hx
  go_enter Tryz.func31, Tryz.ntmps31
  go_wp2_with fail
  refine (unhide HK).mono ?_
  clear HK
  rintro e w1 ⟨rfl, rfl⟩
  exact ⟨rfl, rfl, rfl⟩

/-- A Do that leaves the heap as it was. -/
theorem HpC.same {X : Nat → Prop} {N : Nat} {s : Int} {base : Nat → Int} (h : HpC w0 X w hb sb b T A N True s base) {g : Nat} {fi ca : Array Value} {R : How → List (Int × Int) → Prop} (hR : ∀ P, R .well P → P = [])
    (hf : ChangeX (fun _ => False) w sb b T 3984 A (.func (.func g) fi ca) (fun h P _ => R h P)) (hs : s + 30729 < 4294967296) :
    Calls Tryz.prog 10 #[ptr sb, .func (.func g) fi ca] w fun e w' => ((R .well [] ∧ e = .returned (.int .i64 0)) ∨ ∃ i P, R (.errno i) P ∧ e = .returned (.int .i64 i)) ∧ (∃ T' A', HpC w0 X w' hb sb b T' A' N True (s + 30729) base) ∧ Fr (fun k => tfoot sb b T k ∨ False) w w' := by
  refine (h.do_ (V := fun _ => False) (fun k hk => hk.elim) (fun x => x) (fun h P w w' F r _ _ => r) hf hs).mono ?_
  rintro e w' ⟨fr, ⟨P', T', A', r, rfl, hc⟩ | ⟨i, P', T', r, rfl, hc⟩⟩
  · obtain rfl := hR _ r
    rw [homed_nil] at hc
    exact ⟨.inl ⟨r, rfl⟩, ⟨T', A', hc⟩, fr⟩
  · exact ⟨.inr ⟨i, P', r, rfl⟩, ⟨T', A, hc.slow (by omega)⟩, fr⟩

section
variable {X : Nat → Prop} {s : Int} {base : Nat → Int}
/-- Where a piece begins, or none does. -/
def Pc (K : Nat → Nat) (at_ : Int) (t : Bool) : Prop := (t = true ∧ ∃ u : Nat, at_ = 160 + u * 8 ∧ K u ≠ 0) ∨ (t = false ∧ NoPiece K at_)

set_option maxRecDepth 20000 in
theorem wr_do2 {t : Bool} (hc : HpC w0 X w hb sb b T A 2048 True s base) (hps : HpS (rb base)) (at_ : Int) (pc : Pc (ask (rb base)) at_ t) (bh' : Box w bh (ptr hb)) (ba' : Box w ba (.int .i64 at_)) (hs : s + 30729 < 4294967296) :
    Calls Tryz.prog 10 #[ptr sb, .func (.func 28) #[] #[ptr bh, ptr ba]] w fun e w' => ∃ i : Int, i = (if t then 0 else 1) ∧ e = .returned (.int .i64 i) ∧ (∃ T' A', HpC w0 X w' hb sb b T' A' 2048 True (s + 30729) base) ∧ Fr (fun k => tfoot sb b T k ∨ False) w w' := by
  have sy := hc.says []
  rw [homed_nil] at sy
  rcases pc with ⟨rfl, u, rfl, hu⟩ | ⟨rfl, hn⟩
  · refine (hc.same (g := 28) (fi := #[]) (ca := #[ptr bh, ptr ba]) (R := fun h P => h = .well ∧ P = []) (fun P h => h.2) (fun w3 f3 => acts_of (fun _ _ => by kernel_rfl) ((wrC2 (hc.toHp.still f3) (by rw [sy]; exact hps) u (by rw [sy]; exact hu) (f3.cell' bh'.c (fun x => x)) (f3.cell' ba'.c (fun x => x))).mono (by
      rintro e w4 ⟨rfl, f4⟩
      exact ⟨.well, rfl, .inl rfl, T, [], OnxX.of ((Onx.start (hc.hd.st.still f3)).quiet f4), rfl, rfl⟩))) hs).mono ?_
    rintro e w' ⟨⟨_, rfl⟩ | ⟨i, P, ⟨e, _⟩, _⟩, x⟩
    · exact ⟨0, rfl, rfl, x⟩
    · exact (well_errno e.symm).elim
  · refine (hc.same (g := 28) (fi := #[]) (ca := #[ptr bh, ptr ba]) (R := fun h _ => h = .errno 1) (fun P h => (well_errno h).elim) (fun w3 f3 => acts_of (fun _ _ => by kernel_rfl) ((wrC2no (hc.toHp.still f3) (by rw [sy]; exact hps) at_ (by rw [sy]; exact hn) (f3.cell' bh'.c (fun x => x)) (f3.cell' ba'.c (fun x => x))).mono (by
      rintro e w4 ⟨rfl, f4⟩
      exact ⟨.errno 1, How.ended_one _ _, .inr ⟨1, rfl⟩, T, [], OnxX.of ((Onx.start (hc.hd.st.still f3)).quiet f4), rfl⟩))) hs).mono ?_
    rintro e w' ⟨⟨e, _⟩ | ⟨i, P, e, rfl⟩, x⟩
    · exact (well_errno e).elim
    · obtain rfl := errno_inj e
      exact ⟨1, rfl, rfl, x⟩

set_option maxRecDepth 20000 in
theorem wr_do3 {t : Bool} (hc : HpC w0 X w hb sb b T A 2048 True s base) (hps : HpS (rb base)) (at_ : Int) (pc : Pc (ask (rb base)) at_ t) (bh' : Box w bh (ptr hb)) (ba' : Box w ba (.int .i64 at_)) (hs : s + 30729 < 4294967296) :
    Calls Tryz.prog 10 #[ptr sb, .func (.func 30) #[] #[ptr bh, ptr ba]] w fun e w' => ∃ i : Int, i = (if t then 3 else 1) ∧ e = .returned (.int .i64 i) ∧ (∃ T' A', HpC w0 X w' hb sb b T' A' 2048 True (s + 30729) base) ∧ Fr (fun k => tfoot sb b T k ∨ False) w w' := by
  have sy := hc.says []
  rw [homed_nil] at sy
  rcases pc with ⟨rfl, u, rfl, hu⟩ | ⟨rfl, hn⟩
  · refine (hc.same (g := 30) (fi := #[]) (ca := #[ptr bh, ptr ba]) (R := fun h _ => h = .errno 3) (fun P h => (well_errno h).elim) (fun w3 f3 => acts_of (fun _ _ => by kernel_rfl) ((wrC3 (hc.toHp.still f3) (by rw [sy]; exact hps) u (by rw [sy]; exact hu) (f3.cell' bh'.c (fun x => x)) (f3.cell' ba'.c (fun x => x))).mono (by
      rintro e w4 ⟨rfl, T', P', o⟩
      exact ⟨.errno 3, How.ended_one _ _, .inr ⟨3, rfl⟩, T', P', OnxX.of o, rfl⟩))) hs).mono ?_
    rintro e w' ⟨⟨e, _⟩ | ⟨i, P, e, rfl⟩, x⟩
    · exact (well_errno e).elim
    · obtain rfl := errno_inj e
      exact ⟨3, rfl, rfl, x⟩
  · refine (hc.same (g := 30) (fi := #[]) (ca := #[ptr bh, ptr ba]) (R := fun h _ => h = .errno 1) (fun P h => (well_errno h).elim) (fun w3 f3 => acts_of (fun _ _ => by kernel_rfl) ((wrC3no (hc.toHp.still f3) (by rw [sy]; exact hps) at_ (by rw [sy]; exact hn) (f3.cell' bh'.c (fun x => x)) (f3.cell' ba'.c (fun x => x))).mono (by
      rintro e w4 ⟨rfl, f4⟩
      exact ⟨.errno 1, How.ended_one _ _, .inr ⟨1, rfl⟩, T, [], OnxX.of ((Onx.start (hc.hd.st.still f3)).quiet f4), rfl⟩))) hs).mono ?_
    rintro e w' ⟨⟨e, _⟩ | ⟨i, P, e, rfl⟩, x⟩
    · exact (well_errno e).elim
    · obtain rfl := errno_inj e
      exact ⟨1, rfl, rfl, x⟩

set_option maxRecDepth 20000 in
theorem wr_do4 (hc : HpC w0 X w hb sb b T A 2048 True s base) (hps : HpS (rb base)) (ws : Int) (bh' : Box w bh (ptr hb)) (ba' : Box w ba (.int .i64 ws)) (hs : s + 30729 < 4294967296) :
    Calls Tryz.prog 10 #[ptr sb, .func (.func 31) #[] #[ptr bh, ptr ba]] w fun e w' => ∃ i : Int, (i = 1 ↔ ¬ (1 ≤ ws ∧ ws ≤ 512)) ∧ e = .returned (.int .i64 i) ∧ (∃ T' A', HpC w0 X w' hb sb b T' A' 2048 True (s + 30729) base) ∧ Fr (fun k => tfoot sb b T k ∨ False) w w' := by
  have sy := hc.says []
  rw [homed_nil] at sy
  by_cases hg : 1 ≤ ws ∧ ws ≤ 512
  · obtain ⟨x, rfl⟩ : ∃ x : Nat, ws = x := ⟨ws.toNat, by omega⟩
    refine (hc.same (g := 31) (fi := #[]) (ca := #[ptr bh, ptr ba]) (R := fun h _ => h = .errno 3 ∨ h = .errno 60) (fun P h => by rcases h with h | h <;> exact (well_errno h).elim) (fun w3 f3 => acts_of (fun _ _ => by kernel_rfl) ((wrC4 (hc.toHp.still f3) (by rw [sy]; exact hps) x (by omega) (by omega) (f3.cell' bh'.c (fun x => x)) (f3.cell' ba'.c (fun x => x))).mono (by
      rintro e w4 (⟨rfl, T', P', o⟩ | ⟨rfl, f4⟩)
      · exact ⟨.errno 3, How.ended_one _ _, .inr ⟨3, rfl⟩, T', P', OnxX.of o, .inl rfl⟩
      · exact ⟨.errno 60, How.ended_one _ _, .inr ⟨60, rfl⟩, T, [], OnxX.of ((Onx.start (hc.hd.st.still f3)).quiet f4), .inr rfl⟩))) hs).mono ?_
    rintro e w' ⟨⟨e, _⟩ | ⟨i, P, e, rfl⟩, x⟩
    · rcases e with e | e <;> exact (well_errno e).elim
    · refine ⟨i, ?_, rfl, x⟩
      rcases e with e | e
      · obtain rfl := errno_inj e
        exact ⟨fun h => by omega, fun h => absurd hg h⟩
      · obtain rfl := errno_inj e
        exact ⟨fun h => by omega, fun h => absurd hg h⟩
  · refine (hc.same (g := 31) (fi := #[]) (ca := #[ptr bh, ptr ba]) (R := fun h _ => h = .errno 1) (fun P h => (well_errno h).elim) (fun w3 f3 => acts_of (fun _ _ => by kernel_rfl) ((wrC4no ws (by omega) (f3.cell' bh'.c (fun x => x)) (f3.cell' ba'.c (fun x => x))).mono (by
      rintro e w4 ⟨rfl, rfl⟩
      exact ⟨.errno 1, How.ended_one _ _, .inr ⟨1, rfl⟩, T, [], OnxX.of (Onx.start (hc.hd.st.still f3)), rfl⟩))) hs).mono ?_
    rintro e w' ⟨⟨e, _⟩ | ⟨i, P, e, rfl⟩, x⟩
    · exact (well_errno e).elim
    · obtain rfl := errno_inj e
      exact ⟨1, ⟨fun _ => hg, fun _ => rfl⟩, rfl, x⟩
end

/-- What is no piece's place. -/
theorem noPiece_of {K : Nat → Nat} {ls : List (Nat × Nat)} (l : Lists K ls) (at_ : Int) (h : ∀ y ∈ ls, ((160 + y.1 * 8 : Nat) : Int) ≠ at_) : NoPiece K at_ := by
  intro u hu e
  unfold begs
  refine decide_eq_false fun ⟨h0, _⟩ => ?_
  exact h _ (l.all u h0) (by rw [e]; simp)
end
end Go.Proofs.YtgehfmonfofbiaaGreatDoor
