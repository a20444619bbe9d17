/- Joined: GHk GHc GHd GHe. -/
import Derived.Test.YtflnaiijdpihcaaGreatDoorP08
namespace Go.Proofs.YtflnaiijdpihcaaGreatDoor
open Go.RowKit

section
structure HpS (nu : Nat) (f : Nat → Int) : Prop where
  wd : Words64 nu f
  mrk : f 0 = 7522525887014645809
  inv : Inv nu (fre nu f) (ask nu f) (fun _ => 0)
  fr : f 1 = ((8 * (nu - inP nu (ask nu f)) : Nat) : Int)

structure Took (nu : Nat) (f : Nat → Int) (x u : Nat) (g : Nat → Int) : Prop where
  st : HpS nu g
  blk : ∃ c, u = c * 2 ^ lv x ∧ c < nu / 2 ^ lv x
  was : ask nu f u = 0
  ak : ask nu g = setK (ask nu f) u x
  root : ∀ i, 2 ≤ i → i < 18 → g i = f i
  zero : ∀ i, fi nu + 8 * u ≤ i → i < fi nu + 8 * u + 8 * 2 ^ lv x → g i = 0
  keep : ∀ i, fi nu ≤ i → (i < fi nu + 8 * u ∨ fi nu + 8 * u + 8 * 2 ^ lv x ≤ i) → g i = f i

theorem ask_own {nu : Nat} {f g : Nat → Int} (h : ∀ i, i < fi nu → g i = f i) : ask nu g = ask nu f := by
  funext u
  have fg := fi_ge nu
  by_cases hu : u < 4 * qa nu
  · rw [ask_of hu, ask_of hu, h _ (by omega)]
  · rw [ask_no hu, ask_no hu]
theorem fre_own {nu : Nat} {f g : Nat → Int} (h : ∀ i, i < fi nu → g i = f i) : fre nu g = fre nu f := by
  funext k b
  unfold fre
  by_cases hb : b < 64 * gr nu k
  · have := Bw_lt hb
    have fg := fi_ge nu
    rw [h _ (by omega)]
  · simp [hb]
theorem HpS.own {nu : Nat} {f g : Nat → Int} (s : HpS nu f) (h : ∀ i, i < fi nu → g i = f i) : HpS nu g :=
  have f18 : 18 ≤ fi nu := by have := fi_ge nu; have := aw_ge nu; omega
  ⟨fun i hi => by rw [h i hi]; exact s.wd i hi, by rw [h 0 (by omega)]; exact s.mrk, by rw [ask_own h, fre_own h]; exact s.inv, by rw [ask_own h, h 1 (by omega)]; exact s.fr⟩

theorem took_of {nu : Nat} (hn4 : nu ≤ 4000) {f g1 g2 g4 : Nat → Int} {x c : Nat} (s : HpS nu f) (h1 : 1 ≤ x) (h5 : x ≤ 512) (hc : c < nu / 2 ^ lv x) (b1 : Bits nu f g1) (i1 : Inv nu (fre nu g1) (ask nu f) (ind (lv x) c))
    (w2 : Words64 nu g2) (f2 : fre nu g2 = fre nu g1) (a2 : ask nu g2 = setK (ask nu g1) (c * 2 ^ lv x) x) (o2 : ∀ i, (i < aw nu ∨ aw nu + qa nu ≤ i) → g2 i = g1 i)
    (e4 : ∀ i, i < fi nu → g4 i = upd g2 1 (f 1 - (8 * 2 ^ lv x : Nat)) i) (z4 : ∀ i, fi nu + 8 * (c * 2 ^ lv x) ≤ i → i < fi nu + 8 * (c * 2 ^ lv x) + 8 * 2 ^ lv x → g4 i = 0)
    (k4 : ∀ i, fi nu ≤ i → (i < fi nu + 8 * (c * 2 ^ lv x) ∨ fi nu + 8 * (c * 2 ^ lv x) + 8 * 2 ^ lv x ≤ i) → g4 i = g2 i) : Took nu f x (c * 2 ^ lv x) g4 := by
  have fg := fi_ge nu; have ag := aw_ge nu
  have hin := block_in hc
  have K0 : ask nu f (c * 2 ^ lv x) = 0 := i1.unasked hin (by unfold ind; rw [if_pos (block_self _ _)])
  have i2 : Inv nu (fre nu g2) (ask nu g2) (fun _ => 0) := by
    rw [f2, a2, b1.ak]
    exact i1.lay hc rfl (by omega) h5 (fun u _ => by simp) (fun _ _ _ => rfl)
  have p2 := inP_lay hc rfl (by omega : x ≠ 0) K0
  have r2 := i2.room
  rw [a2, b1.ak, p2] at r2
  have r1 := s.fr
  have own : ∀ i, i < fi nu → i ≠ 1 → g4 i = g2 i := fun i hi hn => by rw [e4 i hi, upd_other _ _ hn]
  have ak4 : ask nu g4 = ask nu g2 := by rw [ask_own e4]; exact ask_upd _ (.inl (by omega))
  have fr4 : fre nu g4 = fre nu g2 := by rw [fre_own e4]; exact fre_upd _ (.inl (by omega))
  refine ⟨⟨fun i hi => ?_, ?_, by rw [ak4, fr4]; exact i2, ?_⟩, ⟨c, rfl, hc⟩, K0, by rw [ak4, a2, b1.ak], fun i h2 h18 => ?_, z4, fun i hi hn => by rw [k4 i hi hn, o2 i (.inr (by omega)), b1.out i (.inr (by omega))]⟩
  · by_cases e : i = 1
    · subst e; rw [e4 1 hi, upd_same, r1]; omega
    · rw [own i hi e]; exact w2 i hi
  · rw [own 0 (by omega) (by omega), o2 0 (.inl (by omega)), b1.out 0 (.inl (by omega))]; exact s.mrk
  · rw [e4 1 (by omega), upd_same, r1, ak4, a2, b1.ak, p2]; omega
  · rw [own i (by omega) (by omega), o2 i (.inl (by omega)), b1.out i (.inl (by omega))]

def Zd (nu sz : Nat) (w3 : World) (sb b : Nat) (T3 : Tay) (A : Ab) (P3 : List (Int × Int)) (u m : Nat) (wr : World) : Prop := ∃ T' P', Onx w3 sb b T3 wr T' sz A P' false ∧ P'.length ≤ P3.length + m ∧ (∀ j, (j < fi nu + 8 * u ∨ fi nu + 8 * u + m ≤ j) → says P' A j = says P3 A j) ∧ ∀ j, fi nu + 8 * u ≤ j → j < fi nu + 8 * u + m → says P' A j = 0

section
variable {nu sz : Nat} {w : World} {hb sb b : Nat} {T : Tay} {A : Ab} {P : List (Int × Int)}

set_option maxRecDepth 20000 in
set_option maxHeartbeats 4000000 in
theorem h_takeP (h : Hp nu sz w hb sb b T A P) (s : HpS nu (says P A)) (x : Nat) (h1 : 1 ≤ x) (h5 : x ≤ 512) (hm : P.length + 10 + 8 * 2 ^ lv x ≤ 6144) :
    Calls Tryz.prog 107 #[ptr hb, .int .i64 x] w fun e w' => (∃ (u : Nat) (g : Nat → Int), e = .returned (.int .i64 (fi nu + u * 8)) ∧ To sz w sb b T A w' g (P.length + 10 + 8 * 2 ^ lv x) ∧ Took nu (says P A) x u g) ∨
      (e = .panicked (errnoQ 60) ∧ Still w w' ∧ ∀ j, lv x ≤ j → j < 7 → ∀ c, fre nu (says P A) j c = false) := by
  have hl := lv_le x
  have LV := h_level x h1 h5 w
  obtain ⟨g1, g2, g3, g4, g5, g6⟩ := h.hp.geo.b
  have hp0 := two_pos (lv x)
  have HA := h_halve h s.wd (by omega) s.inv (lv x) (by omega)
  have hp6 : 2 ^ lv x ≤ 64 := Nat.pow_le_pow_right (n := 2) (by omega) hl
  obtain ⟨y, hy⟩ : ∃ y, 2 ^ lv x = y := ⟨_, rfl⟩
  have hye : ((2 : Int) ^ lv x) = y := by rw [← hy]; simp
  have HHA := hide HA; have HH := hide h; have HS := hide s
  clear HA h s
  go_enter Tryz.func107, Tryz.ntmps107
  go_wp2_with (first | (go_at_call 118; refine LV.mono ?_; rintro e w' ⟨rfl, hh⟩; replace hh := hh.symm; subst hh) | fail)
  refine (unhide HHA).mono ?_
  clear HHA
  rintro e w1 (⟨c, g1, rfl, hc, ⟨T1, P1, o1, eg, el1⟩, bg, ig⟩ | ⟨rfl, D2, hz2⟩)
  · subst eg
    have h1' := (unhide HH).call o1
    have hin := block_lt hc
    have SA := h_setAsked h1' bg.wd (by omega) (c * 2 ^ lv x) x (by omega) h5
    rw [hy] at SA hin hp6 hp0 hm
    have e1 : ((c * y : Nat) : Int) = (c : Int) * y := by simp
    rw [e1] at SA
    have cy : (c : Int) * y < nu := by rw [← e1]; omega
    have cy0 : 0 ≤ (c : Int) * y := by rw [← e1]; omega
    have HSA := hide SA; have HO1 := hide o1; have HX1 := hide (And.intro hc (And.intro bg ig)); have HH1 := hide h1'
    clear SA o1 hc bg ig h1'
    go_wp2_with fail
    refine (unhide HSA).mono ?_
    clear HSA
    rintro e w2 ⟨rfl, g2', ⟨T2, P2, o2, eg2, el2⟩, x2⟩
    obtain ⟨u, hu⟩ : ∃ u, c * y = u := ⟨_, rfl⟩
    have e1u : (c : Int) * y = u := by rw [← hu]; simp
    simp only [e1u]
    have hu4 : u + y ≤ nu := by omega
    have h2 := (unhide HH1).call o2
    have c0 := h2.hp.c0; have c10 := h2.hp.c10
    have LD : ∀ q, Calls Tryz.prog 62 #[ptr sb, .int .i64 1] (w2.drewN q) _ := fun q => h2.reads q 1 (by omega)
    obtain ⟨z, hz⟩ : ∃ z : Nat, says P2 A 1 = z ∧ 8 * y ≤ z ∧ z ≤ 8 * nu := by
      obtain ⟨hc, bg, ig⟩ := unhide HX1
      refine ⟨8 * (nu - inP nu (ask nu (says P A))), ?_⟩
      have s := unhide HS
      subst eg2
      rw [x2.2.2.2 1 (.inl (by omega)), bg.out 1 (.inl (by omega)), s.fr]
      have K0 : ask nu (says P A) (c * 2 ^ lv x) = 0 := ig.unasked (block_in hc) (by unfold ind; rw [if_pos (block_self _ _)])
      have p2 := inP_lay hc rfl (by omega : x ≠ 0) K0
      have r2 := (ig.lay (hole' := fun _ => 0) hc rfl (by omega) h5 (fun u _ => by simp) (fun _ _ _ => rfl)).room
      rw [p2, hy] at r2
      exact ⟨rfl, by omega, by omega⟩
    obtain ⟨hz, hz8, hz4⟩ := hz
    rw [hz] at LD
    have PU : ∀ q, Calls Tryz.prog 56 #[ptr sb, .int .i64 1, u64 ((z : Int) - 8 * y)] (w2.drewN q) _ := fun q => (h2.still ((Fr.refl _ w2).drewN q)).put (by omega) 1 (by omega) ((z : Int) - 8 * y)
    have hw8 : IntKind.u64.wrap (8 * (y : Int)) = 8 * y := by rw [IntKind.wrap_u64]; omega
    have hw9 : IntKind.u64.wrap ((z : Int) - 8 * y) = (z : Int) - 8 * y := by rw [IntKind.wrap_u64]; omega
    have HLD := @hide _ LD; have HPU := @hide _ PU
    have HH2 := hide h2; have HO2 := hide o2; have HX2 := hide x2
    clear LD PU h2 o2 x2
    go_wp2_with fail
    refine region_tailP 12 (by kernel_rfl) (by kernel_rfl) ?_
    simp only [List.take_succ_cons, List.take_zero, List.drop_succ_cons, List.drop_zero]
    repeat (go_big_quiet_step (first | (go_at_call 62; exact Calls.quiet_of_same (unhide HLD _))))
    refine wpQuiet_nil ?_
    rintro _ ⟨nq, rfl⟩
    clear HLD
    go_wp2_with fail
    refine (unhide HPU nq).mono ?_
    clear HPU
    rintro e w3 ⟨rfl, T3, P3, o3, eg3, el3⟩
    have o3' := o3.after ((Fr.refl (fun _ => False) w2).drewN nq)
    have h3 := (unhide HH2).call o3'
    have PL := h_place hb u (by omega) w3 (by omega) h3.hp.c10
    have HO3 := hide o3'; have HH3 := hide h3; have HEG3 := hide eg3
    clear o3 o3' h3 eg3 c0 c10 hw8 hw9
    go_wp2_with (first | (go_at_call 68; refine PL.mono ?_; rintro e w' ⟨rfl, hh⟩; replace hh := hh.symm; subst hh) | fail)
    clear PL
    have hw8 : wrap64 (8 * (y : Int)) = 8 * y := small_w64 (by omega)
    go_loopw [8] (fun i wr => ∃ m : Nat, m ≤ 8 * y ∧ i = .int .i64 (fi nu + u * 8 + m) ∧ Zd nu sz w3 sb b T3 A P3 u m wr) (fun i wr => 100000 - (intOf i).toNat)
    case atStart => exact ⟨0, by omega, by simp, T3, P3, Onx.start (unhide HH3).st, by omega, fun _ _ => rfl, fun j h1 h2 => by omega⟩
    case round =>
      obtain ⟨m, hm', rfl, T', P', o, el, ow, zr⟩ := hrel
      have h4 := (unhide HH3).call o
      have c0 := h4.hp.c0
      by_cases hlt : m < 8 * y
      · have LD := h4.load (fi nu + 8 * u + m) (by omega)
        have PU := h4.put (by omega) (fi nu + 8 * u + m) (by omega) 0
        have e2 : ((fi nu + 8 * u + m : Nat) : Int) = (fi nu : Int) + (u : Int) * 8 + m := by omega
        rw [e2] at LD PU
        have HLD := hide LD; have HPU := hide PU
        have HZ := hide (And.intro o (And.intro ow zr))
        clear LD PU o ow zr h4
        by_cases hz0 : says P' A (fi nu + 8 * u + m) = 0
        · rw [hz0] at HLD
          have HZ0 := hide hz0
          clear hz0 HPU
          go_wp2_with (go_at_call 62; refine (unhide HLD).mono ?_; rintro e w' ⟨rfl, hh⟩; replace hh := hh.symm; subst hh)
          obtain ⟨o, ow, zr⟩ := unhide HZ
          refine ⟨⟨m + 1, by omega, by go_num, T', P', o, by omega, fun j hj => ow j (by omega), fun j h1 h2 => ?_⟩, by simp [intOf]; omega⟩
          by_cases e : j = fi nu + 8 * u + m
          · rw [e]; exact unhide HZ0
          · exact zr j h1 (by omega)
        · have hz1 : (says P' A (fi nu + 8 * u + m) != 0) = true := by simp; exact hz0
          obtain ⟨v, hv⟩ : ∃ v, says P' A (fi nu + 8 * u + m) = v := ⟨_, rfl⟩
          rw [hv] at hz1 HLD
          clear hz0 hv
          go_wp2_with (first | (go_at_call 62; refine (unhide HLD).mono ?_; rintro e w' ⟨rfl, hh⟩; replace hh := hh.symm; subst hh) | fail)
          refine (unhide HPU).mono ?_
          clear HPU HLD
          rintro e w5 ⟨rfl, T5, P5, o5, eg5, el5⟩
          have HO5 := hide (And.intro o5 eg5)
          clear o5 eg5
          go_wp2
          obtain ⟨o, ow, zr⟩ := unhide HZ
          obtain ⟨o5, eg5⟩ := unhide HO5
          refine ⟨⟨m + 1, by omega, by go_num, T5, P5, o.trans o5, by omega, fun j hj => ?_, fun j h1 h2 => ?_⟩, by simp [intOf]; omega⟩
          · rw [eg5, upd_other _ _ (by omega)]; exact ow j (by omega)
          · rw [eg5]
            by_cases e : j = fi nu + 8 * u + m
            · rw [e, upd_same]
            · rw [upd_other _ _ e]; exact zr j h1 (by omega)
      · have : m = 8 * y := by omega
        subst this
        have HZ := hide (And.intro o (And.intro ow zr))
        clear o ow zr h4
        go_wp2
        go_ret
        obtain ⟨o, ow, zr⟩ := unhide HZ
        obtain ⟨hc, bg, ig⟩ := unhide HX1
        have s := unhide HS
        have x2 := unhide HX2
        subst eg2
        refine .inl ⟨u, says P' A, rfl, ⟨T', P', (((unhide HO1).trans (unhide HO2)).trans (unhide HO3)).trans o, rfl, by rw [hy]; omega⟩, ?_⟩
        have huu : u = c * 2 ^ lv x := by rw [hy]; exact hu.symm
        rw [huu]
        rw [← hy] at x2
        refine took_of (by omega) s h1 h5 hc bg ig x2.1 x2.2.1 x2.2.2.1 x2.2.2.2 (fun i hi => ?_) (fun i h1 h2 => zr i (by rw [huu]; exact h1) (by rw [huu, ← hy]; exact h2)) (fun i hi hn => by
          rw [ow i (by rw [huu, ← hy]; exact hn), unhide HEG3, upd_other _ _ (by have := fi_ge nu; have := aw_ge nu; omega)])
        rw [ow i (.inl (by omega)), unhide HEG3]
        congr 1
        rw [hy, ← bg.out 1 (.inl (by omega)), ← x2.2.2.2 1 (.inl (by omega)), hz]
        simp
  · exact ⟨rfl, .inr ⟨rfl, D2, hz2⟩⟩

structure Gave (nu : Nat) (f : Nat → Int) (u : Nat) (g : Nat → Int) : Prop where
  st : HpS nu g
  ak : ask nu g = setK (ask nu f) u 0
  root : ∀ i, 2 ≤ i → i < 18 → g i = f i
  keep : ∀ i, fi nu ≤ i → g i = f i

theorem begs_of {nu : Nat} {F : Nat → Nat → Bool} {K : Nat → Nat} (i : Inv nu F K (fun _ => 0)) {u : Nat} (h : K u ≠ 0) : begs nu K u = true := by
  unfold begs
  obtain ⟨_, a2, a3, a4⟩ := i.asks u h
  simp [h, a2, a3, a4]

theorem gave_of {nu : Nat} {f g1 g2 g3 : Nat → Int} {u x k : Nat} (s : HpS nu f) (hx : ask nu f u = x) (h0 : x ≠ 0) (hk : lv x = k)
    (_w1 : Words64 nu g1) (_f1 : fre nu g1 = fre nu f) (a1 : ask nu g1 = setK (ask nu f) u 0) (o1 : ∀ i, (i < aw nu ∨ aw nu + qa nu ≤ i) → g1 i = f i)
    (e2 : g2 = upd g1 1 (f 1 + (8 * 2 ^ k : Nat))) (b3 : Bits nu g2 g3) (i3 : Inv nu (fre nu g3) (setK (ask nu f) u 0) (fun _ => 0)) : Gave nu f u g3 := by
  have fg := fi_ge nu; have ag := aw_ge nu
  have hne : ask nu f u ≠ 0 := by rw [hx]; exact h0
  have p := inP_lift s.inv hne
  rw [hx, hk] at p
  have r := s.inv.room
  have r1 := s.fr
  have a2 : ask nu g2 = ask nu g1 := by rw [e2]; exact ask_upd _ (.inl (by omega))
  have a3 : ask nu g3 = setK (ask nu f) u 0 := by rw [b3.ak, a2, a1]
  have hj : ∀ i, i < 18 → i ≠ 1 → g3 i = f i := fun i hi hn => by rw [b3.out i (.inl hi), e2, upd_other _ _ hn]; exact o1 i (.inl (by omega))
  refine ⟨⟨b3.wd, by rw [hj 0 (by omega) (by omega)]; exact s.mrk, by rw [a3]; exact i3, ?_⟩, a3, fun i h2 h18 => hj i h18 (by omega), fun i hi => by rw [b3.out i (.inr (by omega)), e2, upd_other _ _ (by omega)]; exact o1 i (.inr (by omega))⟩
  rw [b3.out 1 (.inl (by omega)), e2, upd_same, r1, a3]
  omega

set_option maxRecDepth 20000 in
set_option maxHeartbeats 4000000 in
theorem h_give (h : Hp nu sz w hb sb b T A P) (s : HpS nu (says P A)) (hm : P.length + 10 ≤ 6144) (u : Nat) (hu : ask nu (says P A) u ≠ 0) :
    Calls Tryz.prog 64 #[ptr hb, .int .i64 (fi nu + u * 8)] w fun e w' => e = .returned (.tuple #[]) ∧ ∃ g, To sz w sb b T A w' g (P.length + 9) ∧ Gave nu (says P A) u g := by
  obtain ⟨g1, g2, g3, g4, g5, g6⟩ := h.hp.geo.b
  obtain ⟨a1, a2, a3, a4⟩ := s.inv.asks u hu
  have PC := h_piece h.hp h.reads s.wd u a1
  have hbg := begs_of s.inv hu
  obtain ⟨lf1, lf2, lf3⟩ := s.inv.lift hu
  obtain ⟨x, hx⟩ : ∃ x, ask nu (says P A) u = x := ⟨_, rfl⟩
  rw [hx] at PC lf1 lf2 lf3 a2 hu
  have hl := lv_le x
  have hp6 : 2 ^ lv x ≤ 64 := Nat.pow_le_pow_right (n := 2) (by omega) hl
  obtain ⟨y, hy⟩ : ∃ y, 2 ^ lv x = y := ⟨_, rfl⟩
  have hye : ((2 : Int) ^ lv x) = y := by rw [← hy]; simp
  rw [hy] at hp6
  have HPC := hide PC; have HH := hide h; have HS := hide s; have HL := hide (And.intro lf1 (And.intro lf2 lf3)); have HX := hide hx; have HBG := hide hbg
  have hr1 := s.fr
  have HR1 := hide hr1
  clear PC h s lf1 lf2 lf3 hx hbg a3 a4 hr1
  go_enter Tryz.func64, Tryz.ntmps64
  go_wp2_with fail
  refine (unhide HPC).mono ?_
  clear HPC
  rintro e w1 ⟨⟨_, rfl⟩ | ⟨hb', _⟩, D⟩
  · have h1 := (unhide HH).still D.still
    have LV := h_level x (by omega) a2 w1
    have SA : Calls Tryz.prog 119 #[ptr hb, .int .i64 u, .int .i64 0] w1 _ := h_setAsked h1 (unhide HS).wd (by omega) u 0 a1 (by omega)
    have HSA := hide SA; have HD := hide D.still; have HH1 := hide h1
    clear SA D h1
    go_wp2_with (first | (go_at_call 118; refine LV.mono ?_; rintro e w' ⟨rfl, hh⟩; replace hh := hh.symm; subst hh) | fail)
    refine (unhide HSA).mono ?_
    clear HSA LV
    rintro e w2 ⟨rfl, g2', ⟨T2, P2, o2, eg2, el2⟩, x2⟩
    subst eg2
    have h2 := (unhide HH1).call o2
    have c0 := h2.hp.c0
    have LD : ∀ q, Calls Tryz.prog 62 #[ptr sb, .int .i64 1] (w2.drewN q) _ := fun q => h2.reads q 1 (by omega)
    obtain ⟨z, hz, hz4⟩ : ∃ z : Nat, says P2 A 1 = z ∧ z ≤ 8 * nu := by
      refine ⟨8 * (nu - inP nu (ask nu (says P A))), ?_, by omega⟩
      rw [x2.2.2.2 1 (.inl (by omega))]; exact unhide HR1
    rw [hz] at LD
    have PU : ∀ q, Calls Tryz.prog 56 #[ptr sb, .int .i64 1, u64 ((z : Int) + 8 * y)] (w2.drewN q) _ := fun q => (h2.still ((Fr.refl _ w2).drewN q)).put (by omega) 1 (by omega) ((z : Int) + 8 * y)
    have hw8 : IntKind.u64.wrap (8 * (y : Int)) = 8 * y := by rw [IntKind.wrap_u64]; omega
    have hw9 : IntKind.u64.wrap ((z : Int) + 8 * y) = (z : Int) + 8 * y := by rw [IntKind.wrap_u64]; omega
    have HLD := @hide _ LD; have HPU := @hide _ PU
    have HH2 := hide h2; have HO2 := hide o2; have HX2 := hide x2; have HZ := hide hz
    clear LD PU h2 o2 x2 hz
    go_wp2_with fail
    refine region_tailP 12 (by kernel_rfl) (by kernel_rfl) ?_
    simp only [List.take_succ_cons, List.take_zero, List.drop_succ_cons, List.drop_zero]
    repeat (go_big_quiet_step (first | (go_at_call 62; exact Calls.quiet_of_same (unhide HLD _))))
    refine wpQuiet_nil ?_
    rintro _ ⟨nq, rfl⟩
    clear HLD
    go_wp2_with fail
    refine (unhide HPU nq).mono ?_
    clear HPU
    rintro e w3 ⟨rfl, T3, P3, o3, eg3, el3⟩
    have o3' := o3.after ((Fr.refl (fun _ => False) w2).drewN nq)
    have h3 := (unhide HH2).call o3'
    have x2 := unhide HX2
    have wd3 : Words64 nu (says P3 A) := by
      rw [eg3]
      have := words_upd x2.1 1 (z + 8 * y) (by omega)
      rw [show ((z + 8 * y : Nat) : Int) = (z : Int) + 8 * y by omega] at this
      exact this
    have fr3 : fre nu (says P3 A) = fre nu (says P A) := by rw [eg3, fre_upd _ (.inl (by omega))]; exact x2.2.1
    obtain ⟨lf1, lf2, lf3⟩ := unhide HL
    have JN := h_join h3 wd3 (by omega) (lv x) (u / 2 ^ lv x) (by omega) (by rw [fr3]; exact lf1) lf2
    have ed : ((u / 2 ^ lv x : Nat) : Int) = (u : Int) / y := by rw [hy]; omega
    rw [ed] at JN
    have HJN := hide JN; have HO3 := hide o3'; have HEG3 := hide eg3
    clear JN o3 o3' h3 eg3 c0 hw8 hw9 x2 wd3 fr3 lf1 lf2 lf3
    go_wp2_with fail
    refine (unhide HJN).mono ?_
    clear HJN
    rintro e w4 ⟨rfl, g4, t4, b4, i4⟩
    have HX4 := hide (And.intro t4 (And.intro b4 i4))
    clear t4 b4 i4
    go_wp2
    go_end0
    obtain ⟨t4, b4, i4⟩ := unhide HX4
    have x2 := unhide HX2
    refine ⟨rfl, g4, ((To.trans ((unhide HO2).trans (unhide HO3)) t4).after (unhide HD)).le (by omega), ?_⟩
    refine gave_of (unhide HS) (unhide HX) hu rfl x2.1 x2.2.1 x2.2.2.1 x2.2.2.2 ?_ b4 i4
    rw [unhide HEG3]
    congr 1
    rw [hy, ← x2.2.2.2 1 (.inl (by omega)), unhide HZ]
    simp
  · have := unhide HBG
    rw [this] at hb'; cases hb'

end
end

section
structure CovL (nu : Nat) (w : World) (hb cb ab sb b : Nat) (T : Tay) (g : Nat → Nat) (fr : Nat) : Prop where
  c0 : w.cell? ⟨cb, 0, none⟩ = some (ptr hb)
  c1 : w.cell? ⟨cb, 1, none⟩ = some (.slice (some ⟨ab, 0, none⟩) nu nu)
  c2 : w.cell? ⟨cb, 2, none⟩ = some (.int .i64 fr)
  by_ : ∀ u, u < nu → w.cell? ⟨ab, u, none⟩ = some (.int .i64 (g u))
  z1 : ∀ o, w.frozen? ⟨cb, o, none⟩ = false
  z2 : ∀ o, w.frozen? ⟨ab, o, none⟩ = false
  ne : cb ≠ ab
  n1 : ¬ tfoot sb b T cb
  n2 : ¬ tfoot sb b T ab
  h1 : cb ≠ hb ∧ ab ≠ hb
  h2 : cb ≠ 0 ∧ ab ≠ 0
  hn : 0 < nu ∧ nu ≤ 4000

def Cb (cb ab : Nat) (w w' : World) : Prop := Fr (fun k => k = cb ∨ k = ab) w w'

section
variable {nu sz : Nat} {w w' w1 : World} {hb cb ab sb b : Nat} {T : Tay} {A : Ab} {P : List (Int × Int)} {g : Nat → Nat} {fr : Nat}

theorem CovL.still (h : CovL nu w hb cb ab sb b T g fr) (hf : Still w w') : CovL nu w' hb cb ab sb b T g fr :=
  { h with c0 := hf.cell' h.c0 (fun x => x), c1 := hf.cell' h.c1 (fun x => x), c2 := hf.cell' h.c2 (fun x => x), by_ := fun u hu => hf.cell' (h.by_ u hu) (fun x => x),
           z1 := fun o => by rw [World.frozen?_of_block (a := ⟨cb, o, none⟩) (hf.block cb (World.block_lt_of_cell? _ _ h.c0) (fun x => x))]; exact h.z1 o,
           z2 := fun o => by rw [World.frozen?_of_block (a := ⟨ab, o, none⟩) (hf.block ab (World.block_lt_of_cell? _ _ (h.by_ 0 h.hn.1)) (fun x => x))]; exact h.z2 o }
theorem Hp.cov (h : Hp nu sz w hb sb b T A P) (c : CovL nu w hb cb ab sb b T g fr) (hf : Cb cb ab w w') : Hp nu sz w' hb sb b T A P :=
  h.turn hf (fun k hk => by rcases hk with rfl | rfl; exact c.n1; exact c.n2) (fun hk => by rcases hk with e | e; exact c.h1.1 e.symm; exact c.h1.2 e.symm) (fun hk => by rcases hk with e | e; exact c.h2.1 e.symm; exact c.h2.2 e.symm)
theorem Cb.refl (w : World) : Cb cb ab w w := Fr.refl _ w
theorem Cb.trans (a : Cb cb ab w w') (c : Cb cb ab w' w1) : Cb cb ab w w1 := Fr.trans a c
theorem Cb.dr (a : Cb cb ab w w') (c : Still w' w1) : Cb cb ab w w1 := Fr.trans' a c (fun _ x => x.elim)

theorem CovL.inc (h : CovL nu w hb cb ab sb b T g fr) (u x : Nat) (hu : u < nu) : CovL nu (w.setCell ⟨ab, u, none⟩ (.int .i64 x)) hb cb ab sb b T (fun v => if v = u then x else g v) fr ∧ Cb cb ab w (w.setCell ⟨ab, u, none⟩ (.int .i64 x)) := by
  have oc : ∀ o, (w.setCell ⟨ab, u, none⟩ (.int .i64 x)).cell? ⟨cb, o, none⟩ = w.cell? ⟨cb, o, none⟩ := fun o => World.cell?_setCell_other _ _ _ _ (by simp; exact fun e => absurd e.symm h.ne)
  refine ⟨{ h with c0 := ?_, c1 := ?_, c2 := ?_, by_ := fun v hv => ?_, z1 := fun o => ?_, z2 := fun o => ?_ }, (Fr.refl _ w).setCell (.inl (.inr rfl)) _⟩
  · rw [oc]; exact h.c0
  · rw [oc]; exact h.c1
  · rw [oc]; exact h.c2
  · by_cases e : v = u
    · subst e; rw [if_pos rfl]; exact World.cell?_setCell_same _ _ _ (h.by_ v hu)
    · rw [if_neg e, World.cell?_setCell_other _ _ _ _ (by simp <;> omega)]; exact h.by_ v hv
  · rw [World.frozen?_setCell]; exact h.z1 o
  · rw [World.frozen?_setCell]; exact h.z2 o
theorem CovL.more (h : CovL nu w hb cb ab sb b T g fr) (x : Nat) : CovL nu (w.setCell ⟨cb, 2, none⟩ (.int .i64 x)) hb cb ab sb b T g x ∧ Cb cb ab w (w.setCell ⟨cb, 2, none⟩ (.int .i64 x)) := by
  refine ⟨{ h with c0 := ?_, c1 := ?_, c2 := World.cell?_setCell_same _ _ _ h.c2, by_ := fun v hv => ?_, z1 := fun o => ?_, z2 := fun o => ?_ }, (Fr.refl _ w).setCell (.inl (.inl rfl)) _⟩
  · rw [World.cell?_setCell_other _ _ _ _ (by simp)]; exact h.c0
  · rw [World.cell?_setCell_other _ _ _ _ (by simp)]; exact h.c1
  · rw [World.cell?_setCell_other _ _ _ _ (by simp; exact fun e => absurd e h.ne)]; exact h.by_ v hv
  · rw [World.frozen?_setCell]; exact h.z1 o
  · rw [World.frozen?_setCell]; exact h.z2 o
theorem CovL.same {g' : Nat → Nat} (h : CovL nu w hb cb ab sb b T g fr) (e : ∀ u, u < nu → g' u = g u) : CovL nu w hb cb ab sb b T g' fr := { h with by_ := fun u hu => by rw [e u hu]; exact h.by_ u hu }

set_option maxRecDepth 20000 in
set_option maxHeartbeats 2000000 in
theorem c_lay (h : CovL nu w hb cb ab sb b T g fr) (k c : Nat) (hk : k < 7) (hc : c < nu / 2 ^ k) (gb : ∀ v, v < nu → g v ≤ 1000) :
    Calls Tryz.prog 145 #[ptr cb, .int .i64 (c * 2 ^ k : Nat), .int .i64 k] w fun e w' => e = .returned (.bool true) ∧ CovL nu w' hb cb ab sb b T (fun v => g v + ind k c v) fr ∧ Cb cb ab w w' := by
  have hin := block_lt hc
  have hn4 := h.hn.2
  have hp6 : 2 ^ k ≤ 64 := Nat.pow_le_pow_right (n := 2) (j := 6) (by omega) (by omega)
  have hp0 := two_pos k
  have hind : ∀ v, ind k c v = if c * 2 ^ k ≤ v ∧ v < c * 2 ^ k + 2 ^ k then 1 else 0 := fun v => ind_iff k c v
  obtain ⟨y, hy⟩ : ∃ y, 2 ^ k = y := ⟨_, rfl⟩
  have hye : ((2 : Int) ^ k) = y := by rw [← hy]; simp
  have hw1 : wrap64 (y : Int) = y := small_w64 (by rw [hy] at hp6; omega)
  have c1 := h.c1
  rw [hy] at hin hp6 hp0 hind ⊢
  obtain ⟨u, hu⟩ : ∃ u, c * y = u := ⟨_, rfl⟩
  rw [hu] at hin hind ⊢
  have HH := hide h; have HI := hide hind
  clear h hind hu hc
  go_enter Tryz.func145, Tryz.ntmps145
  go_wp2_with fail
  refine region_tailP 9 (by kernel_rfl) (by kernel_rfl) ?_
  simp only [List.take_succ_cons, List.take_zero, List.drop_succ_cons, List.drop_zero]
  repeat (go_big_quiet_step (first | fail))
  refine wpQuiet_nil ?_
  rintro _ ⟨nq, rfl⟩
  have HH1 := hide ((unhide HH).still ((Fr.refl _ w).drewN nq))
  have HF1 := hide (((Fr.refl _ w).drewN nq : Still w (w.drewN nq)))
  generalize w.drewN nq = w1 at *
  clear HH c1
  go_wp2_with fail
  go_loopw [20] (fun i wr => ∃ m : Nat, m ≤ y ∧ i = .int .i64 m ∧ CovL nu wr hb cb ab sb b T (fun v => g v + if u ≤ v ∧ v < u + m then 1 else 0) fr ∧ Cb cb ab w1 wr) (fun i wr => y - (intOf i).toNat)
  case atStart => exact ⟨0, by omega, rfl, (unhide HH1).same (fun v _ => by rw [if_neg (by omega)]; rfl), Cb.refl _⟩
  case round =>
    obtain ⟨m, hm, rfl, hcv, hcb⟩ := hrel
    by_cases hlt : m < y
    · have c1 := hcv.c1; have cu := hcv.by_ (u + m) (by omega); have z2 := hcv.z2 (u + m)
      have hgu := gb (u + m) (by omega)
      rw [if_neg (by omega)] at cu
      have IN := hcv.inc (u + m) (g (u + m) + 1) (by omega)
      rw [show ((g (u + m) + 1 : Nat) : Int) = (g (u + m) : Int) + 1 by omega] at IN
      have HIN := hide IN; have HCB := hide hcb
      clear IN hcb hcv
      go_wp2
      refine ⟨⟨m + 1, by omega, by go_num, (unhide HIN).1.same (fun v _ => ?_), (unhide HCB).trans (unhide HIN).2⟩, by simp [intOf]; omega⟩
      by_cases e : v = u + m
      · rw [if_pos e, if_pos (by omega), e]
      · rw [if_neg e]
        by_cases e2 : u ≤ v ∧ v < u + m
        · rw [if_pos e2, if_pos (by omega)]
        · rw [if_neg e2, if_neg (by omega)]
    · have : m = y := by omega
      subst this
      have HX := hide (And.intro hcv hcb)
      clear hcv hcb
      go_wp2
      go_ret
      obtain ⟨hcv, hcb⟩ := unhide HX
      exact ⟨rfl, hcv.same (fun v _ => by rw [unhide HI v]), Fr.trans ((unhide HF1).mono (fun _ x => x.elim)) hcb⟩

def rest (K : Nat → Nat) (m : Nat) : Nat → Nat := fun u => if u < m then K u else 0
theorem rest_0 (K : Nat → Nat) : rest K 0 = fun _ => 0 := by funext u; simp [rest]
theorem rest_succ (K : Nat → Nat) (m : Nat) : rest K (m + 1) = setK (rest K m) m (K m) := by
  funext u
  by_cases e : u = m
  · subst e; simp [rest, setK]
  · have e2 : (u < m + 1) = (u < m) := by simp only [eq_iff_iff]; omega
    simp [rest, setK, e, e2]
theorem rest_zero {K : Nat → Nat} {m : Nat} (h : K m = 0) : rest K (m + 1) = rest K m := by
  rw [rest_succ]
  funext u
  unfold setK
  split
  · rename_i e; rw [e, h]; simp [rest]
  · rfl
theorem cv_none (u : Nat) : cv (fun _ => 0) u = 0 := by unfold cv sum7 pc; simp
theorem rest_all {nu : Nat} {K : Nat → Nat} (h : ∀ u, K u ≠ 0 → u < nu) {m : Nat} (hm : nu ≤ m) : rest K m = K := by
  funext u
  unfold rest
  by_cases e : K u = 0
  · rw [e]; simp
  · rw [if_pos (by have := h u e; omega)]
theorem cv_rest {nu : Nat} {F : Nat → Nat → Bool} {K : Nat → Nat} (i : Inv nu F K (fun _ => 0)) {m : Nat} (h : K m ≠ 0) (v : Nat) : cv (rest K (m + 1)) v = cv (rest K m) v + ind (lv (K m)) (m / 2 ^ lv (K m)) v := by
  obtain ⟨_, l2, l3⟩ := i.lift h
  have := cv_lay (K := rest K m) (x := K m) l2 rfl h (by rw [l3]; simp [rest]) v
  rw [l3] at this
  rw [rest_succ]; exact this
theorem cv_rest_le {nu : Nat} {F : Nat → Nat → Bool} {K : Nat → Nat} (i : Inv nu F K (fun _ => 0)) (m v : Nat) (hv : v < nu) : cv (rest K m) v ≤ 1 := by
  have key : ∀ d, cv (rest K m) v ≤ cv (rest K (m + d)) v := by
    intro d
    induction d with
    | zero => exact Nat.le_refl _
    | succ d ih =>
      by_cases e : K (m + d) = 0
      · rw [← Nat.add_assoc, rest_zero e]; exact ih
      · rw [← Nat.add_assoc, cv_rest i e]; omega
  have h1 := key nu
  rw [rest_all (m := m + nu) (fun u hu => (i.asks u hu).1) (by omega)] at h1
  have h2 := i.cov v hv
  rw [hv_cv] at h2
  omega

set_option maxRecDepth 20000 in
set_option maxHeartbeats 2000000 in
theorem c_pieces (h : Hp nu sz w hb sb b T A P) (s : HpS nu (says P A)) (c : CovL nu w hb cb ab sb b T (fun _ => 0) fr) :
    Calls Tryz.prog 89 #[ptr cb] w fun e w' => e = .returned (.bool true) ∧ CovL nu w' hb cb ab sb b T (cv (ask nu (says P A))) fr ∧ Cb cb ab w w' := by
  have c0 := c.c0; have c1 := h.hp.c1
  obtain ⟨g1, g2, g3, g4, g5, g6⟩ := h.hp.geo.b
  have GR : Calls Tryz.prog 144 #[.int .i64 nu, .int .i64 4] w fun e w' => e = .returned (.int .i64 (qa nu)) ∧ w' = w := by
    have := h_groups nu 4 (by omega) (by omega) (by omega) (by omega) w
    rw [show ((nu : Int) + 4 - 1) / 4 = (qa nu : Nat) by unfold qa; omega] at this
    exact this
  have HH := hide h; have HS := hide s; have HC := hide c
  clear h s c
  go_enter Tryz.func89, Tryz.ntmps89
  go_wp2_with (go_at_call 144; refine GR.mono ?_; rintro e w' ⟨rfl, hh⟩; replace hh := hh.symm; subst hh)
  clear GR c0 c1
  go_loopw [14] (fun i wr => ∃ m : Nat, m ≤ 4 * qa nu ∧ i = .int .i64 m ∧ CovL nu wr hb cb ab sb b T (cv (rest (ask nu (says P A)) m)) fr ∧ Cb cb ab w wr) (fun i wr => 4 * qa nu - (intOf i).toNat)
  case atStart => exact ⟨0, by omega, rfl, (unhide HC).same (fun v _ => by rw [rest_0, cv_none]), Cb.refl _⟩
  case round =>
    obtain ⟨m, hm, rfl, hcv, hcb⟩ := hrel
    by_cases hlt : m < 4 * qa nu
    · have hp := (unhide HH).cov (unhide HC) hcb
      have s := unhide HS
      obtain ⟨r0, r1⟩ := s.wd (aw nu + m / 4) (by omega)
      have AK := h_asked hp.hp hp.reads m hlt r0 r1
      have c0 := hcv.c0
      have HAK := hide AK; have HP := hide hp; have HCV := hide hcv; have HCB := hide hcb; have HR := hide (And.intro r0 r1)
      clear AK hp s hcv hcb r0 r1
      go_wp2_with fail
      refine (unhide HAK).mono ?_
      clear HAK
      rintro e w2 ⟨rfl, D⟩
      have D : Dr wr w2 := D
      have HD := hide D
      obtain ⟨x, hx⟩ : ∃ x, ask nu (says P A) m = x := ⟨_, rfl⟩
      have x6 := ask_lt (nu := nu) (says P A) m
      rw [hx] at x6
      rw [hx]
      by_cases hx0 : x = 0
      · subst hx0
        have HX := hide hx
        clear hx D
        go_wp2
        refine ⟨⟨m + 1, by omega, by go_num, ?_, (unhide HCB).dr (unhide HD).still⟩, by simp [intOf]; omega⟩
        rw [rest_zero (unhide HX)]
        exact (unhide HCV).still (unhide HD).still
      · have s := unhide HS
        have hne : ask nu (says P A) m ≠ 0 := by rw [hx]; exact hx0
        obtain ⟨a1, a2, a3, a4⟩ := s.inv.asks m hne
        obtain ⟨_, l2, l3⟩ := s.inv.lift hne
        have hp2 := (unhide HP).still D.still
        have hcv2 := (unhide HCV).still D.still
        have BG := h_begins hp2.hp hp2.reads m hlt (unhide HR).1 (unhide HR).2
        rw [begs_of s.inv hne] at BG
        rw [hx] at a2 l2 l3
        have c0' := hcv2.c0
        have HBG := hide BG; have HCV2 := hide hcv2; have HX := hide hx
        have HL := hide (And.intro l2 l3)
        have hx0' : ((x : Int) == 0) = false := by simp; exact hx0
        clear BG s hp2 hcv2 D a3 a4 hne hx l2 l3 c0
        go_wp2_with fail
        refine (unhide HBG).mono ?_
        clear HBG
        rintro e w3 ⟨rfl, D3⟩
        have D3 : Dr w2 w3 := D3
        have LV := h_level x (by omega) a2 w3
        have hcv3 := (unhide HCV2).still D3.still
        have LY := c_lay hcv3 (lv x) (m / 2 ^ lv x) (by have := lv_le x; omega) (unhide HL).1 (fun v hv => Nat.le_trans (cv_rest_le (unhide HS).inv m v hv) (by omega))
        rw [(unhide HL).2] at LY
        have HLY := hide LY; have HD3 := hide D3.still
        clear LY hcv3 D3 c0'
        go_wp2_with (first | (go_at_call 118; refine LV.mono ?_; rintro e w' ⟨rfl, hh⟩; replace hh := hh.symm; subst hh) | fail)
        refine (unhide HLY).mono ?_
        clear HLY LV
        rintro e w4 ⟨rfl, hcv4, hcb4⟩
        have HX4 := hide (And.intro hcv4 hcb4)
        clear hcv4 hcb4
        go_wp2
        obtain ⟨hcv4, hcb4⟩ := unhide HX4
        refine ⟨⟨m + 1, by omega, by go_num, hcv4.same (fun v _ => ?_), (((unhide HCB).dr (unhide HD).still).dr (unhide HD3)).trans hcb4⟩, by simp [intOf]; omega⟩
        have hx := unhide HX
        rw [cv_rest (unhide HS).inv (by rw [hx]; exact hx0), hx]
    · have : m = 4 * qa nu := by omega
      subst this
      have HX := hide (And.intro hcv hcb)
      clear hcv hcb
      go_wp2
      go_ret
      obtain ⟨hcv, hcb⟩ := unhide HX
      refine ⟨rfl, hcv.same (fun v _ => ?_), hcb⟩
      rw [rest_all (fun u hu => ((unhide HS).inv.asks u hu).1) (by omega)]
end
end

section
def Dm (F : Nat → Nat → Bool) (k i : Nat) : Nat → Nat → Bool := fun j c => F j c && (decide (j < k) || (decide (j = k) && decide (c / 64 < i)))
def Dn (F : Nat → Nat → Bool) (k i x : Nat) : Nat → Nat → Bool := fun j c => F j c && (decide (j < k) || (decide (j = k) && (decide (c / 64 < i) || (decide (c / 64 = i) && !x.testBit (c % 64)))))

theorem bool3 {a b c : Bool} (h : a = true → b = c) : (a && b) = (a && c) := by cases a; rfl; exact congrArg _ (h rfl)

section
variable {nu sz : Nat} {f : Nat → Int} {k i : Nat}
theorem dm_0 : Dm (fre nu f) 0 0 = fun _ _ => false := by funext j c; simp [Dm]
theorem dn_word (x : Nat) (hx : f (Bw nu k + i) = x) : Dn (fre nu f) k i x = Dm (fre nu f) k i := by
  funext j c
  unfold Dn Dm
  refine bool3 fun h => ?_
  by_cases e : j = k
  · subst e
    by_cases e2 : c / 64 = i
    · have h2 : x.testBit (c % 64) = true := by
        unfold fre at h
        rw [e2, hx, Int.toNat_natCast] at h
        simp at h
        exact h.2
      rw [h2]; simp
    · simp [e2]
  · simp [e]
theorem dn_done : Dn (fre nu f) k i 0 = Dm (fre nu f) k (i + 1) := by
  funext j c
  unfold Dn Dm
  refine bool3 fun _ => ?_
  by_cases e : j = k
  · subst e
    have : (c / 64 < i + 1) = (c / 64 < i ∨ c / 64 = i) := by simp only [eq_iff_iff]; omega
    simp [this]
  · simp [e]
theorem dm_next : Dm (fre nu f) k (gr nu k) = Dm (fre nu f) (k + 1) 0 := by
  funext j c
  unfold Dm
  refine bool3 fun h => ?_
  have h1 : c < 64 * gr nu j := by unfold fre at h; simp at h; exact h.1
  by_cases e : j = k
  · subst e
    have h2 : c / 64 < gr nu j := by omega
    simp [h2]
  · have : (j < k + 1) = (j < k) := by simp only [eq_iff_iff]; omega
    simp [e, this]
theorem dm_all : Dm (fre nu f) 7 0 = fre nu f := by
  funext j c
  unfold Dm
  cases h : fre nu f j c
  · rfl
  · have h1 : c < 64 * gr nu j := by unfold fre at h; simp at h; exact h.1
    have := gr_lt h1
    simp [this]

theorem ctz_form (x : Nat) (hx : x < 18446744073709551616) (hx0 : x ≠ 0) : ∃ m, x = 2 ^ Lib.ctz 64 x * (2 * m + 1) := by
  obtain ⟨m, h1, _⟩ := Lib.ctzFrom_spec 64 x (by omega) hx
  have e : Lib.ctz 64 x = Lib.ctzFrom 64 x := if_neg hx0
  rw [e]; exact ⟨m, h1⟩
theorem low_off (c m j : Nat) : ((2 ^ c * (2 * m + 1)) &&& (2 ^ c * (2 * m + 1) - 1)).testBit j = ((2 ^ c * (2 * m + 1)).testBit j && decide (j ≠ c)) := by
  have hp := two_pos c
  have e1 : 2 ^ c * (2 * m + 1) - 1 = 2 ^ c * (2 * m) + (2 ^ c - 1) := by rw [Nat.mul_add, Nat.mul_one]; omega
  rw [Nat.testBit_and]
  have t1 : (2 ^ c * (2 * m + 1)).testBit j = if j < c then false else (2 * m + 1).testBit (j - c) := by
    have := Nat.testBit_two_pow_mul_add (a := 2 * m + 1) (b := 0) (i := c) (by omega) j
    rw [Nat.add_zero] at this
    rw [this]; simp
  have t2 : (2 ^ c * (2 * m + 1) - 1).testBit j = if j < c then (2 ^ c - 1).testBit j else (2 * m).testBit (j - c) := by
    rw [e1]
    exact Nat.testBit_two_pow_mul_add (a := 2 * m) (b := 2 ^ c - 1) (i := c) (by omega) j
  rw [t1, t2]
  by_cases h : j < c
  · simp [h]
  · simp only [if_neg h]
    by_cases h2 : j = c
    · subst h2
      simp
    · obtain ⟨d, hd⟩ : ∃ d, j - c = d + 1 := ⟨j - c - 1, by omega⟩
      rw [hd, Nat.testBit_succ, Nat.testBit_succ]
      have e3 : (2 * m + 1) / 2 = m := by omega
      have e4 : 2 * m / 2 = m := by omega
      rw [e3, e4]
      simp [h2]
theorem low_test (x : Nat) (hx : x < 18446744073709551616) (hx0 : x ≠ 0) (j : Nat) : (x &&& (x - 1)).testBit j = (x.testBit j && decide (j ≠ Lib.ctz 64 x)) := by
  obtain ⟨m, h⟩ := ctz_form x hx hx0
  have := low_off (Lib.ctz 64 x) m j
  rw [← h] at this
  exact this
theorem low_lt (x : Nat) (hx0 : x ≠ 0) : x &&& (x - 1) < x := Nat.lt_of_le_of_lt Nat.and_le_right (by omega)

theorem dn_step (x : Nat) (hx : x < 18446744073709551616) (hx0 : x ≠ 0) (hf : fre nu f k (64 * i + Lib.ctz 64 x) = true) : Dn (fre nu f) k i (x &&& (x - 1)) = setF (Dn (fre nu f) k i x) k (64 * i + Lib.ctz 64 x) true := by
  obtain ⟨cb1, cb2⟩ := ctz_bit x hx hx0
  funext j c
  unfold setF
  by_cases e : j = k ∧ c = 64 * i + Lib.ctz 64 x
  · obtain ⟨rfl, rfl⟩ := e
    have e1 : (64 * i + Lib.ctz 64 x) / 64 = i := by omega
    have e2 : (64 * i + Lib.ctz 64 x) % 64 = Lib.ctz 64 x := by omega
    unfold Dn
    rw [hf, e1, e2, low_test x hx hx0]
    simp
  · rw [if_neg e]
    unfold Dn
    refine bool3 fun _ => ?_
    by_cases e1 : j = k
    · subst e1
      by_cases e2 : c / 64 = i
      · have : c % 64 ≠ Lib.ctz 64 x := fun h => e ⟨rfl, by omega⟩
        rw [low_test x hx hx0]
        simp [this]
      · simp [e2]
    · simp [e1]
theorem dn_not (x : Nat) (hx : x < 18446744073709551616) (hx0 : x ≠ 0) : Dn (fre nu f) k i x k (64 * i + Lib.ctz 64 x) = false := by
  obtain ⟨cb1, cb2⟩ := ctz_bit x hx hx0
  have e1 : (64 * i + Lib.ctz 64 x) / 64 = i := by omega
  have e2 : (64 * i + Lib.ctz 64 x) % 64 = Lib.ctz 64 x := by omega
  unfold Dn
  rw [e1, e2, cb1]
  simp

theorem odd_bits : ∀ j : Fin 64, (6148914691236517205 : Nat).testBit j.val = decide (j.val % 2 = 0) := by decide +kernel
theorem halves_zero (x : Nat) (hx : x < 18446744073709551616) (hf : f (Bw nu k + i) = x) (hi : i < gr nu k) (hk : k < 6) {K : Nat → Nat} {hole : Nat → Nat} (inv : Inv nu (fre nu f) K hole) : x &&& x / 2 &&& 6148914691236517205 = 0 := by
  refine Nat.eq_of_testBit_eq fun j => ?_
  rw [Nat.zero_testBit, Nat.testBit_and, Nat.testBit_and]
  by_cases hj : j < 64
  · rw [odd_bits ⟨j, hj⟩]
    by_cases h2 : j % 2 = 0
    · have e : (x / 2).testBit j = x.testBit (j + 1) := (Nat.testBit_succ x j).symm
      rw [e]
      cases h1 : x.testBit j
      · rfl
      · have b1 : fre nu f k (64 * i + j) = true := by
          unfold fre
          rw [show (64 * i + j) / 64 = i by omega, show (64 * i + j) % 64 = j by omega, hf, Int.toNat_natCast, h1, decide_eq_true (by omega)]; rfl
        have b2 := inv.half k hk _ b1
        have eb : bud (64 * i + j) = 64 * i + (j + 1) := by unfold bud; rw [if_pos (by omega)]; omega
        rw [eb] at b2
        unfold fre at b2
        rw [show (64 * i + (j + 1)) / 64 = i by omega, show (64 * i + (j + 1)) % 64 = j + 1 by omega, hf, Int.toNat_natCast, decide_eq_true (by omega), Bool.true_and] at b2
        rw [b2]; rfl
    · simp [h2]
  · rw [Nat.testBit_lt_two_pow (Nat.lt_of_lt_of_le hx (Nat.pow_le_pow_right (n := 2) (j := j) (by omega) (show 64 ≤ j by omega)))]
    rfl

theorem hv_le {F G : Nat → Nat → Bool} {K : Nat → Nat} (h : ∀ j c, G j c = true → F j c = true) (u : Nat) : hv G K u ≤ hv F K u := by
  have H : ∀ k, (G k (u / 2 ^ k)).toNat ≤ (F k (u / 2 ^ k)).toNat := fun k => by
    cases e : G k (u / 2 ^ k)
    · simp
    · rw [h _ _ e]; exact Nat.le_refl _
  have h0 := H 0; have h1 := H 1; have h2 := H 2; have h3 := H 3; have h4 := H 4; have h5 := H 5; have h6 := H 6
  simp only [hv, sum7]
  omega
end

def Cz (nu : Nat) (w : World) (hb cb ab sb b : Nat) (T : Tay) (f : Nat → Int) (D : Nat → Nat → Bool) (wr : World) : Prop :=
  ∃ fr, CovL nu wr hb cb ab sb b T (hv D (ask nu f)) fr ∧ fr + 8 * inP nu (ask nu f) = 8 * sumTo (hv D (ask nu f)) nu ∧ Cb cb ab w wr

theorem hv_none (K : Nat → Nat) : hv (fun _ _ => false) K = cv K := by
  funext u
  rw [hv_cv]
  simp [sum7]

section
variable {nu sz : Nat} {w w' w1 : World} {hb cb ab sb b : Nat} {T : Tay} {A : Ab} {P : List (Int × Int)} {g : Nat → Nat} {fr : Nat}

theorem Dn_le {F : Nat → Nat → Bool} {k i x j c : Nat} (h : Dn F k i x j c = true) : F j c = true := by
  unfold Dn at h
  simp only [Bool.and_eq_true] at h
  exact h.1

set_option maxRecDepth 20000 in
set_option maxHeartbeats 4000000 in
theorem c_blocks (h : Hp nu sz w hb sb b T A P) (s : HpS nu (says P A)) (c : CovL nu w hb cb ab sb b T (cv (ask nu (says P A))) 0) :
    Calls Tryz.prog 90 #[ptr cb] w fun e w' => e = .returned (.bool true) ∧ Cz nu w hb cb ab sb b T (says P A) (fre nu (says P A)) w' := by
  have HH := hide h; have HS := hide s; have HC := hide c
  clear h s c
  go_enter Tryz.func90, Tryz.ntmps90
  go_wp2_with fail
  go_loopw [6] (fun i wr => ∃ k : Nat, k ≤ 7 ∧ i = .int .i64 k ∧ Cz nu w hb cb ab sb b T (says P A) (Dm (fre nu (says P A)) k 0) wr) (fun i wr => 7 - (intOf i).toNat)
  case atStart =>
    refine ⟨0, by omega, rfl, 0, ?_, ?_, Cb.refl _⟩
    · rw [dm_0, hv_none]; exact unhide HC
    · rw [dm_0, hv_none]; unfold inP; omega
  case round =>
    obtain ⟨k, hk, rfl, hz⟩ := hrel
    by_cases hk7 : k < 7
    · have hn4 := (unhide HH).hp.geo.hi
      have g8 := gr_le (unhide HH).hp.geo k
      obtain ⟨fr, hcv, hfr, hcb⟩ := hz
      have hp := (unhide HH).cov (unhide HC) hcb
      have BK := h_blocks hb k hk7 wr (by omega) hp.hp.c1
      have GR := h_groups ((nu / 2 ^ k : Nat) : Int) 64 (Int.natCast_nonneg _) (by have : nu / 2 ^ k ≤ nu := Nat.div_le_self _ _; omega) (by omega) (by omega) wr
      rw [gr_eq hk7] at GR
      obtain ⟨n, hn⟩ : ∃ n, nu / 2 ^ k = n := ⟨_, rfl⟩
      rw [hn] at BK GR
      have HN := hide hn
      clear hn
      have c0 := hcv.c0
      have HZ := hide (show Cz nu w hb cb ab sb b T (says P A) (Dm (fre nu (says P A)) k 0) wr from ⟨fr, hcv, hfr, hcb⟩)
      clear hp hcv hfr hcb
      go_wp2_with (first | (go_at_call 146; refine BK.mono ?_; rintro e w' ⟨rfl, hh⟩; replace hh := hh.symm; subst hh) | (go_at_call 144; refine GR.mono ?_; rintro e w' ⟨rfl, hh⟩; replace hh := hh.symm; subst hh) | fail)
      clear BK GR c0
      go_loopw [16] (fun i wr => ∃ m : Nat, m ≤ gr nu k ∧ i = .int .i64 m ∧ Cz nu w hb cb ab sb b T (says P A) (Dm (fre nu (says P A)) k m) wr) (fun i wr => gr nu k - (intOf i).toNat)
      case atStart => exact ⟨0, by omega, rfl, unhide HZ⟩
      case round =>
        clear HZ
        rename_i wr0
        obtain ⟨m, hm, rfl, hz⟩ := hrel
        by_cases hlt : m < gr nu k
        · obtain ⟨fr, hcv, hfr, hcb⟩ := hz
          have hp := (unhide HH).cov (unhide HC) hcb
          obtain ⟨g1, g2, g3, g4, g5, g6⟩ := hp.hp.geo.b
          have bl := Bw_lt (nu := nu) (k := k) (b := 64 * m) (by omega)
          have em : 64 * m / 64 = m := by omega
          rw [em] at bl
          obtain ⟨r0, r1⟩ := (unhide HS).wd (Bw nu k + m) (by omega)
          have LD := fun q => hp.reads q (Bw nu k + m) (by omega)
          have c0 := hcv.c0; have h0 := hp.hp.c0; have hck := hp.hp.cb k hk7
          obtain ⟨x, hx⟩ : ∃ x : Nat, says P A (Bw nu k + m) = x := ⟨(says P A (Bw nu k + m)).toNat, by omega⟩
          have hx64 : x < 18446744073709551616 := by omega
          have e2 : ((Bw nu k + m : Nat) : Int) = (Bw nu k : Int) + (m : Int) := by omega
          simp only [hx, e2] at LD
          have ha1 := u64_and_nat x (x / 2) hx64 (by omega)
          have ha2 := u64_and_nat (x &&& x / 2) 6148914691236517205 (Nat.lt_of_le_of_lt Nat.and_le_left hx64) (by omega)
          have HZ := hide (show Cz nu w hb cb ab sb b T (says P A) (Dm (fre nu (says P A)) k m) _ from ⟨fr, hcv, hfr, hcb⟩)
          have HLD := @hide _ LD; have HX := hide hx
          have bl3 : Bw nu k + m ≤ 300 := by omega
          clear LD hp hcv hfr hcb hx bl g1 g2 g3 g4 g5 g6 em
          go_wp2_with fail
          refine region_tailP 19 (by kernel_rfl) (by kernel_rfl) ?_
          simp only [List.take_succ_cons, List.take_zero, List.drop_succ_cons, List.drop_zero]
          repeat (go_big_quiet_step (first | (go_at_call 62; exact Calls.quiet_of_same (unhide HLD _))))
          refine wpQuiet_nil ?_
          rintro _ ⟨nq, rfl⟩
          clear HLD c0 h0 hck
          have HZ1 : Hid (Cz nu w hb cb ab sb b T (says P A) (Dn (fre nu (says P A)) k m x) (wr.drewN nq)) := by
            obtain ⟨fr, hcv, hfr, hcb⟩ := unhide HZ
            rw [← dn_word x (unhide HX)] at hcv hfr
            exact ⟨fr, hcv.still ((Fr.refl _ wr).drewN nq), hfr, hcb.dr ((Fr.refl _ wr).drewN nq)⟩
          clear HZ
          generalize wr.drewN nq = w1 at *
          rcases (show k < 6 ∨ k = 6 by omega) with hk6 | hk6
          case' inl =>
            have ha3 : ((x &&& x / 2 &&& 6148914691236517205 : Nat) : Int) = 0 := by rw [halves_zero x hx64 (unhide HX) hlt hk6 (unhide HS).inv]; rfl
            have hk6' : ((k : Int) < 6) = True := by simp; omega
            have e22 : ((x / 2 : Nat) : Int) = (x : Int) / 2 := by omega
            rw [e22] at ha1
            have ha4 : bits .and .u64 ((x &&& x / 2 : Nat) : Int) 6148914691236517205 = 0 := ha2.trans ha3
            clear ha2 ha3
            generalize x &&& x / 2 = z at *
            go_wp2_with fail
          case' inr =>
            have hk6' : ((k : Int) < 6) = False := by simp; omega
            clear ha1 ha2 hk6
            go_wp2_with fail
          all_goals
            have g8' := gr_le (unhide HH).hp.geo k
            obtain ⟨Y, hY⟩ : ∃ Y, 2 ^ k = Y := ⟨_, rfl⟩
            have hYe : ((2 : Int) ^ k) = Y := by rw [← hY]; simp
            have hY6 : Y ≤ 64 := by rw [← hY]; exact Nat.pow_le_pow_right (n := 2) (j := 6) (by omega) (by omega)
            have hw8 : wrap64 (8 * (Y : Int)) = 8 * Y := small_w64 (by omega)
            (try clear ha1); (try clear ha4)
            go_loopw [5] (fun i wr => ∃ y : Nat, i = .int .u64 y ∧ y < 18446744073709551616 ∧ (∀ j, y.testBit j = true → x.testBit j = true) ∧ Cz nu w hb cb ab sb b T (says P A) (Dn (fre nu (says P A)) k m y) wr) (fun i wr => (intOf i).toNat)
            case atStart => exact ⟨x, rfl, hx64, fun _ h => h, unhide HZ1⟩
            case round =>
              clear HZ1
              obtain ⟨y, rfl, hy64, hsub, hz⟩ := hrel
              by_cases hy0 : y = 0
              · subst hy0
                rw [dn_done] at hz
                have HZ := hide hz
                clear hz
                go_wp2
                exact ⟨⟨m + 1, by omega, by go_num, unhide HZ⟩, by simp [intOf]; omega⟩
              · obtain ⟨fr, hcv, hfr, hcb⟩ := hz
                have hp := (unhide HH).cov (unhide HC) hcb
                have TZ := tz_ok y hy64 hy0 wr hp.hp.tab
                obtain ⟨cb1, cb2⟩ := ctz_bit y hy64 hy0
                have hf : fre nu (says P A) k (64 * m + Lib.ctz 64 y) = true := by
                  unfold fre
                  rw [show (64 * m + Lib.ctz 64 y) / 64 = m by omega, show (64 * m + Lib.ctz 64 y) % 64 = Lib.ctz 64 y by omega, unhide HX, Int.toNat_natCast, hsub _ cb1, decide_eq_true (by omega)]; rfl
                have hzi := (unhide HS).inv.inside k hk7 _ hf
                have hvle : ∀ v, v < nu → hv (Dn (fre nu (says P A)) k m y) (ask nu (says P A)) v ≤ 1 := fun v hv' => Nat.le_trans (hv_le (fun j c h => Dn_le h) v) (Nat.le_of_eq ((unhide HS).inv.cov v hv'))
                have LY := c_lay hcv k (64 * m + Lib.ctz 64 y) hk7 hzi (fun v hv' => Nat.le_trans (hvle v hv') (by omega))
                have hst := dn_step y hy64 hy0 hf
                have hnt := dn_not (nu := nu) (f := says P A) (k := k) (i := m) y hy64 hy0
                have hlow := low_test y hy64 hy0
                have hlt2 := low_lt y hy0
                have ha5 := u64_and_nat y (y - 1) hy64 (by omega)
                rw [show ((y - 1 : Nat) : Int) = (y : Int) - 1 by omega] at ha5
                have hy0' : ((y : Int) != 0) = true := by simp; exact hy0
                have hsum : sumTo (hv (Dn (fre nu (says P A)) k m y) (ask nu (says P A))) nu ≤ nu := by
                  have := sumTo_le (n := nu) (g := hv (Dn (fre nu (says P A)) k m y) (ask nu (says P A))) (h := fun _ => 1) hvle
                  rwa [sumTo_one] at this
                have hfr4 : fr ≤ 8 * nu := by omega
                have hz4 := block_lt hzi
                generalize Lib.ctz 64 y = cz at *
                rw [hY] at LY hz4
                have e3 : (((64 * m + cz) * Y : Nat) : Int) = (64 * (m : Int) + cz) * Y := by simp
                have e4 : (64 * (m : Int) + cz) * Y ≤ nu := by rw [← e3]; omega
                have e5 : 0 ≤ (64 * (m : Int) + cz) * Y := by rw [← e3]; omega
                rw [e3] at LY
                have HLY := hide LY; have HX2 := hide (And.intro hfr (And.intro hcb (And.intro hst (And.intro hnt (And.intro hlow (And.intro hlt2 (And.intro hsub hzi)))))))
                have hp9 : y &&& (y - 1) < 18446744073709551616 := by omega
                generalize hY9 : y &&& (y - 1) = y9 at *
                have HY9 := hide hY9
                clear LY hfr hcb hst hnt hlow hlt2 hsub hp hf hzi hvle hsum hcv e3 hY9 cb1
                go_wp2_with (first | (go_at_call 147; refine TZ.mono ?_; rintro e w' ⟨rfl, hh⟩; replace hh := hh.symm; subst hh) | fail)
                refine (unhide HLY).mono ?_
                clear HLY TZ
                rintro e w4 ⟨rfl, hcv4, hcb4⟩
                have c2 := hcv4.c2; have z1 := hcv4.z1 2
                have HX4 := hide (And.intro hcv4 hcb4)
                clear hcv4 hcb4
                go_wp2_with fail
                refine region_tailP 9 (by kernel_rfl) (by kernel_rfl) ?_
                simp only [List.take_succ_cons, List.take_zero, List.drop_succ_cons, List.drop_zero]
                repeat (go_big_quiet_step (first | fail))
                refine wpQuiet_nil ?_
                rintro _ ⟨nq2, rfl⟩
                have c2' : (w4.drewN nq2).cell? ⟨cb, 2, none⟩ = some (.int .i64 fr) := c2
                have z1' : (w4.drewN nq2).frozen? ⟨cb, 2, none⟩ = false := z1
                have X5 := ((unhide HX4).1.still ((Fr.refl _ w4).drewN nq2)).more (fr + 8 * Y)
                rw [show ((fr + 8 * Y : Nat) : Int) = (fr : Int) + 8 * Y by omega] at X5
                have HX5 := hide X5
                clear X5
                have HX6 := hide ((unhide HX4).2.dr ((Fr.refl _ w4).drewN nq2))
                clear HX4 c2 z1
                generalize w4.drewN nq2 = w5 at *
                go_wp2
                obtain ⟨hfr, hcb, hst, hnt, hlow, hlt2, hsub, hzi⟩ := unhide HX2
                have hhv : ∀ v, hv (Dn (fre nu (says P A)) k m y9) (ask nu (says P A)) v = hv (Dn (fre nu (says P A)) k m y) (ask nu (says P A)) v + ind k (64 * m + cz) v := fun v => by
                  rw [hst]
                  have := hv_setF (F := Dn (fre nu (says P A)) k m y) (K := ask nu (says P A)) (b := 64 * m + cz) hk7 true v
                  rw [hnt] at this
                  unfold ind
                  split at this
                  · rename_i e; rw [if_pos e]; simpa using this
                  · rename_i e; rw [if_neg e]; simpa using this
                refine ⟨⟨y9, rfl, by omega, fun j hj => ?_, fr + 8 * Y, (unhide HX5).1.same (fun v _ => hhv v), ?_, (hcb.trans (unhide HX6)).trans (unhide HX5).2⟩, by simp [intOf]; omega⟩
                · have := hlow j
                  rw [hj] at this
                  have h2 := this.symm
                  simp only [Bool.and_eq_true] at h2
                  exact hsub j h2.1
                · rw [sumTo_congr (fun v _ => hhv v), sumTo_add, sum_block hzi, hY]
                  omega
        · have : m = gr nu k := by omega
          subst this
          have HZ := hide hz
          clear hz
          go_wp2
          refine ⟨⟨k + 1, by omega, by go_num, ?_⟩, by simp [intOf]; omega⟩
          have hz := unhide HZ
          rw [dm_next] at hz
          exact hz
    · have : k = 7 := by omega
      subst this
      have HZ := hide hz
      clear hz
      go_wp2
      go_ret
      have hz := unhide HZ
      rw [dm_all] at hz
      exact ⟨rfl, hz⟩
end
end

section
section
variable {nu sz : Nat} {w w' w1 : World} {hb cb ab sb b : Nat} {T : Tay} {A : Ab} {P : List (Int × Int)} {g : Nat → Nat} {fr : Nat}

set_option maxRecDepth 20000 in
set_option maxHeartbeats 2000000 in
theorem c_whole (h : Hp nu sz w hb sb b T A P) (s : HpS nu (says P A)) (c : CovL nu w hb cb ab sb b T (hv (fre nu (says P A)) (ask nu (says P A))) fr) (hfr : fr + 8 * inP nu (ask nu (says P A)) = 8 * sumTo (hv (fre nu (says P A)) (ask nu (says P A))) nu) :
    Calls Tryz.prog 91 #[ptr cb] w fun e w' => e = .returned (.bool true) ∧ Dr w w' := by
  have hone : ∀ v, v < nu → hv (fre nu (says P A)) (ask nu (says P A)) v = 1 := fun v hv' => s.inv.cov v hv'
  have hsum : sumTo (hv (fre nu (says P A)) (ask nu (says P A))) nu = nu := by
    rw [sumTo_congr hone, sumTo_one]
  have hf1 : says P A 1 = fr := by rw [s.fr]; omega
  have hfr4 : fr ≤ 8 * nu := by omega
  obtain ⟨g1, g2, g3, g4, g5, g6⟩ := h.hp.geo.b
  have c0 := c.c0; have c1 := c.c1; have c2 := c.c2; have h0 := h.hp.c0
  have LD : ∀ q, Calls Tryz.prog 62 #[ptr sb, .int .i64 1] (w.drewN q) _ := fun q => h.reads q 1 (by omega)
  rw [hf1] at LD
  have HLD := @hide _ LD; have HC := hide c; have HO := hide hone
  have hn4 := g5.2
  clear LD c hone hsum hf1 s h hfr g1 g2 g3 g4 g5 g6
  go_enter Tryz.func91, Tryz.ntmps91
  go_wp2_with fail
  go_loopw [10] (fun i wr => ∃ m : Nat, m ≤ nu ∧ i = .int .i64 m ∧ Dr w wr) (fun i wr => nu - (intOf i).toNat)
  case atStart => exact ⟨0, by omega, rfl, Dr.refl w⟩
  case round =>
    obtain ⟨m, hm, rfl, D⟩ := hrel
    have hc := (unhide HC).still D.still
    by_cases hlt : m < nu
    · have cm := hc.by_ m hlt
      rw [unhide HO m hlt] at cm
      have HD := hide D
      clear D hc
      go_wp2
      exact ⟨⟨m + 1, by omega, by go_num, unhide HD⟩, by simp [intOf]; omega⟩
    · have : m = nu := by omega
      subst this
      have c0 := hc.c0; have c2 := hc.c2; have h0 := D.still.cell' h0 (fun x => x)
      obtain ⟨q0, hq0⟩ := D
      have HLD : Hid (∀ q, Calls Tryz.prog 62 #[ptr sb, .int .i64 1] (wr.drewN q) fun e w' => e = .returned (u64 fr) ∧ w' = wr.drewN q) := by
        intro q
        have e : wr.drewN q = w.drewN (q0 + q) := by rw [hq0]; simp [World.drewN, Nat.add_assoc]
        rw [e]; exact unhide HLD (q0 + q)
      have HQ := hide hq0
      clear hq0 hc
      go_wp2_with fail
      refine region_tailP 14 (by kernel_rfl) (by kernel_rfl) ?_
      simp only [List.take_succ_cons, List.take_zero, List.drop_succ_cons, List.drop_zero]
      repeat (go_big_quiet_step (first | (go_at_call 62; exact Calls.quiet_of_same (unhide HLD _))))
      refine wpQuiet_nil ?_
      rintro _ ⟨nq, rfl⟩
      go_wp2
      go_ret
      exact ⟨by simp, q0 + nq, by rw [unhide HQ]; simp [World.drewN, Nat.add_assoc]⟩

set_option maxRecDepth 20000 in
set_option maxHeartbeats 4000000 in
theorem h_check (h : Hp nu sz w hb sb b T A P) (s : HpS nu (says P A)) : Calls Tryz.prog 41 #[ptr hb] w fun e w' => e = .returned (.int .i64 0) ∧ Still w w' := by
  have h0 := h.hp.c0; have h1 := h.hp.c1
  obtain ⟨g1, g2, g3, g4, g5, g6⟩ := h.hp.geo.b
  have m2 : (Instr.makeSlice 46 (.int .i64 nu) (.int .i64 nu)).run Tryz.prog w = .ok (row w.heap.size nu) (w.alloc (.cells (zeroInts nu) 3)) := make_ints nu (by omega) w
  obtain ⟨W1, hW1⟩ : ∃ W1, w.alloc (.cells (zeroInts nu) 3) = W1 := ⟨_, rfl⟩
  obtain ⟨W, hW⟩ : ∃ W, W1.alloc (.cells #[ptr hb, .slice (some ⟨w.heap.size, 0, none⟩) nu nu, .int .i64 0] 145) = W := ⟨_, rfl⟩
  have z1 : W1.heap.size = w.heap.size + 1 := by rw [← hW1]; simp
  have f1 : Still w W1 := hW1 ▸ (Fr.refl _ w).alloc _
  have f2 : Still W1 W := hW ▸ (Fr.refl _ W1).alloc _
  have fW : Still w W := f1.trans' f2 (fun _ x => x.elim)
  have ba : W.heap[w.heap.size]? = some (.cells (zeroInts nu) 3 (0, 0)) := by
    have e1 : W1.heap[w.heap.size]? = some (.cells (zeroInts nu) 3 (0, 0)) := hW1 ▸ heap_alloc_new w _
    rw [f2.block w.heap.size (by omega) (fun x => x)]; exact e1
  have bc : W.heap[w.heap.size + 1]? = some (.cells #[ptr hb, .slice (some ⟨w.heap.size, 0, none⟩) nu nu, .int .i64 0] 145 (0, 0)) := by
    have := heap_alloc_new W1 (.cells #[ptr hb, .slice (some ⟨w.heap.size, 0, none⟩) nu nu, .int .i64 0] 145)
    rw [hW, z1] at this; exact this
  have nt : ∀ k, w.heap.size ≤ k → ¬ tfoot sb b T k := fun k hk ht => by have := h.st.lt k ht; omega
  have l1 := h.lth; have l0 := h.lt0
  have cv0 : CovL nu W hb (w.heap.size + 1) w.heap.size sb b T (fun _ => 0) 0 :=
    { c0 := (by rw [cell_of_obj bc]; rfl), c1 := (by rw [cell_of_obj bc]; rfl), c2 := (by rw [cell_of_obj bc]; rfl), by_ := (fun u hu => by rw [cell_of_obj ba, zeroInts_get nu u hu]; rfl), z1 := (fun o => by unfold World.frozen?; rw [bc]; simp), z2 := (fun o => by unfold World.frozen?; rw [ba]; simp), ne := (by omega), n1 := nt _ (by omega), n2 := nt _ (by omega), h1 := ⟨by omega, by omega⟩, h2 := ⟨by omega, by omega⟩, hn := ⟨by omega, by omega⟩ }
  have hWp := h.still fW
  have LD : Calls Tryz.prog 62 #[ptr sb, .int .i64 0] W _ := hWp.load 0 (by omega)
  rw [s.mrk] at LD
  have PC := c_pieces hWp s cv0
  have h0W := hWp.hp.c0
  have HS := hide s; have HWP := hide hWp; have HLD := hide LD; have HPC := hide PC; have HCV0 := hide cv0; have HFW := hide fW
  rw [← hW1] at hW
  rw [← hW] at h0W
  have HW := hide hW
  clear h s hWp LD PC cv0 fW f1 f2 hW hW1 ba bc nt z1
  go_enter Tryz.func41, Tryz.ntmps41
  go_wp2_with fail
  rw [unhide HW]
  refine (unhide HLD).mono ?_
  clear HLD
  rintro e w' ⟨rfl, hh⟩
  replace hh := hh.symm
  subst hh
  go_wp2_with fail
  refine (unhide HPC).mono ?_
  clear HPC
  rintro e w2 ⟨rfl, hcv2, hcb2⟩
  have hp2 := (unhide HWP).cov (unhide HCV0) hcb2
  have BL := c_blocks hp2 (unhide HS) hcv2
  have HBL := hide BL; have HCV2 := hide hcv2; have HCB2 := hide hcb2; have HP2 := hide hp2
  clear BL hcv2 hcb2 hp2
  go_wp2_with fail
  refine (unhide HBL).mono ?_
  clear HBL
  rintro e w3 ⟨rfl, fr, hcv3, hfr, hcb3⟩
  have hp3 := (unhide HP2).cov (unhide HCV2) hcb3
  have WH := c_whole hp3 (unhide HS) hcv3 hfr
  have HWH := hide WH; have HCB3 := hide hcb3
  clear WH hcv3 hcb3 hp3 hfr
  go_wp2_with fail
  refine (unhide HWH).mono ?_
  clear HWH
  rintro e w4 ⟨rfl, D⟩
  have HD := hide D
  clear D
  go_wp2
  go_ret
  have hcb : Cb (w.heap.size + 1) w.heap.size W w4 := ((unhide HCB2).trans (unhide HCB3)).dr (unhide HD).still
  exact ⟨rfl, (unhide HFW).trans' hcb (fun k hk => by rcases hk with e | e <;> right <;> omega)⟩
end
end
end Go.Proofs.YtflnaiijdpihcaaGreatDoor
