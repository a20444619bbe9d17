/- cover: lay, pieces. -/
import Derived.Test.YtdgobaknbjlahaaGreatDoorGHk
namespace Go.Proofs.YtdgobaknbjlahaaGreatDoor
open Go.RowKit

/-- A cover in memory: by tells g, free is fr. -/
structure CovL (nu : Nat) (w : World) (hb cb ab sb b : Nat) (T : Tay) (g : Nat → Nat) (fr : Nat) : Prop where
  c0 : w.cell? ⟨cb, 0, none⟩ = some (ptr hb)
  c1 : w.cell? ⟨cb, 1, none⟩ = some (.slice (some ⟨ab, 0, none⟩) nu nu)
  c2 : w.cell? ⟨cb, 2, none⟩ = some (.int .i64 fr)
  by_ : ∀ u, u < nu → w.cell? ⟨ab, u, none⟩ = some (.int .i64 (g u))
  z1 : ∀ o, w.frozen? ⟨cb, o, none⟩ = false
  z2 : ∀ o, w.frozen? ⟨ab, o, none⟩ = false
  ne : cb ≠ ab
  n1 : ¬ tfoot sb b T cb
  n2 : ¬ tfoot sb b T ab
  h1 : cb ≠ hb ∧ ab ≠ hb
  h2 : cb ≠ 0 ∧ ab ≠ 0
  hn : 0 < nu ∧ nu ≤ 4000

/-- Only the cover has turned. -/
def Cb (cb ab : Nat) (w w' : World) : Prop := Fr (fun k => k = cb ∨ k = ab) w w'

section
variable {nu sz : Nat} {w w' w1 : World} {hb cb ab sb b : Nat} {T : Tay} {A : Ab} {P : List (Int × Int)} {g : Nat → Nat} {fr : Nat}

theorem CovL.still (h : CovL nu w hb cb ab sb b T g fr) (hf : Still w w') : CovL nu w' hb cb ab sb b T g fr :=
  { h with c0 := hf.cell' h.c0 (fun x => x), c1 := hf.cell' h.c1 (fun x => x), c2 := hf.cell' h.c2 (fun x => x), by_ := fun u hu => hf.cell' (h.by_ u hu) (fun x => x),
           z1 := fun o => by rw [World.frozen?_of_block (a := ⟨cb, o, none⟩) (hf.block cb (World.block_lt_of_cell? _ _ h.c0) (fun x => x))]; exact h.z1 o,
           z2 := fun o => by rw [World.frozen?_of_block (a := ⟨ab, o, none⟩) (hf.block ab (World.block_lt_of_cell? _ _ (h.by_ 0 h.hn.1)) (fun x => x))]; exact h.z2 o }
theorem Hp.cov (h : Hp nu sz w hb sb b T A P) (c : CovL nu w hb cb ab sb b T g fr) (hf : Cb cb ab w w') : Hp nu sz w' hb sb b T A P :=
  h.turn hf (fun k hk => by rcases hk with rfl | rfl; exact c.n1; exact c.n2) (fun hk => by rcases hk with e | e; exact c.h1.1 e.symm; exact c.h1.2 e.symm) (fun hk => by rcases hk with e | e; exact c.h2.1 e.symm; exact c.h2.2 e.symm)
theorem Cb.refl (w : World) : Cb cb ab w w := Fr.refl _ w
theorem Cb.trans (a : Cb cb ab w w') (c : Cb cb ab w' w1) : Cb cb ab w w1 := Fr.trans a c
theorem Cb.dr (a : Cb cb ab w w') (c : Still w' w1) : Cb cb ab w w1 := Fr.trans' a c (fun _ x => x.elim)

/-- One more at one unit. -/
theorem CovL.inc (h : CovL nu w hb cb ab sb b T g fr) (u x : Nat) (hu : u < nu) : CovL nu (w.setCell ⟨ab, u, none⟩ (.int .i64 x)) hb cb ab sb b T (fun v => if v = u then x else g v) fr ∧ Cb cb ab w (w.setCell ⟨ab, u, none⟩ (.int .i64 x)) := by
  have oc : ∀ o, (w.setCell ⟨ab, u, none⟩ (.int .i64 x)).cell? ⟨cb, o, none⟩ = w.cell? ⟨cb, o, none⟩ := fun o => World.cell?_setCell_other _ _ _ _ (by simp; exact fun e => absurd e.symm h.ne)
  refine ⟨{ h with c0 := ?_, c1 := ?_, c2 := ?_, by_ := fun v hv => ?_, z1 := fun o => ?_, z2 := fun o => ?_ }, (Fr.refl _ w).setCell (.inl (.inr rfl)) _⟩
  · rw [oc]; exact h.c0
  · rw [oc]; exact h.c1
  · rw [oc]; exact h.c2
  · by_cases e : v = u
    · subst e; rw [if_pos rfl]; exact World.cell?_setCell_same _ _ _ (h.by_ v hu)
    · rw [if_neg e, World.cell?_setCell_other _ _ _ _ (by simp <;> omega)]; exact h.by_ v hv
  · rw [World.frozen?_setCell]; exact h.z1 o
  · rw [World.frozen?_setCell]; exact h.z2 o
theorem CovL.more (h : CovL nu w hb cb ab sb b T g fr) (x : Nat) : CovL nu (w.setCell ⟨cb, 2, none⟩ (.int .i64 x)) hb cb ab sb b T g x ∧ Cb cb ab w (w.setCell ⟨cb, 2, none⟩ (.int .i64 x)) := by
  refine ⟨{ h with c0 := ?_, c1 := ?_, c2 := World.cell?_setCell_same _ _ _ h.c2, by_ := fun v hv => ?_, z1 := fun o => ?_, z2 := fun o => ?_ }, (Fr.refl _ w).setCell (.inl (.inl rfl)) _⟩
  · rw [World.cell?_setCell_other _ _ _ _ (by simp)]; exact h.c0
  · rw [World.cell?_setCell_other _ _ _ _ (by simp)]; exact h.c1
  · rw [World.cell?_setCell_other _ _ _ _ (by simp; exact fun e => absurd e h.ne)]; exact h.by_ v hv
  · rw [World.frozen?_setCell]; exact h.z1 o
  · rw [World.frozen?_setCell]; exact h.z2 o
theorem CovL.same {g' : Nat → Nat} (h : CovL nu w hb cb ab sb b T g fr) (e : ∀ u, u < nu → g' u = g u) : CovL nu w hb cb ab sb b T g' fr := { h with by_ := fun u hu => by rw [e u hu]; exact h.by_ u hu }

set_option maxRecDepth 20000 in
set_option maxHeartbeats 2000000 in
theorem c_lay (h : CovL nu w hb cb ab sb b T g fr) (k c : Nat) (hk : k < 7) (hc : c < nu / 2 ^ k) (gb : ∀ v, v < nu → g v ≤ 1000) :
    Calls Tryz.prog 104 #[ptr cb, .int .i64 (c * 2 ^ k : Nat), .int .i64 k] w fun e w' => e = .returned (.bool true) ∧ CovL nu w' hb cb ab sb b T (fun v => g v + ind k c v) fr ∧ Cb cb ab w w' := by
  have hin := block_lt hc
  have hn4 := h.hn.2
  have hp6 : 2 ^ k ≤ 64 := Nat.pow_le_pow_right (n := 2) (j := 6) (by omega) (by omega)
  have hp0 := two_pos k
  have hind : ∀ v, ind k c v = if c * 2 ^ k ≤ v ∧ v < c * 2 ^ k + 2 ^ k then 1 else 0 := fun v => ind_iff k c v
  obtain ⟨y, hy⟩ : ∃ y, 2 ^ k = y := ⟨_, rfl⟩
  have hye : ((2 : Int) ^ k) = y := by rw [← hy]; simp
  have hw1 : wrap64 (y : Int) = y := small_w64 (by rw [hy] at hp6; omega)
  have c1 := h.c1
  rw [hy] at hin hp6 hp0 hind ⊢
  obtain ⟨u, hu⟩ : ∃ u, c * y = u := ⟨_, rfl⟩
  rw [hu] at hin hind ⊢
  have HH := hide h; have HI := hide hind
  clear h hind hu hc
  go_enter Tryz.func104, Tryz.ntmps104
  go_wp2_with fail
  refine region_tailP 9 (by kernel_rfl) (by kernel_rfl) ?_
  simp only [List.take_succ_cons, List.take_zero, List.drop_succ_cons, List.drop_zero]
  repeat (go_big_quiet_step (first | fail))
  refine wpQuiet_nil ?_
  rintro _ ⟨nq, rfl⟩
  have HH1 := hide ((unhide HH).still ((Fr.refl _ w).drewN nq))
  have HF1 := hide (((Fr.refl _ w).drewN nq : Still w (w.drewN nq)))
  generalize w.drewN nq = w1 at *
  clear HH c1
  go_wp2_with fail
  go_loopw [20] (fun i wr => ∃ m : Nat, m ≤ y ∧ i = .int .i64 m ∧ CovL nu wr hb cb ab sb b T (fun v => g v + if u ≤ v ∧ v < u + m then 1 else 0) fr ∧ Cb cb ab w1 wr) (fun i wr => y - (intOf i).toNat)
  case atStart => exact ⟨0, by omega, rfl, (unhide HH1).same (fun v _ => by rw [if_neg (by omega)]; rfl), Cb.refl _⟩
  case round =>
    obtain ⟨m, hm, rfl, hcv, hcb⟩ := hrel
    by_cases hlt : m < y
    · have c1 := hcv.c1; have cu := hcv.by_ (u + m) (by omega); have z2 := hcv.z2 (u + m)
      have hgu := gb (u + m) (by omega)
      rw [if_neg (by omega)] at cu
      have IN := hcv.inc (u + m) (g (u + m) + 1) (by omega)
      rw [show ((g (u + m) + 1 : Nat) : Int) = (g (u + m) : Int) + 1 by omega] at IN
      have HIN := hide IN; have HCB := hide hcb
      clear IN hcb hcv
      go_wp2
      refine ⟨⟨m + 1, by omega, by go_num, (unhide HIN).1.same (fun v _ => ?_), (unhide HCB).trans (unhide HIN).2⟩, by simp [intOf]; omega⟩
      by_cases e : v = u + m
      · rw [if_pos e, if_pos (by omega), e]
      · rw [if_neg e]
        by_cases e2 : u ≤ v ∧ v < u + m
        · rw [if_pos e2, if_pos (by omega)]
        · rw [if_neg e2, if_neg (by omega)]
    · have : m = y := by omega
      subst this
      have HX := hide (And.intro hcv hcb)
      clear hcv hcb
      go_wp2
      go_ret
      obtain ⟨hcv, hcb⟩ := unhide HX
      exact ⟨rfl, hcv.same (fun v _ => by rw [unhide HI v]), Fr.trans ((unhide HF1).mono (fun _ x => x.elim)) hcb⟩

/-- What is asked for by the first m units. -/
def rest (K : Nat → Nat) (m : Nat) : Nat → Nat := fun u => if u < m then K u else 0
theorem rest_0 (K : Nat → Nat) : rest K 0 = fun _ => 0 := by funext u; simp [rest]
theorem rest_succ (K : Nat → Nat) (m : Nat) : rest K (m + 1) = setK (rest K m) m (K m) := by
  funext u
  by_cases e : u = m
  · subst e; simp [rest, setK]
  · have e2 : (u < m + 1) = (u < m) := by simp only [eq_iff_iff]; omega
    simp [rest, setK, e, e2]
theorem rest_zero {K : Nat → Nat} {m : Nat} (h : K m = 0) : rest K (m + 1) = rest K m := by
  rw [rest_succ]
  funext u
  unfold setK
  split
  · rename_i e; rw [e, h]; simp [rest]
  · rfl
theorem cv_none (u : Nat) : cv (fun _ => 0) u = 0 := by unfold cv sum7 pc; simp
theorem rest_all {nu : Nat} {K : Nat → Nat} (h : ∀ u, K u ≠ 0 → u < nu) {m : Nat} (hm : nu ≤ m) : rest K m = K := by
  funext u
  unfold rest
  by_cases e : K u = 0
  · rw [e]; simp
  · rw [if_pos (by have := h u e; omega)]
theorem cv_rest {nu : Nat} {F : Nat → Nat → Bool} {K : Nat → Nat} (i : Inv nu F K (fun _ => 0)) {m : Nat} (h : K m ≠ 0) (v : Nat) : cv (rest K (m + 1)) v = cv (rest K m) v + ind (lv (K m)) (m / 2 ^ lv (K m)) v := by
  obtain ⟨_, l2, l3⟩ := i.lift h
  have := cv_lay (K := rest K m) (x := K m) l2 rfl h (by rw [l3]; simp [rest]) v
  rw [l3] at this
  rw [rest_succ]; exact this
theorem cv_rest_le {nu : Nat} {F : Nat → Nat → Bool} {K : Nat → Nat} (i : Inv nu F K (fun _ => 0)) (m v : Nat) (hv : v < nu) : cv (rest K m) v ≤ 1 := by
  have key : ∀ d, cv (rest K m) v ≤ cv (rest K (m + d)) v := by
    intro d
    induction d with
    | zero => exact Nat.le_refl _
    | succ d ih =>
      by_cases e : K (m + d) = 0
      · rw [← Nat.add_assoc, rest_zero e]; exact ih
      · rw [← Nat.add_assoc, cv_rest i e]; omega
  have h1 := key nu
  rw [rest_all (m := m + nu) (fun u hu => (i.asks u hu).1) (by omega)] at h1
  have h2 := i.cov v hv
  rw [hv_cv] at h2
  omega

set_option maxRecDepth 20000 in
set_option maxHeartbeats 2000000 in
theorem c_pieces (h : Hp nu sz w hb sb b T A P) (s : HpS nu (says P A)) (c : CovL nu w hb cb ab sb b T (fun _ => 0) fr) :
    Calls Tryz.prog 74 #[ptr cb] w fun e w' => e = .returned (.bool true) ∧ CovL nu w' hb cb ab sb b T (cv (ask nu (says P A))) fr ∧ Cb cb ab w w' := by
  have c0 := c.c0; have c1 := h.hp.c1
  obtain ⟨g1, g2, g3, g4, g5, g6⟩ := h.hp.geo.b
  have GR : Calls Tryz.prog 103 #[.int .i64 nu, .int .i64 4] w fun e w' => e = .returned (.int .i64 (qa nu)) ∧ w' = w := by
    have := h_groups nu 4 (by omega) (by omega) (by omega) (by omega) w
    rw [show ((nu : Int) + 4 - 1) / 4 = (qa nu : Nat) by unfold qa; omega] at this
    exact this
  have HH := hide h; have HS := hide s; have HC := hide c
  clear h s c
  go_enter Tryz.func74, Tryz.ntmps74
  go_wp2_with (go_at_call 103; refine GR.mono ?_; rintro e w' ⟨rfl, hh⟩; replace hh := hh.symm; subst hh)
  clear GR c0 c1
  go_loopw [14] (fun i wr => ∃ m : Nat, m ≤ 4 * qa nu ∧ i = .int .i64 m ∧ CovL nu wr hb cb ab sb b T (cv (rest (ask nu (says P A)) m)) fr ∧ Cb cb ab w wr) (fun i wr => 4 * qa nu - (intOf i).toNat)
  case atStart => exact ⟨0, by omega, rfl, (unhide HC).same (fun v _ => by rw [rest_0, cv_none]), Cb.refl _⟩
  case round =>
    obtain ⟨m, hm, rfl, hcv, hcb⟩ := hrel
    by_cases hlt : m < 4 * qa nu
    · have hp := (unhide HH).cov (unhide HC) hcb
      have s := unhide HS
      obtain ⟨r0, r1⟩ := s.wd (aw nu + m / 4) (by omega)
      have AK := h_asked hp.hp hp.reads m hlt r0 r1
      have c0 := hcv.c0
      have HAK := hide AK; have HP := hide hp; have HCV := hide hcv; have HCB := hide hcb; have HR := hide (And.intro r0 r1)
      clear AK hp s hcv hcb r0 r1
      go_wp2_with fail
      refine (unhide HAK).mono ?_
      clear HAK
      rintro e w2 ⟨rfl, D⟩
      have D : Dr wr w2 := D
      have HD := hide D
      obtain ⟨x, hx⟩ : ∃ x, ask nu (says P A) m = x := ⟨_, rfl⟩
      have x6 := ask_lt (nu := nu) (says P A) m
      rw [hx] at x6
      rw [hx]
      by_cases hx0 : x = 0
      · subst hx0
        have HX := hide hx
        clear hx D
        go_wp2
        refine ⟨⟨m + 1, by omega, by go_num, ?_, (unhide HCB).dr (unhide HD).still⟩, by simp [intOf]; omega⟩
        rw [rest_zero (unhide HX)]
        exact (unhide HCV).still (unhide HD).still
      · have s := unhide HS
        have hne : ask nu (says P A) m ≠ 0 := by rw [hx]; exact hx0
        obtain ⟨a1, a2, a3, a4⟩ := s.inv.asks m hne
        obtain ⟨_, l2, l3⟩ := s.inv.lift hne
        have hp2 := (unhide HP).still D.still
        have hcv2 := (unhide HCV).still D.still
        have BG := h_begins hp2.hp hp2.reads m hlt (unhide HR).1 (unhide HR).2
        rw [begs_of s.inv hne] at BG
        rw [hx] at a2 l2 l3
        have c0' := hcv2.c0
        have HBG := hide BG; have HCV2 := hide hcv2; have HX := hide hx
        have HL := hide (And.intro l2 l3)
        have hx0' : ((x : Int) == 0) = false := by simp; exact hx0
        clear BG s hp2 hcv2 D a3 a4 hne hx l2 l3 c0
        go_wp2_with fail
        refine (unhide HBG).mono ?_
        clear HBG
        rintro e w3 ⟨rfl, D3⟩
        have D3 : Dr w2 w3 := D3
        have LV := h_level x (by omega) a2 w3
        have hcv3 := (unhide HCV2).still D3.still
        have LY := c_lay hcv3 (lv x) (m / 2 ^ lv x) (by have := lv_le x; omega) (unhide HL).1 (fun v hv => Nat.le_trans (cv_rest_le (unhide HS).inv m v hv) (by omega))
        rw [(unhide HL).2] at LY
        have HLY := hide LY; have HD3 := hide D3.still
        clear LY hcv3 D3 c0'
        go_wp2_with (first | (go_at_call 71; refine LV.mono ?_; rintro e w' ⟨rfl, hh⟩; replace hh := hh.symm; subst hh) | fail)
        refine (unhide HLY).mono ?_
        clear HLY LV
        rintro e w4 ⟨rfl, hcv4, hcb4⟩
        have HX4 := hide (And.intro hcv4 hcb4)
        clear hcv4 hcb4
        go_wp2
        obtain ⟨hcv4, hcb4⟩ := unhide HX4
        refine ⟨⟨m + 1, by omega, by go_num, hcv4.same (fun v _ => ?_), (((unhide HCB).dr (unhide HD).still).dr (unhide HD3)).trans hcb4⟩, by simp [intOf]; omega⟩
        have hx := unhide HX
        rw [cv_rest (unhide HS).inv (by rw [hx]; exact hx0), hx]
    · have : m = 4 * qa nu := by omega
      subst this
      have HX := hide (And.intro hcv hcb)
      clear hcv hcb
      go_wp2
      go_ret
      obtain ⟨hcv, hcb⟩ := unhide HX
      refine ⟨rfl, hcv.same (fun v _ => ?_), hcb⟩
      rw [rest_all (fun u hu => ((unhide HS).inv.asks u hu).1) (by omega)]
end
end Go.Proofs.YtdgobaknbjlahaaGreatDoor
