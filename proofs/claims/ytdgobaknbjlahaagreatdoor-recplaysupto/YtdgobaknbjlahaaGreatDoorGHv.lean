/- halve and join: the closures that call themselves. -/
import Derived.Test.YtdgobaknbjlahaaGreatDoorGHw
namespace Go.Proofs.YtdgobaknbjlahaaGreatDoor
open Go.RowKit

theorem ind_split (k c u : Nat) : ind (k + 1) c u = ind k (2 * c) u + ind k (2 * c + 1) u := by
  unfold ind
  have e : u / 2 ^ (k + 1) = u / 2 ^ k / 2 := by rw [Nat.pow_succ, Nat.div_div_eq_div_mul]
  rw [e]
  generalize u / 2 ^ k = x
  split <;> split <;> split <;> omega

/-- What halving a block out of the free ones has come to. -/
def Halved (nu sz m : Nat) (f : Nat → Int) (k : Nat) (w : World) (sb b : Nat) (T : Tay) (A : Ab) (e : Ending) (w' : World) : Prop :=
  (∃ (c : Nat) (g : Nat → Int), e = .returned (.int .i64 c) ∧ c < nu / 2 ^ k ∧ To sz w sb b T A w' g (m + (8 - k)) ∧ Bits nu f g ∧ Inv nu (fre nu g) (ask nu f) (ind k c) ∧ ∀ j, j < k → fre nu g j = fre nu f j) ∨
  (e = .panicked (errnoQ 60) ∧ Dr w w' ∧ ∀ j, k ≤ j → j < 7 → ∀ c, fre nu f j c = false)

section
variable {nu sz : Nat} {w : World} {hb sb b bh bt : Nat} {T : Tay} {A : Ab} {P : List (Int × Int)}

set_option maxHeartbeats 2000000 in
theorem h_halveC (d : Nat) : ∀ (k : Nat), k + d = 7 → ∀ {w : World} {T : Tay} {P : List (Int × Int)}, Hp nu sz w hb sb b T A P → Words64 nu (says P A) → P.length + 8 ≤ 6144 → Inv nu (fre nu (says P A)) (ask nu (says P A)) (fun _ => 0) →
    w.cell? ⟨bh, 0, none⟩ = some (ptr hb) → w.cell? ⟨bt, 0, none⟩ = some (.func (.func 117) #[] #[ptr bh, ptr bt]) → ¬ tfoot sb b T bh → ¬ tfoot sb b T bt →
    Calls Tryz.prog 117 #[.int .i64 k, ptr bh, ptr bt] w (Halved nu sz P.length (says P A) k w sb b T A) := by
  induction d with
  | zero =>
    intro k hk w T P h wd hm inv c1 c2 n1 n2
    have : k = 7 := by omega
    subst this
    unfold Halved
    clear h wd inv
    go_enter Tryz.func117, Tryz.ntmps117
    go_wp2
    exact ⟨rfl, .inr ⟨rfl, Dr.refl w, fun j h1 h2 => by omega⟩⟩
  | succ d ih =>
    intro k hk w T P h wd hm inv c1 c2 n1 n2
    have hk7 : k < 7 := by omega
    have FF := h_firstFree h.hp h.reads wd k hk7 (inv.inside k hk7)
    have HFF := hide FF; have HH := hide h; have HWD := hide wd; have HI := hide inv; have HIH := hide @ih
    have HN := hide (And.intro n1 n2)
    clear FF h wd inv ih n1 n2
    unfold Halved
    go_enter Tryz.func117, Tryz.ntmps117
    go_wp2_with fail
    refine (unhide HFF).mono ?_
    clear HFF
    rintro e w1 ⟨⟨c, rfl, hc⟩ | ⟨rfl, hz⟩, D⟩
    · have c64 : c < 64 * gr nu k := gr_ge hk7 ((unhide HI).inside k hk7 c hc)
      have h1 := (unhide HH).still D.still
      have SF := h_setFree h1 (unhide HWD) (by omega) k c c64 false
      have HSF := hide SF
      have c1' : w1.cell? ⟨bh, 0, none⟩ = some (ptr hb) := D.still.cell' c1 (fun x => x)
      have HD := hide D
      clear SF h1 D
      go_wp2_with fail
      refine (unhide HSF).mono ?_
      clear HSF
      rintro e w2 ⟨rfl, g, t, bt', fg⟩
      have HT := hide (t.after (unhide HD).still); have HB := hide bt'; have HF := hide fg
      clear t bt' fg
      go_wp2
      go_ret
      refine .inl ⟨c, g, rfl, (unhide HI).inside k hk7 c hc, (unhide HT).le (by omega), unhide HB, ?_, ?_⟩
      · have := (unhide HI).clear hk7 hc
        rw [unhide HF]
        have e : (fun u => 0 + ind k c u) = ind k c := by funext u; omega
        rw [← e]; exact this
      · intro j hj
        rw [unhide HF]
        funext c'
        exact setF_other _ (by omega)
    · have h1 := (unhide HH).still D.still
      have c1' : w1.cell? ⟨bh, 0, none⟩ = some (ptr hb) := D.still.cell' c1 (fun x => x)
      have c2' : w1.cell? ⟨bt, 0, none⟩ = some (.func (.func 117) #[] #[ptr bh, ptr bt]) := D.still.cell' c2 (fun x => x)
      have RC := unhide HIH (k + 1) (by omega) h1 (unhide HWD) hm (unhide HI) c1' c2' (unhide HN).1 (unhide HN).2
      have ek : ((k + 1 : Nat) : Int) = (k : Int) + 1 := by omega
      rw [ek] at RC
      have HRC := hide RC; have HD := hide D; have HZ := hide hz
      have HH1 := hide h1
      clear RC h1 D hz
      go_wp2_with fail
      refine (unhide HRC).mono ?_
      clear HRC
      rintro e w2 (⟨c, g, rfl, hc, ⟨T2, P2, o, eg, el⟩, bg, ig, sg⟩ | ⟨rfl, D2, hz2⟩)
      · subst eg
        have h2 := (unhide HH1).call o
        have hc2 : 2 * c + 1 < nu / 2 ^ k := by
          rw [Nat.pow_succ, ← Nat.div_div_eq_div_mul] at hc
          omega
        have c64 : 2 * c + 1 < 64 * gr nu k := gr_ge hk7 hc2
        have hc5 : c ≤ 4000 := by have := Nat.div_le_self nu (2 ^ (k + 1)); have := (unhide HH1).hp.geo.hi; omega
        have SF := h_setFree h2 bg.wd (by omega) k (2 * c + 1) c64 true
        have e21 : ((2 * c + 1 : Nat) : Int) = 2 * (c : Int) + 1 := by omega
        rw [e21] at SF
        have HSF := hide SF
        have c1'' : w2.cell? ⟨bh, 0, none⟩ = some (ptr hb) := o.fr.cell' c1' (unhide HN).1
        have HO := hide o; have HBG := hide bg; have HIG := hide ig; have HSG := hide sg
        clear SF h2 o bg ig sg
        go_wp2_with fail
        refine (unhide HSF).mono ?_
        clear HSF
        rintro e w3 ⟨rfl, g3, t, b3, f3⟩
        have HT := hide ((To.trans (unhide HO) t).after (unhide HD).still); have HB := hide ((unhide HBG).trans b3); have HF := hide f3
        clear t b3 f3
        go_wp2
        go_ret
        refine .inl ⟨2 * c, g3, by simp, by omega, (unhide HT).le (by omega), unhide HB, ?_, ?_⟩
        · rw [unhide HF]
          refine (unhide HIG).set hk7 hc2 (fun u _ => ind_split k c u) (fun u _ hu => ?_) ?_
          · unfold ind; rw [if_neg]; rw [hu]; omega
          · right
            rw [unhide HSG k (by omega)]
            exact unhide HZ _
        · intro j hj
          rw [unhide HF, ← unhide HSG j (by omega)]
          funext c'
          exact setF_other _ (by omega)
      · refine ⟨rfl, .inr ⟨rfl, (unhide HD).trans D2, fun j h1 h2 c' => ?_⟩⟩
        by_cases e : j = k
        · subst e; exact unhide HZ c'
        · exact hz2 j (by omega) h2 c'

set_option maxHeartbeats 1000000 in
theorem h_halve (h : Hp nu sz w hb sb b T A P) (wd : Words64 nu (says P A)) (hm : P.length + 8 ≤ 6144) (inv : Inv nu (fre nu (says P A)) (ask nu (says P A)) (fun _ => 0)) (k : Nat) (hk : k < 7) :
    Calls Tryz.prog 97 #[ptr hb, .int .i64 k] w fun e w' => (∃ (c : Nat) (g : Nat → Int), e = .returned (.int .i64 c) ∧ c < nu / 2 ^ k ∧ To sz w sb b T A w' g (P.length + 8) ∧ Bits nu (says P A) g ∧ Inv nu (fre nu g) (ask nu (says P A)) (ind k c)) ∨
      (e = .panicked (errnoQ 60) ∧ Fr (fun _ => False) w w' ∧ ∀ j, k ≤ j → j < 7 → ∀ c, fre nu (says P A) j c = false) := by
  obtain ⟨W1, hW1⟩ : ∃ W1, w.alloc (.cells #[ptr hb] 25) = W1 := ⟨_, rfl⟩
  obtain ⟨W, hW⟩ : ∃ W, W1.alloc (.cells #[.func (.func 117) #[] #[ptr w.heap.size, ptr (w.heap.size + 1)]] 86) = W := ⟨_, rfl⟩
  have z1 : W1.heap.size = w.heap.size + 1 := by rw [← hW1]; simp
  have f1 : Still w W1 := hW1 ▸ (Fr.refl _ w).alloc _
  have f2 : Still W1 W := hW ▸ (Fr.refl _ W1).alloc _
  have fW : Still w W := f1.trans' f2 (fun _ x => x.elim)
  have b1 : Box W w.heap.size (ptr hb) := (hW1 ▸ Box.new w (ptr hb) 25 : Box W1 w.heap.size (ptr hb)).kept f2 (fun x => x)
  have b2 : Box W (w.heap.size + 1) (.func (.func 117) #[] #[ptr w.heap.size, ptr (w.heap.size + 1)]) := by
    have := Box.new W1 (.func (.func 117) #[] #[ptr w.heap.size, ptr (w.heap.size + 1)]) 86
    rw [hW, z1] at this; exact this
  have nt : ∀ k, w.heap.size ≤ k → ¬ tfoot sb b T k := fun k hk ht => by have := h.st.lt k ht; omega
  have RC := h_halveC (bh := w.heap.size) (bt := w.heap.size + 1) (7 - k) k (by omega) (h.still fW) wd hm inv b1.c b2.c (nt _ (by omega)) (nt _ (by omega))
  have HRC := hide RC; have HFW := hide fW
  rw [← hW1] at hW
  have HW := hide hW
  clear RC h wd inv b1 b2 nt fW f1 f2 z1 hW hW1
  go_enter Tryz.func97, Tryz.ntmps97
  go_wp2_with fail
  rw [unhide HW]
  refine (unhide HRC).mono ?_
  clear HRC
  rintro e w2 (⟨c, g, rfl, hc, t, bg, ig, sg⟩ | ⟨rfl, D2, hz2⟩)
  · have HX := hide (And.intro hc (And.intro ((t.after (unhide HFW)).le (by omega : _ ≤ P.length + 8)) (And.intro bg ig)))
    clear hc t bg ig sg
    go_wp2
    go_ret
    exact .inl ⟨c, g, rfl, unhide HX⟩
  · exact ⟨rfl, .inr ⟨rfl, (unhide HFW).trans' D2.still (fun _ x => x.elim), hz2⟩⟩

/-- The block and its other half. -/
theorem xor_one (c : Nat) (hc : c ≤ 65536) : bits .xor .i64 (c : Int) 1 = (bud c : Int) := by
  have hx : c ^^^ 1 = bud c := by
    unfold bud
    have h1 : (c ^^^ 1) / 2 = c / 2 := by rw [Nat.xor_div_two]; simp
    have h2 : (c ^^^ 1) % 2 = (c % 2) ^^^ 1 := Nat.xor_mod_two_pow (n := 1)
    split
    · rename_i e
      rw [e] at h2
      have h3 : (0 : Nat) ^^^ 1 = 1 := by decide
      omega
    · have e : c % 2 = 1 := by omega
      rw [e] at h2
      have h3 : (1 : Nat) ^^^ 1 = 0 := by decide
      omega
  have h1 : (BitVec.ofInt 64 (c : Int)).toNat = c := by
    rw [BitVec.ofInt_natCast, BitVec.toNat_ofNat]; exact Nat.mod_eq_of_lt (by omega)
  have h2 : (BitVec.ofInt 64 (1 : Int)).toNat = 1 := by decide
  show IntKind.i64.wrap ((BitVec.ofInt 64 (c : Int) ^^^ BitVec.ofInt 64 (1 : Int)).toNat : Int) = _
  rw [BitVec.toNat_xor, h1, h2, hx]
  have : bud c ≤ 65537 := by unfold bud; split <;> omega
  simp [IntKind.wrap, IntKind.bits, IntKind.signed]
  omega
theorem bud_gr {k c : Nat} (hk : k < 7) (hc : c < nu / 2 ^ k) : bud c < 64 * gr nu k := by
  unfold bud
  rw [gr_div hk]
  generalize nu / 2 ^ k = x at *
  split <;> omega

set_option maxHeartbeats 2000000 in
theorem h_joinC (d : Nat) : ∀ (k : Nat), k + d = 6 → ∀ {w : World} {T : Tay} {P : List (Int × Int)} {K : Nat → Nat} (c : Nat), Hp nu sz w hb sb b T A P → Words64 nu (says P A) → P.length + 8 ≤ 6144 + k → Inv nu (fre nu (says P A)) K (ind k c) → c < nu / 2 ^ k →
    w.cell? ⟨bh, 0, none⟩ = some (ptr hb) → w.cell? ⟨bt, 0, none⟩ = some (.func (.func 101) #[] #[ptr bh, ptr bt]) → ¬ tfoot sb b T bh → ¬ tfoot sb b T bt →
    Calls Tryz.prog 101 #[.int .i64 k, .int .i64 c, ptr bh, ptr bt] w fun e w' => e = .returned (.tuple #[]) ∧ ∃ g, To sz w sb b T A w' g (P.length + (7 - k)) ∧ Bits nu (says P A) g ∧ Inv nu (fre nu g) K (fun _ => 0) := by
  induction d with
  | zero =>
    intro k hk w T P K c h wd hm inv hc c1 c2 n1 n2
    have : k = 6 := by omega
    subst this
    have SF := h_setFree h wd (by omega) 6 c (gr_ge (by omega) hc) true
    have HSF := hide SF; have HI := hide inv
    clear SF h wd inv
    go_enter Tryz.func101, Tryz.ntmps101
    go_wp2_with fail
    refine (unhide HSF).mono ?_
    clear HSF
    rintro e w1 ⟨rfl, g, t, bg, fg⟩
    have HX := hide (And.intro t (And.intro bg fg))
    clear t bg fg
    go_wp2
    refine bodyPost_ret (results_none rfl _ _ _) rfl ?_
    obtain ⟨t, bg, fg⟩ := unhide HX
    refine ⟨rfl, g, t, bg, ?_⟩
    rw [fg]
    exact (unhide HI).set (by omega) hc (fun u _ => by simp) (fun _ _ _ => rfl) (.inl rfl)
  | succ d ih =>
    intro k hk w T P K c h wd hm inv hc c1 c2 n1 n2
    have hk7 : k < 7 := by omega
    have hn4 := h.hp.geo.hi
    have hc5 : c ≤ 4000 := by have := Nat.div_le_self nu (2 ^ k); omega
    have X1 := xor_one c (by omega)
    have hk6 : ((k : Int) == 6) = false := by simp; omega
    have hbd := bud_gr hk7 hc
    have IF := h_isFree h.hp h.reads wd k (bud c) hk7 hbd
    have bu5 : bud c ≤ 4001 := by unfold bud; split <;> omega
    have esub : (decide (bud c < nu / 2 ^ k) && fre nu (says P A) k (bud c)) = fre nu (says P A) k (bud c) := by
      cases e : fre nu (says P A) k (bud c)
      · simp
      · rw [decide_eq_true (inv.inside k hk7 _ e)]; rfl
    rw [esub] at IF
    have HIF := hide IF; have HI := hide inv; have HH := hide h; have HWD := hide wd; have HIH := hide @ih; have HN := hide (And.intro n1 n2)
    clear IF inv h wd ih n1 n2 esub
    go_enter Tryz.func101, Tryz.ntmps101
    go_wp2_with fail
    refine (unhide HIF).mono ?_
    clear HIF
    rintro e w1 ⟨rfl, D⟩
    have D : Dr w w1 := D
    have h1 := (unhide HH).still D.still
    have c1' : w1.cell? ⟨bh, 0, none⟩ = some (ptr hb) := D.still.cell' c1 (fun x => x)
    have c2' : w1.cell? ⟨bt, 0, none⟩ = some (.func (.func 101) #[] #[ptr bh, ptr bt]) := D.still.cell' c2 (fun x => x)
    have HD := hide D.still
    cases hfb : fre nu (says P A) k (bud c)
    · have SF := h_setFree h1 (unhide HWD) (by omega) k c (gr_ge hk7 hc) true
      have HSF := hide SF
      clear SF h1 D
      go_wp2_with fail
      refine (unhide HSF).mono ?_
      clear HSF
      rintro e w2 ⟨rfl, g, t, bg, fg⟩
      have HX := hide (And.intro ((t.after (unhide HD)).le (by omega : _ ≤ P.length + (7 - k))) (And.intro bg fg))
      clear t bg fg
      go_wp2
      refine bodyPost_ret (results_none rfl _ _ _) rfl ?_
      obtain ⟨t, bg, fg⟩ := unhide HX
      refine ⟨rfl, g, t, bg, ?_⟩
      rw [fg]
      exact (unhide HI).set hk7 hc (fun u _ => by simp) (fun _ _ _ => rfl) (.inr hfb)
    · have SF := h_setFree h1 (unhide HWD) (by omega) k (bud c) hbd false
      have HSF := hide SF; have HH1 := hide h1
      clear SF h1 D
      go_wp2_with fail
      refine (unhide HSF).mono ?_
      clear HSF
      rintro e w2 ⟨rfl, g, ⟨T2, P2, o, eg, el⟩, bg, fg⟩
      subst eg
      have h2 := (unhide HH1).call o
      have hbu := (unhide HI).inside k hk7 _ hfb
      have hc2 : c / 2 < nu / 2 ^ (k + 1) := by
        rw [Nat.pow_succ, ← Nat.div_div_eq_div_mul]
        have := bud_half c
        unfold bud at hbu
        split at hbu <;> omega
      have inv2 : Inv nu (fre nu (says P2 A)) K (ind (k + 1) (c / 2)) := by
        have := (unhide HI).clear hk7 hfb
        rw [← fg] at this
        have e : (fun u => ind k c u + ind k (bud c) u) = ind (k + 1) (c / 2) := by
          funext u
          rw [ind_split]
          unfold bud
          split
          · rw [show 2 * (c / 2) = c by omega]
          · rw [show 2 * (c / 2) = c - 1 by omega, show c - 1 + 1 = c by omega, Nat.add_comm]
        rw [e] at this; exact this
      have RC := unhide HIH (k + 1) (by omega) (c / 2) h2 bg.wd (by omega) inv2 hc2 (o.fr.cell' c1' (unhide HN).1) (o.fr.cell' c2' (unhide HN).2) (by
        have hlt : bh < w1.heap.size := World.block_lt_of_cell? _ _ c1'
        exact o.other hlt (unhide HN).1) (by
        have hlt : bt < w1.heap.size := World.block_lt_of_cell? _ _ c2'
        exact o.other hlt (unhide HN).2)
      have ek : ((k + 1 : Nat) : Int) = (k : Int) + 1 := by omega
      have ec : ((c / 2 : Nat) : Int) = (c : Int) / 2 := by omega
      rw [ek, ec] at RC
      have c2'' : w2.cell? ⟨bt, 0, none⟩ = some (.func (.func 101) #[] #[ptr bh, ptr bt]) := o.fr.cell' c2' (unhide HN).2
      have HRC := hide RC; have HO := hide o; have HBG := hide bg
      clear RC h2 o bg inv2 fg hc2 hbu
      go_wp2_with fail
      refine (unhide HRC).mono ?_
      clear HRC
      rintro e w3 ⟨rfl, g3, t, b3, i3⟩
      have HX := hide (And.intro (((To.trans (unhide HO) t).after (unhide HD)).le (by omega : _ ≤ P.length + (7 - k))) (And.intro ((unhide HBG).trans b3) i3))
      clear t b3 i3
      go_wp2
      go_end0
      exact ⟨rfl, g3, unhide HX⟩

set_option maxHeartbeats 1000000 in
theorem h_join {K : Nat → Nat} (h : Hp nu sz w hb sb b T A P) (wd : Words64 nu (says P A)) (hm : P.length + 8 ≤ 6144) (k c : Nat) (hk : k < 7) (inv : Inv nu (fre nu (says P A)) K (ind k c)) (hc : c < nu / 2 ^ k) :
    Calls Tryz.prog 73 #[ptr hb, .int .i64 k, .int .i64 c] w fun e w' => e = .returned (.tuple #[]) ∧ ∃ g, To sz w sb b T A w' g (P.length + 7) ∧ Bits nu (says P A) g ∧ Inv nu (fre nu g) K (fun _ => 0) := by
  obtain ⟨W1, hW1⟩ : ∃ W1, w.alloc (.cells #[ptr hb] 25) = W1 := ⟨_, rfl⟩
  obtain ⟨W, hW⟩ : ∃ W, W1.alloc (.cells #[.func (.func 101) #[] #[ptr w.heap.size, ptr (w.heap.size + 1)]] 108) = W := ⟨_, rfl⟩
  have z1 : W1.heap.size = w.heap.size + 1 := by rw [← hW1]; simp
  have f1 : Still w W1 := hW1 ▸ (Fr.refl _ w).alloc _
  have f2 : Still W1 W := hW ▸ (Fr.refl _ W1).alloc _
  have fW : Still w W := f1.trans' f2 (fun _ x => x.elim)
  have b1 : Box W w.heap.size (ptr hb) := (hW1 ▸ Box.new w (ptr hb) 25 : Box W1 w.heap.size (ptr hb)).kept f2 (fun x => x)
  have b2 : Box W (w.heap.size + 1) (.func (.func 101) #[] #[ptr w.heap.size, ptr (w.heap.size + 1)]) := by
    have := Box.new W1 (.func (.func 101) #[] #[ptr w.heap.size, ptr (w.heap.size + 1)]) 108
    rw [hW, z1] at this; exact this
  have nt : ∀ k, w.heap.size ≤ k → ¬ tfoot sb b T k := fun k hk ht => by have := h.st.lt k ht; omega
  have RC := h_joinC (bh := w.heap.size) (bt := w.heap.size + 1) (6 - k) k (by omega) c (h.still fW) wd (by omega) inv hc b1.c b2.c (nt _ (by omega)) (nt _ (by omega))
  have HRC := hide RC; have HFW := hide fW
  rw [← hW1] at hW
  have HW := hide hW
  clear RC h wd inv b1 b2 nt fW f1 f2 z1 hW hW1
  go_enter Tryz.func73, Tryz.ntmps73
  go_wp2_with fail
  rw [unhide HW]
  refine (unhide HRC).mono ?_
  clear HRC
  rintro e w2 ⟨rfl, g, t, bg, ig⟩
  have HX := hide (And.intro ((t.after (unhide HFW)).le (by omega : _ ≤ P.length + 7)) (And.intro bg ig))
  clear t bg ig
  go_wp2
  go_end0
  exact ⟨rfl, g, unhide HX⟩
end
end Go.Proofs.YtdgobaknbjlahaaGreatDoor
