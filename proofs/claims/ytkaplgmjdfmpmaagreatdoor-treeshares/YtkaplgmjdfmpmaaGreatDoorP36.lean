/- Joined: KsW. -/
import Derived.Test.YtkaplgmjdfmpmaaGreatDoorP32
import Derived.Test.YtkaplgmjdfmpmaaGreatDoorP35
namespace Go.Proofs.YtkaplgmjdfmpmaaGreatDoor
open Go.RowKit

section
def TsX (hb g n1 q : Nat) : Nat → Prop := fun k => k = hb ∨ k = g ∨ k = n1 ∨ k = n1 + 1 ∨ k = n1 + 2 ∨ k = q
structure TsH (w wr : World) (a1 : Int) (m q g n1 b hb sb : Nat) (T : Tay) (A : Ab) (s : Int) (base : Nat → Int) (r : Nat) (L : List Pr) (Q : List Nat) : Prop where
  hc : HpC 1467 12176 w (TsX hb g n1 q) wr hb sb b T A 3072 True s base
  t : Tre 1467 12176 (rb base) r L Q
  len : L.length = m
  ky : ∀ p ∈ L, ∃ j, j < m ∧ p.1 = kyB j
  bt : Box wr g (.int .i64 a1)
  bs : Box wr n1 (ptr sb)
  bh : Box wr (n1 + 1) (ptr hb)
  br : RtO wr (n1 + 2) r
  bi : Box wr q (.int .i64 (m : Nat))
  d : 0 < w.heap.size ∧ w.heap.size = g ∧ g < n1 ∧ hb < n1 ∧ g < hb ∧ n1 + 2 < q

theorem dif_ok {i0 i6 i7 k x y : Nat} (h1 : i6 ≤ i0 + 4 * k) (h2 : i7 ≤ i6) (hk : k ≤ 20) (e0 : 8 * (1467 - i0) = x) (e1 : 8 * (1467 - i7) = y) : ((x : Int) - y ≤ 1200) ∧ wrap64 ((x : Int) - y) = (x : Int) - y := by
  refine ⟨by omega, small_w64 (by omega)⟩
theorem cnt_ok {a b c n : Nat} (h : n + c = a + b) (hb : a + b ≤ 1000) : wrap64 ((a : Int) + b) = (a : Int) + b ∧ wrap64 ((a : Int) + b - c) = (n : Int) := by
  refine ⟨small_w64 (by omega), ?_⟩
  rw [small_w64 (by omega)]
  omega
set_option maxRecDepth 100000 in
set_option maxHeartbeats 8000000 in
theorem shares_ok (a0 a1 : Int) (w : World) (tab : TabL w) :
    Calls Tryz.prog 7 #[.int .i64 a0, .int .i64 a1] w fun e w' => e = .returned (.bool true) ∧ Below w.heap.size w w' := by
  have h1 := eq_nil_heap
  have h2 := mf
  obtain ⟨g, hg⟩ : ∃ g, w.heap.size = g := ⟨_, rfl⟩
  have l0 : 0 < g := by rw [← hg]; exact World.block_lt_of_cell? _ _ (tab 0 (by omega))
  obtain ⟨WA, hWA⟩ : ∃ WA, w.alloc (.cells #[.int .i64 a1] 3) = WA := ⟨_, rfl⟩
  have fA : Still w WA := hWA ▸ (Fr.refl _ w).alloc _
  have zA : WA.heap.size = g + 1 := by rw [← hWA]; simp [hg]
  have btA : Box WA g (.int .i64 a1) := by
    have := Box.new w (.int .i64 a1) 3
    rw [hWA, hg] at this; exact this
  have K : Calls Tryz.prog 8 #[.int .i64 24576] WA _ := l8_open geo24 (N := 3072) (by omega) WA (fun j hj => fA.cell' (tab j hj) (fun x => x))
  have HK := hide K; have HT := hide tab; have HB := hide (And.intro btA (And.intro fA zA)); have HWA := hide hWA
  clear K tab btA fA zA hWA
  go_enter Tryz.func7, Tryz.ntmps7
  go_wp2_with fail
  rw [unhide HWA]
  refine (unhide HK).mono ?_
  clear HK
  rintro e w1 ⟨b, sb, hb, T, A, base, rfl, hc, nw⟩
  obtain ⟨W1, hW1⟩ : ∃ W1, w1.alloc (.cells #[ptr sb] 23) = W1 := ⟨_, rfl⟩
  obtain ⟨W2, hW2⟩ : ∃ W2, W1.alloc (.cells #[ptr hb] 24) = W2 := ⟨_, rfl⟩
  obtain ⟨W3, hW3⟩ : ∃ W3, W2.alloc (.cells #[.int .u64 0, .slice none 0 0] 35) = W3 := ⟨_, rfl⟩
  obtain ⟨W4, hW4⟩ : ∃ W4, W3.alloc (.cells #[.int .i64 0] 3) = W4 := ⟨_, rfl⟩
  obtain ⟨n1, hn1⟩ : ∃ n1, w1.heap.size = n1 := ⟨_, rfl⟩
  have z1 : W1.heap.size = n1 + 1 := by rw [← hW1]; simp [hn1]
  have z2 : W2.heap.size = n1 + 2 := by rw [← hW2]; simp; omega
  have z3 : W3.heap.size = n1 + 3 := by rw [← hW3]; simp; omega
  have f12 : Still W1 W2 := hW2 ▸ (Fr.refl _ W1).alloc _
  have f23 : Still W2 W3 := hW3 ▸ (Fr.refl _ W2).alloc _
  have f34 : Still W3 W4 := hW4 ▸ (Fr.refl _ W3).alloc _
  have f24 : Still W2 W4 := f23.trans' f34 (fun _ x => x.elim)
  have f14 : Still W1 W4 := f12.trans' f24 (fun _ x => x.elim)
  have f04 : Still w1 W4 := (hW1 ▸ (Fr.refl _ w1).alloc _ : Still w1 W1).trans' f14 (fun _ x => x.elim)
  obtain ⟨btA, fA, zA⟩ := unhide HB
  have hc1 := hc.more (.cells #[ptr sb] 23)
  rw [hW1, hn1] at hc1
  have hc2 := hc1.more (.cells #[ptr hb] 24)
  rw [hW2, z1] at hc2
  have hc3 := hc2.more (.cells #[.int .u64 0, .slice none 0 0] 35)
  rw [hW3, z2] at hc3
  have hc4 := hc3.more (.cells #[.int .i64 0] 3)
  rw [hW4, z3] at hc4
  have lhb : hb < n1 := by rw [← hn1]; exact (hc.hd.xl hb hc.xh).2
  have ghb : g < hb := by have := (hc.hd.xl hb hc.xh).1; omega
  have lz : g + 1 ≤ n1 := by have := hc.hd.fr.size; omega
  have hcB := hc4.back (w0 := w) (Y := TsX hb g n1 (n1 + 3)) fA (by omega) (fun k hk => by
    rcases hk with rfl | rfl | rfl | rfl | rfl | rfl
    · exact .inl (.inl (.inl (.inl (.inl rfl))))
    · exact .inr ⟨by omega, by omega⟩
    · exact .inl (.inl (.inl (.inl (.inr rfl))))
    · exact .inl (.inl (.inl (.inr rfl)))
    · exact .inl (.inl (.inr rfl))
    · exact .inl (.inr rfl)) (.inl rfl)
  have bh2 : Box W2 (n1 + 1) (ptr hb) := by
    have := Box.new W1 (ptr hb) 24
    rw [hW2, z1] at this; exact this
  have st0 : TsH w W4 a1 0 (n1 + 3) g n1 b hb sb T A 43021 base 0 [] [] := by
    refine ⟨hcB, Tre.new nw, rfl, (fun p hp => by cases hp), ?_, ?_, bh2.kept f24 (fun x => x), ⟨?_⟩, ?_, ⟨by omega, hg, by omega, lhb, ghb, by omega⟩⟩
    · exact (btA.kept hc.hd.fr (fun x => x)).kept f04 (fun x => x)
    · have := Box.new w1 (ptr sb) 23
      rw [hW1, hn1] at this; exact this.kept f14 (fun x => x)
    · have := heap_alloc_new W2 (.cells #[.int .u64 0, .slice none 0 0] 35)
      rw [hW3, z2] at this; exact f34.obj this (fun x => x)
    · have := Box.new W3 (.int .i64 0) 3
      rw [hW4, z3] at this; exact this
  obtain ⟨M, hM⟩ : ∃ M, msk a0 63 = M := ⟨_, rfl⟩
  have hM63 : M ≤ 63 := by rw [← hM]; exact Nat.and_le_right
  have mk : bits .and .i64 a0 63 = (M : Int) := by rw [← hM]; exact mask63 a0
  have bhc := bh2.c
  rw [← hW2, ← hW1] at bhc
  have HST := hide st0; have HW := hide (And.intro hW1 (And.intro hW2 (And.intro hW3 hW4)))
  clear hc hc1 hc2 hc3 hc4 hcB nw st0 f12 f23 f34 f24 f14 f04 bh2 btA fA zA hW1 hW2 hW3 hW4 hM HB HWA z1 z2 z3
  go_wp2_with fail
  obtain ⟨hW1, hW2, hW3, hW4⟩ := unhide HW
  rw [hW1, hW2, hW3, hW4]
  clear hW1 hW2 hW3 hW4 HW bhc mk
  go_loopw [9] (fun iv wr => ∃ (m q : Nat) (T : Tay) (A : Ab) (s : Int) (base : Nat → Int) (r : Nat) (L : List Pr) (Q : List Nat), iv = ptr q ∧ m ≤ M ∧ s ≤ 43021 + 30729 * m ∧ TsH w wr a1 m q g n1 b hb sb T A s base r L Q) (fun iv wr => M - pxN iv wr)
  case atStart => exact ⟨0, n1 + 3, T, A, 43021, base, 0, [], [], rfl, by omega, by omega, unhide HST⟩
  case round =>
    clear HST
    obtain ⟨m, q, T, A, s, base, r, L, Q, rfl, hmM, hs, S⟩ := hrel
    generalize wr = wq at *
    clear wr
    have c1 := S.bi.c
    by_cases hlt : m < M
    · have hlt' : ((m : Int) < M) = True := by simp; omega
      have c3 := S.bs.c
      obtain ⟨d0, d1, d2, d3, d4, d5⟩ := S.d
      have sy := S.hc.says []
      rw [homed_nil] at sy
      have DO := put_doG (g := 33) (fi := #[]) (ca := #[ptr n1, ptr (n1 + 1), ptr (n1 + 2), ptr q]) (br := n1 + 2) (B := (RtO · (n1 + 2) ·)) (L' := putP L (kyB m) m) (fun w w' F r h f hn => h.kept f hn) S.hc (by simp [TsX]) (by omega) (fun _ _ => by kernel_rfl) (fun w1 f1 => tsC1 (i := m) (S.hc.toHp.still f1) (by rw [sy]; exact S.t) (by have := S.len; omega) (by simp) (by have := S.len; omega) (by omega) (f1.cell' S.bs.c (fun x => x)) (f1.cell' S.bh.c (fun x => x)) (S.br.kept f1 (fun x => x)) (f1.cell' S.bi.c (fun x => x)) (fun k hk => by
        rcases hk with rfl | rfl | rfl | rfl <;> exact S.hc.hd.ap _ (by simp [TsX])) (by omega)) (by omega)
      have HDO := hide DO; have HS := hide S
      clear DO S sy
      go_wp2_with fail
      refine (unhide HDO).mono ?_
      clear HDO
      rintro e w6 ⟨rfl, fr6, T6, A6, base6, r6, Q6, hc6, br6, h06, t6⟩
      have S := unhide HS
      have nx : ∀ k, TsX hb g n1 q k → k ≠ n1 + 2 → ¬ (tfoot sb b T k ∨ k = n1 + 2) := fun k hk h2 e => e.elim (S.hc.hd.ap k hk) h2
      have bt6 := S.bt.kept fr6 (nx _ (by simp [TsX]) (by omega))
      have bs6 := S.bs.kept fr6 (nx _ (by simp [TsX]) (by omega))
      have bh6 := S.bh.kept fr6 (nx _ (by simp [TsX]) (by omega))
      have bi6 := S.bi.kept fr6 (nx _ (by simp [TsX]) (by omega))
      have c6 := bi6.c
      obtain ⟨n6, hn6⟩ : ∃ n6, w6.heap.size = n6 := ⟨_, rfl⟩
      obtain ⟨W7, hW7⟩ : ∃ W7, w6.alloc (.cells #[.int .i64 ((m : Int) + 1)] 3) = W7 := ⟨_, rfl⟩
      have f7 : Still w6 W7 := hW7 ▸ (Fr.refl _ w6).alloc _
      have lq := bi6.lt
      have S7 : TsH w W7 a1 (m + 1) n6 g n1 b hb sb T6 A6 (s + 30729) base6 r6 (putP L (kyB m) m) Q6 := by
        have hc7 := hc6.more (.cells #[.int .i64 ((m : Int) + 1)] 3)
        rw [hW7, hn6] at hc7
        refine ⟨hc7.sub (fun k hk => ?_) (by simp [TsX]), t6, by rw [putP_new (ky_new S.ky (by omega)), S.len], ky_put S.ky, bt6.kept f7 (fun x => x), bs6.kept f7 (fun x => x), bh6.kept f7 (fun x => x), br6.kept f7 (fun x => x), ?_, ⟨d0, d1, d2, d3, d4, by omega⟩⟩
        · unfold TsX at hk ⊢
          rcases hk with e | e | e | e | e | e
          · exact .inl (.inl e)
          · exact .inl (.inr (.inl e))
          · exact .inl (.inr (.inr (.inl e)))
          · exact .inl (.inr (.inr (.inr (.inl e))))
          · exact .inl (.inr (.inr (.inr (.inr (.inl e)))))
          · exact .inr e
        · have := Box.new w6 (.int .i64 ((m : Int) + 1)) 3
          rw [hW7, hn6] at this; exact this
      have HS7 := hide S7; have HW7 := hide hW7
      have px := pxN_box S.bi; have px7 := pxN_box S7.bi
      have HPX := hide (And.intro px px7)
      clear S hc6 t6 bt6 bs6 bh6 bi6 br6 fr6 nx S7 f7 hW7 HS px px7
      go_wp2
      rw [unhide HW7]
      refine ⟨⟨m + 1, n6, T6, A6, s + 30729, base6, r6, _, Q6, rfl, by omega, by omega, unhide HS7⟩, ?_⟩
      obtain ⟨px, px7⟩ := unhide HPX
      have px7' : pxN (.pointer (some ⟨n6, 0, none⟩)) W7 = m + 1 := px7
      rw [px, px7']
      omega
    · have em : m = M := by omega
      subst em
      have hlt' : ((m : Int) < m) = False := by simp
      obtain ⟨d0, d1, d2, d3, d4, d5⟩ := S.d
      have sy := S.hc.says []
      rw [homed_nil] at sy
      obtain ⟨fr0, hfr0⟩ : ∃ x, 8 * (1467 - inP 1467 (ask 1467 (rb base))) = x := ⟨_, rfl⟩
      have FR := h_free S.hc.toHp.hp S.hc.toHp.reads fr0 (by omega) (by rw [sy, S.t.st.fr, hfr0])
      obtain ⟨n5, hn5⟩ : ∃ n5, wq.heap.size = n5 := ⟨_, rfl⟩
      obtain ⟨W5, hW5⟩ : ∃ W5, wq.alloc (.cells #[.int .u64 0] 27) = W5 := ⟨_, rfl⟩
      have f5 : Still wq W5 := hW5 ▸ (Fr.refl _ wq).alloc _
      have hc5 := S.hc.more (.cells #[.int .u64 0] 27)
      rw [hW5, hn5] at hc5
      have lq := S.bi.lt
      have b25 : Box W5 n5 (.int .u64 0) := by
        have := Box.new wq (.int .u64 0) 27
        rw [hW5, hn5] at this; exact this
      have bs5 := S.bs.kept f5 (fun x => x); have bh5 := S.bh.kept f5 (fun x => x); have br5 := S.br.kept f5 (fun x => x); have bt5 := S.bt.kept f5 (fun x => x)
      have DO := two_do (g := 35) (fi := #[]) (ca := #[ptr n1, ptr (n1 + 1), ptr (n1 + 2), ptr g, ptr n5]) (b2 := n5) (L' := putP L (kyB (msk a1 63)) 99) hc5 (.inr rfl) (by omega) (fun _ _ => by kernel_rfl) (fun w3 f3 => (tsC2 (hc5.toHp.still f3) (by rw [sy]; exact S.t) (by have := S.len; omega) (by simp) (by have := S.len; omega) (f3.cell' bs5.c (fun x => x)) (f3.cell' bh5.c (fun x => x)) (br5.kept f3 (fun x => x)) (f3.cell' bt5.c (fun x => x)) (b25.kept f3 (fun x => x)) (fun k hk => by
        rcases hk with rfl | rfl | rfl | rfl | rfl
        · exact hc5.hd.ap _ (.inl (by simp [TsX]))
        · exact hc5.hd.ap _ (.inl (by simp [TsX]))
        · exact hc5.hd.ap _ (.inl (by simp [TsX]))
        · exact hc5.hd.ap _ (.inl (by simp [TsX]))
        · exact hc5.hd.ap _ (.inr rfl)) (by omega)).mono (by rw [sy]; exact fun _ _ h => h)) (by omega)
      have c2 := S.bh.c; have c3 := bs5.c
      have HFR := hide FR; have HDO := hide DO; have HS := hide (And.intro S sy); have HX5 := hide (And.intro hc5 (And.intro bs5 (And.intro bh5 (And.intro br5 bt5)))); have HW5 := hide hW5
      rw [← hW5] at c3
      clear FR DO S sy hc5 bs5 bh5 br5 bt5 b25 f5 hW5
      go_wp2_with fail
      refine (unhide HFR).mono ?_
      rintro e w' ⟨rfl, hh⟩
      replace hh := hh.symm
      subst hh
      clear HFR c2
      go_wp2_with fail
      rw [unhide HW5]
      refine (unhide HDO).mono ?_
      clear HDO c3 c1
      rintro e w6 ⟨rfl, fr6, T6, A6, base6, r6, Q6, k6, hc6, b26, h06, hk6, ch6, rt6⟩
      obtain ⟨S, sy⟩ := unhide HS
      obtain ⟨hc5, bs5, bh5, br5, bt5⟩ := unhide HX5
      have nx : ∀ k, TsX hb g n1 q k → ¬ (tfoot sb b T k ∨ k = n5) := fun k hk e => e.elim (S.hc.hd.ap k hk) (fun e => by have := (S.hc.hd.xl k hk).2; omega)
      have bs6 := bs5.kept fr6 (nx _ (by simp [TsX])); have bh6 := bh5.kept fr6 (nx _ (by simp [TsX])); have br6 := br5.kept fr6 (nx _ (by simp [TsX]))
      have sy6 := hc6.says []
      rw [homed_nil] at sy6
      have ln6 := putP_len (kyB (msk a1 63)) 99 L
      have hlen := S.len
      have rtq : Rt 1467 12176 (rb base6) r L Q := S.t.rt.same fun v hv => ch6.sam v (S.t.rt.asked v hv)
      have tw : Two 1467 12176 (rb base6) r L Q r6 (putP L (kyB (msk a1 63)) 99) Q6 := ⟨ch6.st, rtq, rt6, ⟨S.t.ri, putP_rise S.t.ri⟩, by omega, by omega⟩
      have cn6 := ch6.few; have cn0 := S.t.cnt
      have DO := sweep_do (g := 36) (fi := #[]) (ca := #[ptr n1, ptr (n1 + 1), ptr (n1 + 2), ptr n5]) (U := Q ++ Q6) hc6 (fun _ _ => by kernel_rfl) (fun w3 f3 => (tsC3 (hc6.toHp.still f3) (by rw [sy6]; exact tw) (by simp) (by rw [sy6]; omega) (f3.cell' bs6.c (fun x => x)) (f3.cell' bh6.c (fun x => x)) (br6.kept f3 (fun x => x)) (f3.cell' b26.c (fun x => x))).mono (by rw [sy6]; exact fun _ _ h => h)) (by omega)
      have c3 := bs6.c
      have HDO := hide DO; have HX6 := hide (And.intro hc6 (And.intro bs6 (And.intro bh6 (And.intro br6 (And.intro b26 (And.intro ch6 (And.intro tw hk6)))))))
      clear DO S sy hc5 bs5 bh5 br5 bt5 nx bs6 bh6 br6 b26 sy6 ln6 hlen rtq tw cn6 cn0 hc6 ch6 rt6 hk6 fr6 HX5
      go_wp2_with fail
      refine (unhide HDO).mono ?_
      clear HDO c3
      rintro e w7 ⟨rfl, fr7, T7, A7, base7, hc7, sw7⟩
      obtain ⟨S, sy⟩ := unhide HS
      obtain ⟨hc6, bs6, bh6, br6, b26, ch6, tw, hk6⟩ := unhide HX6
      have nx : ∀ k, (TsX hb g n1 q k ∨ k = n5) → ¬ (tfoot sb b T6 k ∨ False) := fun k hk e => e.elim (hc6.hd.ap k hk) id
      have bs7 := bs6.kept fr7 (nx _ (.inl (by simp [TsX]))); have bh7 := bh6.kept fr7 (nx _ (.inl (by simp [TsX]))); have br7 := br6.kept fr7 (nx _ (.inl (by simp [TsX]))); have b27 := b26.kept fr7 (nx _ (.inr rfl))
      have sy7 := hc7.says []
      rw [homed_nil] at sy7
      have ra7 : Rt 1467 12176 (rb base7) r L Q := tw.rt.same fun v hv => sw7.sam (List.mem_append_left _ hv)
      have rb7 : Rt 1467 12176 (rb base7) r6 (putP L (kyB (msk a1 63)) 99) Q6 := tw.rt2.same fun v hv => sw7.sam (List.mem_append_right _ hv)
      have hp7 := hc7.toHp
      have PA : ∀ w8, Still w7 w8 → Calls Tryz.prog 37 #[ptr sb, ptr hb, .int .u64 (r : Nat)] w8 _ := fun w8 f8 => y_PiecesR (hp7.still f8) (by rw [sy7]; exact sw7.st) (by rw [sy7]; exact ra7) tw.ri.1 (by have := tw.ln; omega)
      have PB : ∀ w8, Still w7 w8 → Calls Tryz.prog 37 #[ptr sb, ptr hb, .int .u64 (r6 : Nat)] w8 _ := fun w8 f8 => y_PiecesR (hp7.still f8) (by rw [sy7]; exact sw7.st) (by rw [sy7]; exact rb7) tw.ri.2 (by have := tw.ln; omega)
      have fD : Still w7 w7.drew := (Fr.refl _ w7).drewN 1
      have c1 := bs7.c; have c2 := bh7.c; have c3 : w7.cell? ⟨n1 + 2, 0, none⟩ = some (.int .u64 (r : Nat)) := cell_of_obj br7.o 0
      have c4 := b27.c
      have HPA := @hide _ PA; have HPB := @hide _ PB
      have HX7 := hide (And.intro hc7 (And.intro sw7 (And.intro ra7 (And.intro rb7 (And.intro bh7 fD)))))
      clear PA PB S sy hc6 bs6 bh6 br6 b26 ch6 tw hk6 nx bs7 bh7 br7 b27 sy7 ra7 rb7 hp7 hc7 sw7 fr7 fD
      go_wp2_with fail
      refine wp_region_held_drew (S := fun w' => w'.cell? ⟨n1, 0, none⟩ = some (ptr sb) ∧ w'.cell? ⟨n1 + 1, 0, none⟩ = some (ptr hb) ∧ w'.cell? ⟨n1 + 2, 0, none⟩ = some (.int .u64 (r : Nat)) ∧ w'.cell? ⟨n5, 0, none⟩ = some (.int .u64 (r6 : Nat))) (by kernel_rfl) ⟨c1, c2, c3, c4⟩ (fun hHeld => ?_)
      refine take_l 0 (v := ?_) rfl (by kernel_rfl) (by kernel_rfl) (by kernel_rfl) (fun _ _ _ h => h) (Or.inl ⟨by rfl, ?_⟩) hHeld ?_
      rotate_left
      · (intro w hSw; (try dsimp only at hSw); go_simp; (try with_reducible rfl))
      simp only [Act.put, List.setIfInBounds_toArray, List.set_cons_zero, List.set_cons_succ]
      refine take_l 1 (v := ?_) rfl (by kernel_rfl) (by kernel_rfl) (by kernel_rfl) (fun _ _ _ h => h) (Or.inl ⟨by rfl, ?_⟩) hHeld ?_
      rotate_left
      · (intro w hSw; (try dsimp only at hSw); go_simp; (try with_reducible rfl))
      simp only [Act.put, List.setIfInBounds_toArray, List.set_cons_zero, List.set_cons_succ]
      refine take_l 2 (v := ?_) rfl (by kernel_rfl) (by kernel_rfl) (by kernel_rfl) (fun _ _ _ h => h) (Or.inl ⟨by rfl, ?_⟩) hHeld ?_
      rotate_left
      · (intro w hSw; (try dsimp only at hSw); go_simp; (try with_reducible rfl))
      simp only [Act.put, List.setIfInBounds_toArray, List.set_cons_zero, List.set_cons_succ]
      refine take_l 3 (v := ?_) rfl (by kernel_rfl) (by kernel_rfl) (by kernel_rfl) (fun _ _ _ h => h) (Or.inl ⟨by rfl, ?_⟩) hHeld ?_
      rotate_left
      · (intro w hSw; (try dsimp only at hSw); go_simp; (try with_reducible rfl))
      simp only [Act.put, List.setIfInBounds_toArray, List.set_cons_zero, List.set_cons_succ]
      refine take_l 5 (v := ?_) rfl (by kernel_rfl) (by kernel_rfl) (by kernel_rfl) (fun _ _ _ h => h) (Or.inl ⟨by rfl, ?_⟩) hHeld ?_
      rotate_left
      · (intro w hSw; (try dsimp only at hSw); go_simp; (try with_reducible rfl))
      simp only [Act.put, List.setIfInBounds_toArray, List.set_cons_zero, List.set_cons_succ]
      refine take_l 6 (v := ?_) rfl (by kernel_rfl) (by kernel_rfl) (by kernel_rfl) (fun _ _ _ h => h) (Or.inl ⟨by rfl, ?_⟩) hHeld ?_
      rotate_left
      · (intro w hSw; (try dsimp only at hSw); go_simp; (try with_reducible rfl))
      simp only [Act.put, List.setIfInBounds_toArray, List.set_cons_zero, List.set_cons_succ]
      refine take_l 7 (v := ?_) rfl (by kernel_rfl) (by kernel_rfl) (by kernel_rfl) (fun _ _ _ h => h) (Or.inl ⟨by rfl, ?_⟩) hHeld ?_
      rotate_left
      · (intro w hSw; (try dsimp only at hSw); go_simp; (try with_reducible rfl))
      simp only [Act.put, List.setIfInBounds_toArray, List.set_cons_zero, List.set_cons_succ]
      refine wpAnyH_ready (rs := [4]) (by kernel_rfl) (by simp) ?_
      refine AllReadyH.cons rfl (fun K hK => ?_) AllReadyH.nil
      go_simp
      go_wp2_with fail
      refine (unhide HPA _ (unhide HX7).2.2.2.2.2).mono ?_
      clear HPA
      rintro e w8 ⟨aa, ca, ta, rfl, ma, la, rowa, f8d⟩
      have f8 : Still w7 w8 := (unhide HX7).2.2.2.2.2.trans' f8d (fun _ x => x.elim)
      have HA := hide (And.intro ma (And.intro la (own_lo rowa (lo := w7.heap.size) (Nat.le_refl _))))
      have HPB8 := hide (unhide HPB w8 f8)
      clear ma la rowa f8d HPB
      have hS8 := (⟨f8.cell' c1 (fun x => x), f8.cell' c2 (fun x => x), f8.cell' c3 (fun x => x), f8.cell' c4 (fun x => x)⟩ : w8.cell? ⟨n1, 0, none⟩ = some (ptr sb) ∧ w8.cell? ⟨n1 + 1, 0, none⟩ = some (ptr hb) ∧ w8.cell? ⟨n1 + 2, 0, none⟩ = some (.int .u64 (r : Nat)) ∧ w8.cell? ⟨n5, 0, none⟩ = some (.int .u64 (r6 : Nat)))
      refine hK.out _ _ hS8 (fun _ => ?_)
      clear hK K hHeld
      refine wpAnyH_ready (rs := [8]) (by kernel_rfl) (by simp) ?_
      refine AllReadyH.cons rfl (fun K hK => ?_) AllReadyH.nil
      go_simp
      go_wp2_with fail
      refine (unhide HPB8).mono ?_
      clear HPB8
      rintro e w9 ⟨ab, cb, tb, rfl, mb, lb, rowb, f9⟩
      have f79 : Still w7 w9 := f8.trans' f9 (fun _ x => x.elim)
      have hS9 := (⟨f79.cell' c1 (fun x => x), f79.cell' c2 (fun x => x), f79.cell' c3 (fun x => x), f79.cell' c4 (fun x => x)⟩ : w9.cell? ⟨n1, 0, none⟩ = some (ptr sb) ∧ w9.cell? ⟨n1 + 1, 0, none⟩ = some (ptr hb) ∧ w9.cell? ⟨n1 + 2, 0, none⟩ = some (.int .u64 (r : Nat)) ∧ w9.cell? ⟨n5, 0, none⟩ = some (.int .u64 (r6 : Nat)))
      have HBB := hide (And.intro mb (And.intro lb (And.intro rowb (And.intro f9 f79))))
      clear mb lb rowb f9 f79 f8
      refine hK.out _ _ hS9 (fun _ => ?_)
      clear hK K hS8
      refine wpAnyH_ready (rs := [9]) (by kernel_rfl) (by simp) ?_
      refine AllReadyH.cons rfl (fun K hK => ?_) AllReadyH.nil
      go_simp
      refine hK.out _ _ hS9 (fun _ => ?_)
      clear hK K
      refine wpAnyH_ready (rs := [10]) (by kernel_rfl) (by simp) ?_
      refine AllReadyH.cons rfl (fun K hK => ?_) AllReadyH.nil
      go_simp
      refine hK.out _ _ hS9 (fun _ => ?_)
      clear hK K
      refine wpAnyH_done (by kernel_rfl) ?_ _
      clear c1 c2 c3 c4
      obtain ⟨c1, c2, c3, c4⟩ := hS9
      obtain ⟨ma, la, rowa8⟩ := unhide HA
      obtain ⟨mb, lb, rowb9, f9, f79⟩ := unhide HBB
      have lnA : ta.length ≤ 126 := by have := (unhide HX7).2.2.1.few; have := (unhide HS).1.len; omega
      have lnB : tb.length ≤ 128 := by have := (unhide HX7).2.2.2.1.few; have := (unhide HS).1.len; have := putP_len (kyB (msk a1 63)) 99 L; omega
      have SA := (sl_of_row rowa8 (int_one ta)).still f9
      have SB := sl_of_row rowb9 (int_one tb)
      have HSA := hide SA; have HSB := hide SB
      clear ma la rowa8 mb lb rowb9 f9 f79 SA SB
      go_wp2_with fail
      go_loopw [15, 16] (fun nv iv wr => ∃ (i c : Nat), i ≤ ta.length ∧ iv = .int .i64 (i : Nat) ∧ nv = .int .i64 (c : Nat) ∧ c = ((ta.take i).map fun x => tb.count x).sum ∧ ∃ nq, wr = w9.drewN nq) (fun nv iv wr => ta.length - (intOf iv).toNat)
      case atStart => exact ⟨0, 0, by omega, rfl, rfl, rfl, 0, rfl⟩
      case round =>
        obtain ⟨i, c, hi, rfl, rfl, hcs, nq, hwr⟩ := hrel
        have hcb : c ≤ 128 * i := by
          rw [hcs]
          clear hcs
          have : ∀ l : List Int, (l.map fun x => tb.count x).sum ≤ 128 * l.length := fun l => by
            induction l with
            | nil => simp
            | cons a l ih =>
              rw [List.map_cons, List.sum_cons, List.length_cons]
              have := List.count_le_length (a := a) (l := tb)
              omega
          have h2 := this (ta.take i)
          rw [List.length_take, Nat.min_eq_left hi] at h2
          exact h2
        generalize wr = wo at *
        clear wr
        have fo : Still w9 wo := hwr ▸ (Fr.refl _ w9).drewN nq
        by_cases hlt : i < ta.length
        · have hlt' : ((i : Int) < ta.length) = True := by simp; omega
          obtain ⟨x, hx⟩ : ∃ x, ta[i]? = some x := ⟨_, List.getElem?_eq_getElem hlt⟩
          obtain ⟨b0, o0, rfl, cx⟩ := (unhide HSA).cells i (.int .i64 x) (by rw [List.getElem?_map, hx]; rfl)
          have HI := hide (And.intro hcs (And.intro hx (And.intro hwr fo)))
          have cx9 := cx
          clear hcs hx hwr fo cx
          go_wp2_with fail
          go_loopw [15, 17] (fun nv kv wr => ∃ (k c' : Nat), k ≤ tb.length ∧ kv = .int .i64 (k : Nat) ∧ nv = .int .i64 (c' : Nat) ∧ c' = c + (tb.take k).count x ∧ ∃ nq, wr = w9.drewN nq) (fun nv kv wr => tb.length - (intOf kv).toNat)
          case atStart => exact ⟨0, c, by omega, rfl, rfl, by simp, nq, (unhide HI).2.2.1⟩
          case round =>
            obtain ⟨k, c', hk, rfl, rfl, hcs, nq2, hwr⟩ := hrel
            have hcb2 : c' ≤ 128 * i + 128 := by
              have := List.count_le_length (a := x) (l := tb.take k)
              rw [List.length_take] at this
              omega
            generalize wr = wi at *
            clear wr
            have fi : Still w9 wi := hwr ▸ (Fr.refl _ w9).drewN nq2
            by_cases hlt2 : k < tb.length
            · have hlt2' : ((k : Int) < tb.length) = True := by simp; omega
              obtain ⟨y, hy⟩ : ∃ y, tb[k]? = some y := ⟨_, List.getElem?_eq_getElem hlt2⟩
              obtain ⟨b1, o1, rfl, cy9⟩ := (unhide HSB).cells k (.int .i64 y) (by rw [List.getElem?_map, hy]; rfl)
              have cx := fi.cell' cx9 (fun x => x); have cy := fi.cell' cy9 (fun x => x)
              have HJ := hide (And.intro hcs (And.intro hy hwr))
              clear hcs hy hwr fi cx9 cy9
              by_cases hxy : x = y
              · have e1 : (x == y) = true := by simp [hxy]
                clear hxy
                go_upto_region 28 with fail
                go_quiet (fail)
                clear cx cy
                go_wp2
                obtain ⟨hcs, hy, hwr⟩ := unhide HJ
                refine ⟨⟨k + 1, c' + 1, by omega, by go_num, by go_num, ?_, nq2 + nq, ?_⟩, by simp [intOf]; omega⟩
                · have ex : x = y := by simpa using e1
                  rw [hcs, List.take_add_one, hy, List.count_append, ex]
                  simp
                  omega
                · rw [hwr, World.drewN_drewN]
              · have e1 : (x == y) = false := by simp [hxy]
                have HXY := hide hxy
                clear hxy
                go_upto_region 28 with fail
                go_quiet (fail)
                clear cx cy
                go_wp2
                obtain ⟨hcs, hy, hwr⟩ := unhide HJ
                refine ⟨⟨k + 1, c', by omega, by go_num, rfl, ?_, nq2 + nq, ?_⟩, by simp [intOf]; omega⟩
                · have ey : ¬ y = x := fun e => unhide HXY e.symm
                  rw [hcs, List.take_add_one, hy, List.count_append]
                  simp [ey]
                · rw [hwr, World.drewN_drewN]
            · have ek : k = tb.length := by omega
              have hlt2' : ((k : Int) < tb.length) = False := by simp; omega
              have HJ := hide (And.intro hcs (And.intro hwr ek))
              clear hcs hwr fi ek
              go_wp2
              obtain ⟨hcs, hwr, ek⟩ := unhide HJ
              obtain ⟨hc0, hx, _⟩ := unhide HI
              refine ⟨⟨i + 1, c', by omega, by go_num, rfl, ?_, nq2, hwr⟩, by simp [intOf]; omega⟩
              rw [hcs, hc0, ek, List.take_length, List.take_add_one, hx, List.map_append, List.sum_append]
              simp
        · have ei : i = ta.length := by omega
          have hlt' : ((i : Int) < ta.length) = False := by simp; omega
          obtain ⟨ma, la, rowa8⟩ := unhide HA
          obtain ⟨mb, lb, rowb9, f9, f79⟩ := unhide HBB
          obtain ⟨hc7, sw7, ra7, rb7, bh7, fD⟩ := unhide HX7
          obtain ⟨S, sy⟩ := unhide HS
          obtain ⟨hc6, bs6, bh6, br6, b26, ch6, tw, hk6⟩ := unhide HX6
          have f7o : Still w7 wo := f79.trans' fo (fun _ x => x.elim)
          have bho := bh7.kept f7o (fun x => x)
          have sy7 := hc7.says []
          rw [homed_nil] at sy7
          have hpo := hc7.toHp.still f7o
          obtain ⟨fr1, hfr1⟩ : ∃ x, 8 * (1467 - inP 1467 (ask 1467 (rb base7))) = x := ⟨_, rfl⟩
          have FR := h_free hpo.hp hpo.reads fr1 (by omega) (by rw [sy7, sw7.st.fr, hfr1])
          have PC := h_pieces hpo (by rw [sy7]; exact sw7.st)
          rw [sy7] at PC
          have dA : Q.Nodup := by
            rcases ra7 with ⟨_, _, rfl⟩ | ⟨_, _, _, t⟩
            · exact List.nodup_nil
            · exact t.nodup tw.ri.1
          have dB : Q6.Nodup := by
            rcases rb7 with ⟨_, _, rfl⟩ | ⟨_, _, _, t⟩
            · exact List.nodup_nil
            · exact t.nodup tw.ri.2
          have lA : ∀ v ∈ Q, v < 1467 := fun v hv => (sw7.st.inv.asks v (ra7.asked v hv)).1
          have lB : ∀ v ∈ Q6, v < 1467 := fun v hv => (sw7.st.inv.asks v (rb7.asked v hv)).1
          have hK : ∀ u, ask 1467 (rb base7) u ≠ 0 ↔ u ∈ Q ∨ u ∈ Q6 := fun u => by
            constructor
            · intro h
              exact List.mem_append.1 (Decidable.byContradiction fun hn => h (by rw [sw7.ak, if_neg hn]))
            · rintro (h | h)
              · exact ra7.asked u h
              · exact rb7.asked u h
          have SC := share_count dA dB lA lB hK
          have hcin : c = (Q.map fun v => if v ∈ Q6 then 1 else 0).sum := by
            rw [hcs, ei, List.take_length]
            exact count_in dB (pl_perm dA ma la) (pl_perm dB mb lb)
          rw [← hcin, ← la, ← lb] at SC
          have iu := ch6.used
          have iu2 : inP 1467 (ask 1467 (rb base7)) ≤ inP 1467 (ask 1467 (rb base6)) := inP_le fun u => by
            rw [sw7.ak]
            by_cases h : u ∈ Q ++ Q6
            · exact .inl (if_pos h)
            · exact .inr (if_neg h)
          obtain ⟨hdif, wr1⟩ := dif_ok iu iu2 hk6 hfr0 hfr1
          obtain ⟨wr2, wr3⟩ := cnt_ok SC (Nat.le_trans (Nat.add_le_add lnA lnB) (by decide))
          generalize cnt 1467 (ask 1467 (rb base7)) = cc at *
          have HFR := hide FR; have HPC := hide PC
          have c9 := bho.c
          have HFW := hide ((hc7.hd.fr.trans' f7o (fun _ x => x.elim)))
          have hd1 := eq_true hdif
          clear ma la rowa8 mb lb rowb9 f9 f79 hc7 sw7 ra7 rb7 bh7 fD S sy hc6 bs6 bh6 br6 b26 ch6 tw hk6 f7o bho sy7 hpo FR PC dA dB lA lB hK SC hcin iu iu2 fo hwr hcs ei hfr0 hfr1
          clear hdif
          go_wp2_with fail
          refine (unhide HFR).mono ?_
          rintro e w' ⟨rfl, hh⟩
          replace hh := hh.symm
          subst hh
          clear HFR
          go_wp2_with fail
          refine (unhide HPC).mono ?_
          rintro e w10 ⟨vp, rfl, ow, f10⟩
          obtain ⟨ap, cap, rfl⟩ : ∃ ap cap, vp = .slice ap cc cap := by
            rcases row_form ow with ⟨e, h0⟩ | ⟨gp, capp, e⟩
            · exact ⟨none, 0, by rw [e, h0]⟩
            · exact ⟨_, capp, e⟩
          have fW := (unhide HFW).trans' f10 (fun _ x => x.elim)
          have AW := l11_awake w10 (fun j hj => fW.cell' (unhide HT j hj) (fun x => x))
          have HAW := hide AW; have HFW2 := hide fW
          clear HPC ow f10 fW AW c9 HFW
          go_wp2_with fail
          refine (unhide HAW).mono ?_
          rintro e w11 ⟨rfl, f11⟩
          have HF := hide ((unhide HFW2).trans' f11 (fun _ x => x.elim))
          clear HAW HFW2 f11
          go_wp2
          go_ret
          have f := unhide HF
          exact ⟨by simp, f.os, f.tape, f.output, f.size, fun k hk => f.block k (by omega) (fun x => x)⟩
end
end Go.Proofs.YtkaplgmjdfmpmaaGreatDoor
