/- Joined: KwW. -/
import Derived.Test.YtkaplgmjdfmpmaaGreatDoorP32
namespace Go.Proofs.YtkaplgmjdfmpmaaGreatDoor
open Go.RowKit

section
attribute [local go_sem] Oper.semAt_some

def TwX (hb g n1 q : Nat) : Nat → Prop := fun k => k = hb ∨ k = g ∨ k = g + 1 ∨ k = n1 ∨ k = n1 + 1 ∨ k = n1 + 2 ∨ k = q
structure TwH (w wr : World) (a2 : Int) (M m q g n1 b hb sb : Nat) (T : Tay) (A : Ab) (s : Int) (base : Nat → Int) (r : Nat) (L : List Pr) (Q : List Nat) : Prop where
  hc : HpC 1467 12176 w (TwX hb g n1 q) wr hb sb b T A 3072 True s base
  t : Tre 1467 12176 (rb base) r L Q
  len : L.length = m
  ky : ∀ p ∈ L, ∃ j, j < m ∧ p.1 = kyB j
  bn : Box wr g (.int .i64 (M : Nat))
  bt : Box wr (g + 1) (.int .i64 a2)
  bs : Box wr n1 (ptr sb)
  bh : Box wr (n1 + 1) (ptr hb)
  br : Box wr (n1 + 2) (.int .u64 (r : Nat))
  bi : Box wr q (.int .i64 (m : Nat))
  d : 0 < w.heap.size ∧ w.heap.size = g ∧ g + 1 < n1 ∧ hb < n1 ∧ g + 1 < hb ∧ n1 + 2 < q

theorem wpOf_named {P : Program} {f : FuncId} {c : Code} {Q : Exit → Act → World → Prop} {a : Act} {w : World} (h : ∀ a', a' = a → wpOf P f c Q a' w) : wpOf P f c Q a w := h a rfl
def TwG (g n7 : Nat) (v : Value) (b : Nat) : Prop := b = g ∨ b = g + 1 ∨ b = n7 ∨ b = n7 + 1 ∨ b = n7 + 2 ∨ b = n7 + 3 ∨ v.ownBlock = some b
structure TwJ (lo g n7 m F Kt : Nat) (v : Value) (L : List Pr) (k : Nat) (G : Nat → Prop) (W : World) : Prop where
  inc : ∀ b, G b ↔ TwG g n7 v b
  bn : Box W g (.int .i64 (m : Nat))
  bt : Box W (g + 1) (.int .i64 (Kt : Nat))
  ba : Box W n7 v
  bf : Box W (n7 + 1) (.int .i64 (F : Nat))
  bk : Box W (n7 + 2) (.int .i64 (k : Nat))
  bo : Box W (n7 + 3) (.bool true)
  row : W.ownsRow lo 43 2 v m (pcl L)
  le : k ≤ Kt
  sz : n7 + 9 ≤ W.heap.size
  gn : g + 1 < n7 ∧ ∀ b, v.ownBlock = some b → lo ≤ b ∧ b < n7
theorem TwJ.kept {lo g n7 m F Kt : Nat} {v : Value} {L : List Pr} {k : Nat} {G O : Nat → Prop} {W W' : World} (h : TwJ lo g n7 m F Kt v L k G W) (f : Fr O W W') (ho : ∀ b, O b → ¬ TwG g n7 v b) : TwJ lo g n7 m F Kt v L k G W' :=
  have no : ∀ b, TwG g n7 v b → ¬ O b := fun b hb x => ho b x hb
  ⟨h.inc, h.bn.kept f (no _ (.inl rfl)), h.bt.kept f (no _ (.inr (.inl rfl))), h.ba.kept f (no _ (.inr (.inr (.inl rfl)))), h.bf.kept f (no _ (.inr (.inr (.inr (.inl rfl))))), h.bk.kept f (no _ (.inr (.inr (.inr (.inr (.inl rfl)))))), h.bo.kept f (no _ (.inr (.inr (.inr (.inr (.inr (.inl rfl))))))), row_kept h.row f (fun b hb => no b (.inr (.inr (.inr (.inr (.inr (.inr hb))))))), h.le, Nat.le_trans h.sz f.size, h.gn⟩
theorem TwJ.lt {lo g n7 m F Kt : Nat} {v : Value} {L : List Pr} {k : Nat} {G : Nat → Prop} {W : World} (h : TwJ lo g n7 m F Kt v L k G W) {b : Nat} (hb : G b) : b < n7 + 4 := by
  have := h.gn
  rcases (h.inc b).1 hb with e | e | e | e | e | e | e
  · omega
  · omega
  · omega
  · omega
  · omega
  · omega
  · have := h.gn.2 b e; omega
theorem TwJ.no {lo g n7 m F Kt : Nat} {v : Value} {L : List Pr} {k : Nat} {G : Nat → Prop} {W : World} (h : TwJ lo g n7 m F Kt v L k G W) : ∀ b, pair (n7 + 7) b → ¬ TwG g n7 v b := fun b hb hG => by
  have := h.lt ((h.inc b).2 hG)
  unfold pair at hb
  omega

set_option maxRecDepth 100000 in
set_option maxHeartbeats 8000000 in
theorem walks_ok (a0 a1 a2 : Int) (w : World) (tab : TabL w) :
    Calls Tryz.prog 4 #[.int .i64 a0, .int .i64 a1, .int .i64 a2] w fun e w' => e = .returned (.bool true) ∧ Below w.heap.size w w' := by
  have h1 := eq_nil_heap
  have h2 := mf
  obtain ⟨g, hg⟩ : ∃ g, w.heap.size = g := ⟨_, rfl⟩
  have l0 : 0 < g := by rw [← hg]; exact World.block_lt_of_cell? _ _ (tab 0 (by omega))
  obtain ⟨WA, hWA⟩ : ∃ WA, w.alloc (.cells #[.int .i64 a0] 3) = WA := ⟨_, rfl⟩
  obtain ⟨WB, hWB⟩ : ∃ WB, WA.alloc (.cells #[.int .i64 a2] 3) = WB := ⟨_, rfl⟩
  have fA : Still w WA := hWA ▸ (Fr.refl _ w).alloc _
  have fAB : Still WA WB := hWB ▸ (Fr.refl _ WA).alloc _
  have fB : Still w WB := fA.trans' fAB (fun _ x => x.elim)
  have zA : WA.heap.size = g + 1 := by rw [← hWA]; simp [hg]
  have zB : WB.heap.size = g + 2 := by rw [← hWB]; simp; omega
  have bnB : Box WB g (.int .i64 a0) := by
    have := Box.new w (.int .i64 a0) 3
    rw [hWA, hg] at this; exact this.kept fAB (fun x => x)
  have btB : Box WB (g + 1) (.int .i64 a2) := by
    have := Box.new WA (.int .i64 a2) 3
    rw [hWB, zA] at this; exact this
  have K : Calls Tryz.prog 8 #[.int .i64 24576] WB _ := l8_open geo24 (N := 3072) (by omega) WB (fun j hj => fB.cell' (tab j hj) (fun x => x))
  have HK := hide K; have HT := hide tab; have HB := hide (And.intro bnB (And.intro btB (And.intro fB zB))); have HWB := hide (And.intro hWA hWB)
  clear K tab bnB btB fA fAB fB zA hWA hWB
  refine calls_of_wpOf Tryz.func4 rfl ?_
  simp only [Tryz.ntmps4, List.size_toArray, List.length_cons, List.length_nil, Nat.reduceAdd, Nat.reduceSub, Array.replicate_succ, Array.replicate_zero, List.push_toArray, List.append_toArray, List.nil_append, List.cons_append]
  refine wpOf_seq (wpOf_of_wp ?_)
  go_wp2
  rw [(unhide HWB).1, (unhide HWB).2, hg]
  show wpOf _ _ _ _ _ _
  refine wpOf_seq (wpOf_of_wp ?_)
  go_wp2_with fail
  refine (unhide HK).mono ?_
  clear HK
  rintro e w1 ⟨b, sb, hb, T, A, base, rfl, hc, nw⟩
  obtain ⟨W1, hW1⟩ : ∃ W1, w1.alloc (.cells #[ptr sb] 23) = W1 := ⟨_, rfl⟩
  obtain ⟨W2, hW2⟩ : ∃ W2, W1.alloc (.cells #[ptr hb] 24) = W2 := ⟨_, rfl⟩
  obtain ⟨n1, hn1⟩ : ∃ n1, w1.heap.size = n1 := ⟨_, rfl⟩
  have z1 : W1.heap.size = n1 + 1 := by rw [← hW1]; simp [hn1]
  have z2 : W2.heap.size = n1 + 2 := by rw [← hW2]; simp; omega
  have f12 : Still W1 W2 := hW2 ▸ (Fr.refl _ W1).alloc _
  have f02 : Still w1 W2 := (hW1 ▸ (Fr.refl _ w1).alloc _ : Still w1 W1).trans' f12 (fun _ x => x.elim)
  have bs2 : Box W2 n1 (ptr sb) := by
    have := Box.new w1 (ptr sb) 23
    rw [hW1, hn1] at this; exact this.kept f12 (fun x => x)
  have bh2 : Box W2 (n1 + 1) (ptr hb) := by
    have := Box.new W1 (ptr hb) 24
    rw [hW2, z1] at this; exact this
  obtain ⟨bnB, btB, fB, zB⟩ := unhide HB
  have hc1 := hc.more (.cells #[ptr sb] 23)
  rw [hW1, hn1] at hc1
  have hc2 := hc1.more (.cells #[ptr hb] 24)
  rw [hW2, z1] at hc2
  have lhb : hb < n1 := by rw [← hn1]; exact (hc.hd.xl hb hc.xh).2
  have ghb : g + 1 < hb := by have := (hc.hd.xl hb hc.xh).1; omega
  have lz : g + 2 ≤ n1 := by have := hc.hd.fr.size; omega
  have bn2 := (bnB.kept hc.hd.fr (fun x => x)).kept f02 (fun x => x)
  have bt2 := (btB.kept hc.hd.fr (fun x => x)).kept f02 (fun x => x)
  obtain ⟨M, hM⟩ : ∃ M, msk a0 31 = M := ⟨_, rfl⟩
  have hM31 : M ≤ 31 := by rw [← hM]; exact Nat.and_le_right
  obtain ⟨W3, hW3⟩ : ∃ W3, W2.setCell ⟨g, 0, none⟩ (.int .i64 (M : Nat)) = W3 := ⟨_, rfl⟩
  obtain ⟨W4, hW4⟩ : ∃ W4, W3.alloc (.cells #[.int .u64 0] 27) = W4 := ⟨_, rfl⟩
  obtain ⟨W5, hW5⟩ : ∃ W5, W4.alloc (.cells #[.int .i64 0] 3) = W5 := ⟨_, rfl⟩
  have f23 : Fr (fun k => k = g) W2 W3 := hW3 ▸ Fr.box W2 g _
  have f34 : Still W3 W4 := hW4 ▸ (Fr.refl _ W3).alloc _
  have f45 : Still W4 W5 := hW5 ▸ (Fr.refl _ W4).alloc _
  have f35 : Still W3 W5 := f34.trans' f45 (fun _ x => x.elim)
  have z3 : W3.heap.size = n1 + 2 := by rw [← hW3]; simp [z2]
  have z4 : W4.heap.size = n1 + 3 := by rw [← hW4]; simp; omega
  have hcB := hc2.back (w0 := w) (Y := fun k => k = hb ∨ k = g ∨ k = g + 1 ∨ k = n1 ∨ k = n1 + 1) fB (by omega) (fun k hk => by
    rcases hk with rfl | rfl | rfl | rfl | rfl
    · exact .inl (.inl (.inl rfl))
    · exact .inr ⟨by omega, by omega⟩
    · exact .inr ⟨by omega, by omega⟩
    · exact .inl (.inl (.inr rfl))
    · exact .inl (.inr rfl)) (.inl rfl)
  have hc3 := hcB.var f23 (fun k hk => .inr (.inl hk)) (by show ¬ hb = g; omega)
  have hc4 := hc3.more (.cells #[.int .u64 0] 27)
  rw [hW4, z3] at hc4
  have hc5 := hc4.more (.cells #[.int .i64 0] 3)
  rw [hW5, z4] at hc5
  have st0 : TwH w W5 a2 M 0 (n1 + 3) g n1 b hb sb T A 43021 base 0 [] [] := by
    refine ⟨hc5.sub (fun k hk => ?_) (.inl rfl), Tre.new nw, rfl, (fun p hp => by cases hp), ?_, ?_, ?_, ?_, ?_, ?_, ⟨by omega, hg, by omega, lhb, ghb, by omega⟩⟩
    · rcases hk with e | e | e | e | e | e | e
      · exact .inl (.inl (.inl e))
      · exact .inl (.inl (.inr (.inl e)))
      · exact .inl (.inl (.inr (.inr (.inl e))))
      · exact .inl (.inl (.inr (.inr (.inr (.inl e)))))
      · exact .inl (.inl (.inr (.inr (.inr (.inr e)))))
      · exact .inl (.inr e)
      · exact .inr e
    · exact (hW3 ▸ bn2.set _ : Box W3 g _).kept f35 (fun x => x)
    · exact (bt2.kept f23 (by show ¬ g + 1 = g; omega)).kept f35 (fun x => x)
    · exact (bs2.kept f23 (by show ¬ n1 = g; omega)).kept f35 (fun x => x)
    · exact (bh2.kept f23 (by show ¬ n1 + 1 = g; omega)).kept f35 (fun x => x)
    · have := Box.new W3 (.int .u64 0) 27
      rw [hW4, z3] at this; exact this.kept f45 (fun x => x)
    · have := Box.new W4 (.int .i64 0) 3
      rw [hW5, z4] at this; exact this
  have mk : bits .and .i64 a0 31 = (M : Int) := by rw [← hM]; exact mask31 a0
  have bhc := bh2.c; have bnc := bn2.c; have bnz := bn2.z
  have HST := hide st0; have HW := hide (And.intro hW1 hW2); have HW3 := hide hW3; have HW45 := hide (And.intro hW4 hW5)
  clear hc hc1 hc2 hcB hc3 hc4 hc5 nw st0 f12 f02 f23 f34 f45 f35 bs2 bh2 bn2 bt2 bnB btB fB zB hW1 hW2 hW3 hW4 hW5 hM HB HWB
  go_wp2
  rw [(unhide HW).1, (unhide HW).2]
  show wpOf _ _ _ _ _ _
  refine wpOf_seq (wpOf_of_wp ?_)
  go_wp2
  show wpOf _ _ _ _ _ _
  refine wpOf_seq (wpOf_of_wp ?_)
  go_wp2
  rw [unhide HW3]
  show wpOf _ _ _ _ _ _
  refine wpOf_seq (wpOf_of_wp ?_)
  clear bhc bnc bnz HW3 HW
  go_wp2
  rw [(unhide HW45).1]
  show wpOf _ _ _ _ _ _
  refine wpOf_seq (wpOf_of_wp ?_)
  go_wp2_with fail
  rw [(unhide HW45).2]
  clear HW45 z1 z2 z3 z4
  go_loopw [11] (fun iv wr => ∃ (m q : Nat) (T : Tay) (A : Ab) (s : Int) (base : Nat → Int) (r : Nat) (L : List Pr) (Q : List Nat), iv = ptr q ∧ m ≤ M ∧ s ≤ 43021 + 30729 * m ∧ TwH w wr a2 M m q g n1 b hb sb T A s base r L Q) (fun iv wr => M - pxN iv wr)
  case atStart => exact ⟨0, n1 + 3, T, A, 43021, base, 0, [], [], rfl, by omega, by omega, unhide HST⟩
  case round =>
    clear HST
    obtain ⟨m, q, T, A, s, base, r, L, Q, rfl, hmM, hs, S⟩ := hrel
    generalize wr = wq at *
    clear wr
    have c1 := S.bi.c; have c2 := S.bn.c
    by_cases hlt : m < M
    · have hlt' : ((m : Int) < M) = True := by simp; omega
      have c3 := S.bs.c
      obtain ⟨d0, d1, d2, d3, d4, d5⟩ := S.d
      have sy := S.hc.says []
      rw [homed_nil] at sy
      have DO := put_do (g := 23) (fi := #[]) (ca := #[ptr n1, ptr (n1 + 1), ptr (n1 + 2), ptr q]) (br := n1 + 2) (L' := putP L (kyB m) m) S.hc (by simp [TwX]) (by omega) (fun _ _ => by kernel_rfl) (fun w1 f1 => twC1 (i := m) (S.hc.toHp.still f1) (by rw [sy]; exact S.t) (by have := S.len; omega) (by simp) (by have := S.len; omega) (by omega) (f1.cell' S.bs.c (fun x => x)) (f1.cell' S.bh.c (fun x => x)) (S.br.kept f1 (fun x => x)) (f1.cell' S.bi.c (fun x => x)) (fun k hk => by
        rcases hk with rfl | rfl | rfl | rfl <;> exact S.hc.hd.ap _ (by simp [TwX])) (by omega)) (by omega)
      have HDO := hide DO; have HS := hide S
      clear DO S sy
      go_wp2_with fail
      refine (unhide HDO).mono ?_
      clear HDO
      rintro e w6 ⟨rfl, fr6, T6, A6, base6, r6, Q6, hc6, br6, h06, t6⟩
      have S := unhide HS
      have nx : ∀ k, TwX hb g n1 q k → k ≠ n1 + 2 → ¬ (tfoot sb b T k ∨ k = n1 + 2) := fun k hk h2 e => e.elim (S.hc.hd.ap k hk) h2
      have bn6 := S.bn.kept fr6 (nx _ (by simp [TwX]) (by omega))
      have bt6 := S.bt.kept fr6 (nx _ (by simp [TwX]) (by omega))
      have bs6 := S.bs.kept fr6 (nx _ (by simp [TwX]) (by omega))
      have bh6 := S.bh.kept fr6 (nx _ (by simp [TwX]) (by omega))
      have bi6 := S.bi.kept fr6 (nx _ (by simp [TwX]) (by omega))
      have c6 := bi6.c
      obtain ⟨n6, hn6⟩ : ∃ n6, w6.heap.size = n6 := ⟨_, rfl⟩
      obtain ⟨W7, hW7⟩ : ∃ W7, w6.alloc (.cells #[.int .i64 ((m : Int) + 1)] 3) = W7 := ⟨_, rfl⟩
      have f7 : Still w6 W7 := hW7 ▸ (Fr.refl _ w6).alloc _
      have lq := bi6.lt
      have S7 : TwH w W7 a2 M (m + 1) n6 g n1 b hb sb T6 A6 (s + 30729) base6 r6 (putP L (kyB m) m) Q6 := by
        have hc7 := hc6.more (.cells #[.int .i64 ((m : Int) + 1)] 3)
        rw [hW7, hn6] at hc7
        refine ⟨hc7.sub (fun k hk => ?_) (by simp [TwX]), t6, by rw [putP_new (ky_new S.ky (by omega)), S.len], ky_put S.ky, bn6.kept f7 (fun x => x), bt6.kept f7 (fun x => x), bs6.kept f7 (fun x => x), bh6.kept f7 (fun x => x), br6.kept f7 (fun x => x), ?_, ⟨d0, d1, d2, d3, d4, by omega⟩⟩
        · unfold TwX at hk ⊢
          rcases hk with e | e | e | e | e | e | e
          · exact .inl (.inl e)
          · exact .inl (.inr (.inl e))
          · exact .inl (.inr (.inr (.inl e)))
          · exact .inl (.inr (.inr (.inr (.inl e))))
          · exact .inl (.inr (.inr (.inr (.inr (.inl e)))))
          · exact .inl (.inr (.inr (.inr (.inr (.inr (.inl e))))))
          · exact .inr e
        · have := Box.new w6 (.int .i64 ((m : Int) + 1)) 3
          rw [hW7, hn6] at this; exact this
      have HS7 := hide S7; have HW7 := hide hW7
      have px := pxN_box S.bi; have px7 := pxN_box S7.bi
      have HPX := hide (And.intro px px7)
      clear S hc6 t6 bn6 bt6 bs6 bh6 bi6 br6 fr6 nx S7 f7 hW7 HS px px7
      go_wp2
      rw [unhide HW7]
      refine ⟨⟨m + 1, n6, T6, A6, s + 30729, base6, r6, _, Q6, rfl, by omega, by omega, unhide HS7⟩, ?_⟩
      obtain ⟨px, px7⟩ := unhide HPX
      have px7' : pxN (.pointer (some ⟨n6, 0, none⟩)) W7 = m + 1 := px7
      rw [px, px7']
      omega
    · have em : m = M := by omega
      subst em
      have hlt' : ((m : Int) < m) = False := by simp
      obtain ⟨d0, d1, d2, d3, d4, d5⟩ := S.d
      have sy := S.hc.says []
      rw [homed_nil] at sy
      have HS := hide (And.intro S sy)
      clear S sy
      go_wp2
      show wpOf _ _ _ _ _ _
      refine wpOf_seq (wpOf_of_wp ?_)
      obtain ⟨S, sy⟩ := unhide HS
      have RG := y_Range S.hc.toHp (by rw [sy]; exact S.t.rt) S.t.ri S.t.pk ⟨#[]⟩ ⟨#[]⟩ 100 (by omega) (by have := S.len; omega)
      rw [rgP_all (show ((L.length : Nat) : Int) ≤ 100 by have := S.len; omega), S.len] at RG
      have c3 := S.bs.c; have c4 := S.br.c
      have HRG := hide RG
      clear RG S sy
      go_wp2_with fail
      refine (unhide HRG).mono ?_
      clear HRG c1 c2 c3 c4
      rintro e w7 ⟨v, rfl, rv, f7⟩
      obtain ⟨va, vc, ev⟩ : ∃ va vc, v = .slice va m vc := by
        rcases rowp_form rv with ⟨e, h0⟩ | ⟨gg, cap, e⟩
        · exact ⟨none, 0, by rw [e, h0]⟩
        · exact ⟨_, cap, e⟩
      subst ev
      obtain ⟨S, sy⟩ := unhide HS
      obtain ⟨n7, hn7⟩ : ∃ n7, w7.heap.size = n7 := ⟨_, rfl⟩
      obtain ⟨W8, hW8⟩ : ∃ W8, w7.alloc (.cells #[.slice va m vc] 33) = W8 := ⟨_, rfl⟩
      obtain ⟨W9, hW9⟩ : ∃ W9, W8.alloc (.cells #[.int .i64 0] 3) = W9 := ⟨_, rfl⟩
      have z8 : W8.heap.size = n7 + 1 := by rw [← hW8]; simp [hn7]
      have z9 : W9.heap.size = n7 + 2 := by rw [← hW9]; simp; omega
      have f78 : Still w7 W8 := hW8 ▸ (Fr.refl _ w7).alloc _
      have f89 : Still W8 W9 := hW9 ▸ (Fr.refl _ W8).alloc _
      have f79 : Still w7 W9 := f78.trans' f89 (fun _ x => x.elim)
      have f9 : Still wq W9 := f7.trans' f79 (fun _ x => x.elim)
      have ba9 : Box W9 n7 (.slice va m vc) := by
        have := Box.new w7 (.slice va m vc) 33
        rw [hW8, hn7] at this; exact this.kept f89 (fun x => x)
      have bf9 : Box W9 (n7 + 1) (.int .i64 0) := by
        have := Box.new W8 (.int .i64 0) 3
        rw [hW9, z8] at this; exact this
      have SL := (sl_of_row rv pcl_one).still f79
      have bn9 := S.bn.kept f9 (fun x => x)
      have lq : q < n7 := by have := S.bi.lt; have := f7.size; omega
      have lz7 : wq.heap.size ≤ n7 := by have := f7.size; omega
      have hrb : ∀ k, (Value.slice va m vc).ownBlock = some k → wq.heap.size ≤ k ∧ k < n7 := fun k hk => by have := rv.lt k hk; rw [hn7] at this; exact this
      have HRB := @hide _ hrb
      have HX := hide (And.intro f9 (And.intro ba9 (And.intro bf9 (And.intro SL (And.intro (own_still rv f79) bn9))))); have HW8 := hide hW8; have HW9 := hide hW9
      clear S sy rv f7 f78 f89 f79 f9 ba9 bf9 SL hW8 hW9 bn9 hrb
      go_wp2
      rw [unhide HW8]
      show wpOf _ _ _ _ _ _
      refine wpOf_seq (wpOf_of_wp ?_)
      go_wp2
      show wpOf _ _ _ _ _ _
      refine wpOf_seq (wpOf_of_wp ?_)
      go_wp2
      rw [unhide HW9]
      show wpOf _ _ _ _ _ _
      refine wpOf_seq (wpOf_of_wp ?_)
      obtain ⟨f9, ba9, bf9, SL, row9, bn9⟩ := unhide HX
      obtain ⟨S, sy⟩ := unhide HS
      have c1 := bn9.c
      by_cases hm0 : 0 < m
      · have hm0' : ((0 : Int) < m) = True := by simp; omega
        obtain ⟨F, hF, hFm⟩ : ∃ F : Nat, (wrap64 (a1.tmod m + m)).tmod m = (F : Int) ∧ F < m := by
          have h1 : a1.tmod m < m := Int.tmod_lt_of_pos a1 (by omega)
          have h2 : -m < a1.tmod m := Int.lt_tmod_of_pos a1 (by omega)
          generalize a1.tmod m = r at *
          rw [small_w64 (by omega), Int.tmod_eq_emod_of_nonneg (by omega)]
          have h3 := Int.emod_lt_of_pos (r + m) (show (0 : Int) < m by omega)
          have h4 := Int.emod_nonneg (r + m) (show (m : Int) ≠ 0 by omega)
          exact ⟨((r + m) % m).toNat, by omega, by omega⟩
        have mne : ((m : Int) = 0) = False := by simp; omega
        have c2 := bf9.c; have z2 := bf9.z
        have HX9 := hide (And.intro f9 (And.intro ba9 (And.intro bf9 (And.intro SL (And.intro row9 bn9)))))
        clear f9 ba9 bf9 SL row9 bn9 S sy
        go_wp2_with fail
        refine region_tailP 7 (by kernel_rfl) (by kernel_rfl) ?_
        simp only [List.take_succ_cons, List.take_zero, List.drop_succ_cons, List.drop_zero]
        repeat (go_big_quiet_step (fail))
        refine wpQuiet_nil ?_
        rintro _ ⟨nq, rfl⟩
        obtain ⟨f9, ba9, bf9, SL, row9, bn9⟩ := unhide HX9
        obtain ⟨S, sy⟩ := unhide HS
        obtain ⟨gg, eva⟩ : ∃ gg, va = some ⟨gg, 0, none⟩ := by
          rcases rowp_form row9 with ⟨_, h0⟩ | ⟨gg, cap, e⟩
          · omega
          · injection e with e1 _ _; exact ⟨gg, e1⟩
        subst eva
        obtain ⟨p0, hp⟩ : ∃ p, L[F]? = some p := ⟨_, List.getElem?_eq_getElem (by have := S.len; omega)⟩
        have fd : Still W9 (W9.drewN nq) := (Fr.refl _ W9).drewN nq
        obtain ⟨Wd, hWd⟩ : ∃ Wd, W9.drewN nq = Wd := ⟨_, rfl⟩
        rw [hWd] at fd ⊢
        have bfd := bf9.kept fd (fun x => x)
        obtain ⟨W10, hW10⟩ : ∃ W10, Wd.setCell ⟨n7 + 1, 0, none⟩ (.int .i64 (F : Nat)) = W10 := ⟨_, rfl⟩
        have z10 : W10.heap.size = n7 + 2 := by rw [← hW10, ← hWd]; simp [z9]
        have fs : Fr (fun k => k = n7 + 1) Wd W10 := hW10 ▸ Fr.box Wd (n7 + 1) _
        have f10 : Fr (fun k => k = n7 + 1) W9 W10 := (fd.mono (fun _ x => x.elim)).trans' fs (fun k hk => .inl hk)
        have bf10 : Box W10 (n7 + 1) (.int .i64 (F : Nat)) := hW10 ▸ bfd.set _
        have ba10 := ba9.kept f10 (by show ¬ n7 = n7 + 1; omega)
        have bn10 := bn9.kept f10 (by show ¬ g = n7 + 1; omega)
        have hrb := unhide HRB
        have row10 := row_kept row9 f10 (fun k hk e => by
          have e : k = n7 + 1 := e
          have := (hrb k hk).2
          omega)
        obtain ⟨b0, o0, e0, cp⟩ := (sl_of_row row10 pcl_one).cells (F * 2) _ (pcl_at hp).1
        cases e0
        rw [Nat.zero_add] at cp
        have ge : geP p0.1 L = L.drop F := geP_at S.t.ri hp
        have HX10 := hide (And.intro f10 (And.intro bf10 (And.intro ba10 (And.intro row10 (And.intro bn10 (And.intro ge (show F ≤ m by omega)))))))
        have c3 := bfd.c; have z3 := bfd.z; have c4 := ba10.c; have c5 := bf10.c
        have HW10 := hide hW10
        have hF' : ((F : Int) < m) = True := by simp; omega
        rw [← hW10] at c4 c5 cp
        clear f9 ba9 bf9 SL row9 bn9 S sy fd bfd fs f10 bf10 ba10 bn10 row10 ge hW10 hWd hp hrb
        go_wp2
        rw [unhide HW10]
        show wpOf _ _ _ _ _ _
        clear c1 c2 c3 c4 c5 cp z2 z3
        obtain ⟨f10, bf10, ba10, row10, bn10, hge, hFm⟩ := unhide HX10
        obtain ⟨S, sy⟩ := unhide HS
        have bt10 := (S.bt.kept (unhide HX).1 (fun x => x)).kept f10 (by show ¬ g + 1 = n7 + 1; omega)
        obtain ⟨Kt, hKt⟩ : ∃ Kt, msk a2 31 = Kt := ⟨_, rfl⟩
        have mk2 : bits .and .i64 a2 31 = (Kt : Int) := by rw [← hKt]; exact mask31 a2
        obtain ⟨W11, hW11⟩ : ∃ W11, W10.setCell ⟨g + 1, 0, none⟩ (.int .i64 (Kt : Nat)) = W11 := ⟨_, rfl⟩
        obtain ⟨W12, hW12⟩ : ∃ W12, W11.alloc (.cells #[.int .i64 0] 3) = W12 := ⟨_, rfl⟩
        obtain ⟨W13, hW13⟩ : ∃ W13, W12.alloc (.cells #[.bool true] 4) = W13 := ⟨_, rfl⟩
        have z11 : W11.heap.size = n7 + 2 := by rw [← hW11]; simp [z10]
        have z12 : W12.heap.size = n7 + 3 := by rw [← hW12]; simp; omega
        have z13 : W13.heap.size = n7 + 4 := by rw [← hW13]; simp; omega
        have f11 : Fr (fun k => k = g + 1) W10 W11 := hW11 ▸ Fr.box W10 (g + 1) _
        have f112 : Still W11 W12 := hW12 ▸ (Fr.refl _ W11).alloc _
        have f123 : Still W12 W13 := hW13 ▸ (Fr.refl _ W12).alloc _
        have f113 : Still W11 W13 := f112.trans' f123 (fun _ x => x.elim)
        have bt13 : Box W13 (g + 1) (.int .i64 (Kt : Nat)) := (hW11 ▸ bt10.set _ : Box W11 (g + 1) _).kept f113 (fun x => x)
        have bn13 := (bn10.kept f11 (by show ¬ g = g + 1; omega)).kept f113 (fun x => x)
        have ba13 := (ba10.kept f11 (by show ¬ n7 = g + 1; omega)).kept f113 (fun x => x)
        have bf13 := (bf10.kept f11 (by show ¬ n7 + 1 = g + 1; omega)).kept f113 (fun x => x)
        have bk13 : Box W13 (n7 + 2) (.int .i64 0) := by
          have := Box.new W11 (.int .i64 0) 3
          rw [hW12, z11] at this; exact this.kept f123 (fun x => x)
        have bo13 : Box W13 (n7 + 3) (.bool true) := by
          have := Box.new W12 (.bool true) 4
          rw [hW13, z12] at this; exact this
        have f9 := (unhide HX).1
        have fq : Fr (fun k => k = n7 + 1 ∨ k = g + 1) wq W13 := (((f9.mono (fun _ x => x.elim)).trans' f10 (fun k hk => .inl (.inl hk))).trans' f11 (fun k hk => .inl (.inr hk))).trans' f113 (fun _ x => x.elim)
        have row13 : W13.ownsRow wq.heap.size 43 2 (.slice (some ⟨gg, 0, none⟩) m vc) m (pcl L) := own_still (row_kept row10 f11 (fun k hk e => by have := (row10.lt k hk).1; have := S.bi.lt; have e : k = g + 1 := e; omega)) f113
        have hp13 := S.hc.toHp.turn fq (fun k hk => by
          rcases hk with rfl | rfl
          · exact fun ht => by have := S.hc.hd.st.lt _ ht; have := S.bi.lt; omega
          · exact S.hc.hd.ap _ (by simp [TwX])) (by omega) (by omega)
        have bs13 := S.bs.kept fq (by omega)
        have br13 := S.br.kept fq (by omega)
        have c1 := bt10.c; have z1 := bt10.z
        have HW11 := hide hW11; have HW12 := hide hW12; have HW13 := hide hW13
        have HX13 := hide (And.intro bt13 (And.intro bn13 (And.intro ba13 (And.intro bf13 (And.intro bk13 (And.intro bo13 (And.intro fq (And.intro row13 hp13))))))))
        have c2 := bs13.c; have c3 := br13.c
        clear S sy f10 bf10 ba10 row10 bn10 bt10 f11 f112 f123 f113 bt13 bn13 ba13 bf13 bk13 bo13 f9 fq row13 hp13 bs13 br13 hW11 hW12 hW13 hKt
        refine wpOf_seq (wpOf_of_wp ?_)
        go_wp2
        rw [unhide HW11]
        clear c1 z1 mk2
        show wpOf _ _ _ _ _ _
        refine wpOf_seq (wpOf_of_wp ?_)
        go_wp2
        rw [unhide HW12]
        show wpOf _ _ _ _ _ _
        refine wpOf_seq (wpOf_of_wp ?_)
        go_wp2
        rw [unhide HW13]
        show wpOf _ _ _ _ _ _
        refine wpOf_seq (wpOf_seq (wpOf_of_wp ?_))
        go_wp2_with fail
        refine (y_Walk (ptr sb) r p0.1 _ rfl).mono ?_
        rintro e w' ⟨rfl, rfl⟩
        go_wp2_with fail
        obtain ⟨W14, hW14⟩ : ∃ W, W13.alloc (.cells #[ptr sb] 23) = W := ⟨_, rfl⟩
        obtain ⟨W15, hW15⟩ : ∃ W, W14.alloc (.cells #[.int .u64 (r : Nat)] 27) = W := ⟨_, rfl⟩
        obtain ⟨wD, hwD⟩ : ∃ W, W15.alloc (.cells #[.string p0.1] 9) = W := ⟨_, rfl⟩
        rw [hW14, hW15, hwD]
        simp only [Nat.add_assoc, Nat.reduceAdd]
        have z14 : W14.heap.size = n7 + 5 := by rw [← hW14]; simp [z13]
        have z15 : W15.heap.size = n7 + 6 := by rw [← hW15]; simp [z14]
        have zD : wD.heap.size = n7 + 7 := by rw [← hwD]; simp [z15]
        have f15 : Still W15 wD := hwD ▸ (Fr.refl _ W15).alloc _
        have f14 : Still W14 wD := (hW15 ▸ (Fr.refl _ W14).alloc _ : Still W14 W15).trans' f15 (fun _ x => x.elim)
        have f13 : Still W13 wD := (hW14 ▸ (Fr.refl _ W13).alloc _ : Still W13 W14).trans' f14 (fun _ x => x.elim)
        have o4 : wD.heap[n7 + 4]? = some (.cells #[ptr sb] 23 (0, 0)) := f14.obj (by have := heap_alloc_new W13 (.cells #[ptr sb] 23); rwa [hW14, z13] at this) (fun x => x)
        have o5 : wD.heap[n7 + 5]? = some (.cells #[.int .u64 (r : Nat)] 27 (0, 0)) := f15.obj (by have := heap_alloc_new W14 (.cells #[.int .u64 (r : Nat)] 27); rwa [hW15, z14] at this) (fun x => x)
        have o6 : wD.heap[n7 + 6]? = some (.cells #[.string p0.1] 9 (0, 0)) := by have := heap_alloc_new W15 (.cells #[.string p0.1] 9); rwa [hwD, z15] at this
        have HO := hide (And.intro o4 (And.intro o5 (And.intro o6 f13)))
        clear o4 o5 o6 f13 f14 f15 hW14 hW15 hwD z14 z15 c2 c3
        refine wpOf_named fun a9 ha9 => ?_
        refine wpOf_block (range_okG (gf := 63) (lb := #[ptr (n7 + 6), ptr (n7 + 4), ptr (n7 + 5)]) (N := (geP p0.1 L).length) (enc := wkE (geP p0.1 L)) (by rw [ha9]; rfl) (fun _ _ => by kernel_rfl) ⟨_, Tryz.func4⟩ (fun k => rfl) (Wkr hb sb b T (n7 + 6) (n7 + 4) (n7 + 5)) (WkR 1467 12176 hb sb b T A [] p0.1 r (n7 + 6) (n7 + 4) (n7 + 5)) (TwG g n7 (.slice (some ⟨gg, 0, none⟩) m vc))
          (fun k G W => TwJ wq.heap.size g n7 m F Kt (.slice (some ⟨gg, 0, none⟩) m vc) L k G W)
          (fun k G V a' W => TwJ wq.heap.size g n7 m F Kt (.slice (some ⟨gg, 0, none⟩) m vc) L k G W ∧ Fr (pair (n7 + 7)) V W ∧ ∃ (p : Pr) (qb : Nat), (geP p0.1 L)[k]? = some p ∧ V.heap.size ≤ qb ∧ n7 + 9 ≤ qb ∧ W.heap[qb]? = some (.cells #[.string p.1, .int .u64 (p.2 : Nat)] 43 (0, 0)) ∧ a' = { tmps := (a9.tmps.setIfInBounds 60 (.agg #[.string p.1, .int .u64 (p.2 : Nat)])).setIfInBounds 17 (ptr qb), defers := [] })
          (fun c W => c = .exit 2 ∧ Kt < (geP p0.1 L).length ∧ ∃ G, TwJ wq.heap.size g n7 m F Kt (.slice (some ⟨gg, 0, none⟩) m vc) L Kt G W) (fun _ _ => False) ?hJ ?hJb ?hJO ?hJA ?hJr ?hseq ?h0 ?hG0 ?hS ?hassign ?hbody ?hdone ?hret (fun _ _ h _ => h.elim))
        case hJ => intro k G W W' h f; rw [zD] at f; exact h.kept f h.no
        case hJb => intro k G W h b hb; have := h.lt hb; have := h.sz; omega
        case hJO => intro k G O W W' h f ho; exact h.kept f (fun b hb hG => ho b hb (.inl ((h.inc b).2 hG)))
        case hJA =>
          rintro k G V a W W' ⟨h, fv, p, qb, e1, e2, e3, e4, rfl⟩ f
          rw [zD] at f
          exact ⟨h.kept f h.no, fv.trans' f (fun k hk => .inl hk), p, qb, e1, e2, e3, f.obj e4 (fun x => by unfold pair at x; omega), rfl⟩
        case hJr =>
          rintro c W W' ⟨rfl, hk, G, h⟩ f
          rw [zD] at f
          exact ⟨rfl, hk, G, h.kept f h.no⟩
        case hseq =>
          obtain ⟨S, sy⟩ := unhide HS
          exact w_iter (by rw [sy]; exact S.t.rt) S.t.ri S.t.pk p0.1 (n7 + 6) (n7 + 4) (n7 + 5) (wD.heap.size + 1)
        case h0 =>
          intro ob1 ob2
          obtain ⟨bt13, bn13, ba13, bf13, bk13, bo13, fq, row13, hp13⟩ := unhide HX13
          obtain ⟨o4, o5, o6, f13⟩ := unhide HO
          have fo : Still wD ((wD.alloc ob1).alloc ob2) := ((Fr.refl _ wD).alloc ob1).alloc ob2
          have f13o := f13.trans' fo (fun _ x => x.elim)
          exact ⟨⟨fun _ => Iff.rfl, bn13.kept f13o (fun x => x), bt13.kept f13o (fun x => x), ba13.kept f13o (fun x => x), bf13.kept f13o (fun x => x), bk13.kept f13o (fun x => x), bo13.kept f13o (fun x => x), own_still row13 f13o, Nat.zero_le _, by simp [zD], by omega, unhide HRB⟩, hp13.still f13o, fo.cell' (cell_of_obj o6 0) (fun x => x), fo.cell' (cell_of_obj o4 0) (fun x => x), fo.cell' (cell_of_obj o5 0) (fun x => x)⟩
        case hG0 =>
          intro k hk
          obtain ⟨S, sy⟩ := unhide HS
          have hrb := unhide HRB
          have lh := S.hc.toHp.lth
          have nT : ∀ j, wq.heap.size ≤ j → ¬ tfoot sb b T j := fun j hj ht => by have := S.hc.hd.st.lt _ ht; omega
          have nX : ¬ tfoot sb b T g ∧ ¬ tfoot sb b T (g + 1) := ⟨S.hc.hd.ap _ (by simp [TwX]), S.hc.hd.ap _ (by simp [TwX])⟩
          have kl : k < n7 + 4 ∧ (k = g ∨ k = g + 1 ∨ wq.heap.size ≤ k) := by
            rcases hk with e | e | e | e | e | e | e
            · omega
            · omega
            · omega
            · omega
            · omega
            · omega
            · have := hrb k e; omega
          refine ⟨by omega, ?_⟩
          rintro (e | e | e | e | e | e)
          · rcases kl.2 with rfl | rfl | h
            · exact nX.1 e
            · exact nX.2 e
            · exact nT k h e
          all_goals omega
        case hS =>
          obtain ⟨S, sy⟩ := unhide HS
          have lh := S.hc.toHp.lth
          rintro k (e | e | e | e | e | e)
          · have := S.hc.hd.st.lt _ e; omega
          all_goals omega
        case hassign =>
          rintro l' k G W K h hk hK
          obtain ⟨p, hp⟩ : ∃ p, (geP p0.1 L)[k]? = some p := ⟨_, List.getElem?_eq_getElem hk⟩
          have ce : wkE (geP p0.1 L) k = #[.agg #[.string p.1, .int .u64 (p.2 : Nat)]] := by unfold wkE; simp only [List.getD, hp, Option.getD_some]
          rw [ce]
          have HJ := hide (And.intro h hp); have HHK := @hide _ hK
          clear h hp hK ce
          have HA9 := hide ha9
          subst ha9
          simp only [List.zip_toArray, List.zip_cons_cons, List.zip_nil_right, List.foldl_toArray', List.size_toArray, List.length_cons, List.length_nil, List.foldl_cons, List.foldl_nil, List.setIfInBounds_toArray, List.set_cons_zero, List.set_cons_succ]
          have hwd : Fence.wide.depth = none := rfl
          have hwf : ∀ f, Fence.wide.fn f := fun _ => trivial
          gi_wp2
          obtain ⟨h, hp⟩ := unhide HJ
          have hsz := h.sz
          refine unhide HHK _ _ ⟨h.kept (O := fun _ => False) ((Fr.refl _ W).alloc _) (fun _ h => h.elim), (Fr.refl _ W).alloc _, p, W.heap.size, hp, Nat.le_refl _, hsz, heap_alloc_new W _, ?_⟩ (Below.heap_alloc W _ _ (by omega)) (Below.heap_alloc W _ _ (by omega))
          simp only [List.setIfInBounds_toArray, List.set_cons_zero, List.set_cons_succ]
        case hbody =>
          rintro l' k G V a' W ⟨h, fv, p, qb, hp, hq1, hq2, oq, rfl⟩ hk
          obtain ⟨S, sy⟩ := unhide HS
          have hlen := S.len
          have hk2 : F + k < m := by rw [hge, List.length_drop] at hk; omega
          have hp2 : L[F + k]? = some p := by rw [hge, List.getElem?_drop] at hp; exact hp
          first
          | (exfalso; omega)
          | skip
            have y0 : W.cell? ⟨qb, 0, none⟩ = some (.string p.1) := cell_of_obj oq 0
            have y1 : W.cell? ⟨qb, 1, none⟩ = some (.int .u64 (p.2 : Nat)) := cell_of_obj oq 1
            have x1 := h.bk.c; have x2 := h.bt.c
            have HZD := hide (And.intro zD hlen)
            clear S sy hge hlen zD
            subst ha9
            simp only [List.setIfInBounds_toArray, List.set_cons_zero, List.set_cons_succ]
            have hwd : Fence.wide.depth = none := rfl
            have hwf : ∀ f, Fence.wide.fn f := fun _ => trivial
            by_cases hkt : k = Kt
            · have hkt' : ((k : Int) == (Kt : Int)) = true := by simp; omega
              have HQ := hide (And.intro h (And.intro fv hkt))
              clear h fv hkt oq hp hp2 y0 y1
              gi_wp2_with fail
              obtain ⟨h, fv, hkt⟩ := unhide HQ
              subst hkt
              exact ⟨⟨rfl, rfl⟩, ⟨rfl, hk, G, h⟩, by rw [(unhide HZD).1]; exact fv.mono (fun b hb => .inl (.inr hb))⟩
            · have hkt' : ((k : Int) == (Kt : Int)) = false := by simp; omega
              have hd1 : ((F : Int) + k < m) = True := by simp; omega
              have x3 := h.bo.c; have x4 := h.bf.c; have x5 := h.bn.c; have x6 := h.ba.c
              have SL := sl_of_row h.row pcl_one
              obtain ⟨b0, o0, e0, cp0⟩ := SL.cells ((F + k) * 2) _ (pcl_at hp2).1
              obtain ⟨b1, o1, e1, cp1⟩ := SL.cells ((F + k) * 2 + 1) _ (pcl_at hp2).2
              cases e0
              cases e1
              rw [Nat.zero_add] at cp0 cp1
              have e2 := eq_self
              have HQ := hide (And.intro h (And.intro fv hkt))
              clear h fv hkt oq hp hp2 SL
              gi_wp2_with fail
              refine region_tail 18 (by kernel_rfl) (by kernel_rfl) (by kernel_rfl) ?_
              simp only [List.take_succ_cons, List.take_zero, List.drop_succ_cons, List.drop_zero]
              repeat (gi_big_quiet_step (fail))
              refine wpQuietIn_nil ?_
              rintro _ ⟨nq2, rfl⟩
              clear x1 x2 x3 x4 x5 x6 cp0 cp1 y0 y1
              obtain ⟨h, fv, hkt⟩ := unhide HQ
              have fd : Still W (W.drewN nq2) := (Fr.refl _ W).drewN nq2
              obtain ⟨Wd, hWd⟩ : ∃ Wd, W.drewN nq2 = Wd := ⟨_, rfl⟩
              rw [hWd] at fd ⊢
              have hd := h.kept fd (fun _ x => x.elim)
              obtain ⟨We, hWe⟩ : ∃ We, Wd.setCell ⟨n7 + 3, 0, none⟩ (.bool true) = We := ⟨_, rfl⟩
              obtain ⟨Wf, hWf⟩ : ∃ Wf, We.setCell ⟨n7 + 2, 0, none⟩ (.int .i64 ((k : Int) + 1)) = Wf := ⟨_, rfl⟩
              have fe : Fr (fun b => b = n7 + 3) Wd We := hWe ▸ Fr.box Wd (n7 + 3) _
              have ff : Fr (fun b => b = n7 + 2) We Wf := hWf ▸ Fr.box We (n7 + 2) _
              have fdf : Fr (fun b => b = n7 + 3 ∨ b = n7 + 2) Wd Wf := (fe.mono (fun b hb => .inl (.inl hb))).trans' ff (fun b hb => .inl (.inr hb))
              have bke := hd.bk.kept fe (by show ¬ n7 + 2 = n7 + 3; omega)
              have gn := h.gn
              have nb : ∀ b, b < n7 + 2 → ¬ (b = n7 + 3 ∨ b = n7 + 2) := fun b hb e => by omega
              have hJ1 : TwJ wq.heap.size g n7 m F Kt (.slice (some ⟨gg, 0, none⟩) m vc) L (k + 1) G Wf := ⟨h.inc, hd.bn.kept fdf (nb _ (by omega)), hd.bt.kept fdf (nb _ (by omega)), hd.ba.kept fdf (nb _ (by omega)), hd.bf.kept fdf (nb _ (by omega)), hWf ▸ bke.set _, (hWe ▸ hd.bo.set _ : Box We (n7 + 3) _).kept ff (by show ¬ n7 + 3 = n7 + 2; omega), row_kept hd.row fdf (fun b hb => nb b (by have := gn.2 b hb; omega)), by have := h.le; omega, Nat.le_trans hd.sz fdf.size, gn⟩
              have fVf : Fr (fun b => G b ∨ pair (n7 + 7) b) V Wf := (fv.mono (fun b hb => .inl (.inr hb))).trans' ((fd.mono (G := fun b => G b) (fun _ x => x.elim)).trans' fdf (fun b hb => .inl ((h.inc b).2 (by rcases hb with e | e; exact .inr (.inr (.inr (.inr (.inr (.inl e))))); exact .inr (.inr (.inr (.inr (.inl e)))))))) (fun b hb => .inl (.inl hb))
              have D0 : ∀ b, n7 + 7 ≤ b → b < W.heap.size → Wf.heap[b]? = W.heap[b]? := fun b h1 h2 => (fdf.block b (Nat.lt_of_lt_of_le h2 fd.size) (by omega)).trans (fd.block b h2 (fun x => x))
              have x3 := hd.bo.c; have z3 := hd.bo.z; have x1 := bke.c; have z1 := bke.z
              have HE := hide (And.intro hJ1 (And.intro fVf (And.intro D0 h))); have HWe := hide hWe; have HWf := hide hWf
              rw [← hWe] at x1 z1
              clear h fv hkt fd hd fe ff fdf bke gn nb hJ1 fVf D0 hWe hWf hWd HQ
              gi_wp2_with fail
              rw [unhide HWe, unhide HWf]
              obtain ⟨hJ1, fVf, D0, h⟩ := unhide HE
              have hsz := h.sz
              have ez := (unhide HZD).1
              refine ⟨⟨D0 _ (by omega) (by omega), D0 _ (by omega) (by omega)⟩, G, hJ1, by rw [ez]; exact fVf, fun b hb => hb, fun b hb => .inl hb⟩
        case hdone =>
          intro G W h fr hDD
          have hkN : (geP p0.1 L).length = m - F := by rw [hge, List.length_drop, (unhide HS).1.len]
          have hle := h.le
          rw [hkN] at h hle
          obtain ⟨kf, hkf, hkm⟩ : ∃ kf, m - F = kf ∧ (kf : Int) = min (Kt : Int) ((m : Int) - F) := ⟨_, rfl, by omega⟩
          rw [hkf] at h
          clear hkN hle hge hkf
          obtain ⟨S, sy⟩ := unhide HS
          obtain ⟨bt13, bn13, ba13, bf13, bk13, bo13, fq, row13, hp13⟩ := unhide HX13
          obtain ⟨o4, o5, o6, f13⟩ := unhide HO
          have fW : Still w W := ((S.hc.hd.fr.trans' fq (fun k hk => .inr (by omega))).trans' f13 (fun _ x => x.elim)).trans' fr (fun k hk => .inr (by
            have hrb := unhide HRB
            have hwz := S.hc.hd.fr.size
            rcases hk with e | e | e | e | e | e | e
            · omega
            · omega
            · omega
            · omega
            · omega
            · omega
            · have := hrb k e; omega))
          have AW := l11_awake W (fun j hj => fW.cell' (unhide HT j hj) (fun x => x))
          have x1 := h.bo.c; have x2 := h.ba.c; have x3 := h.bn.c; have x4 := h.bk.c; have x5 := h.bt.c; have x6 := h.bf.c
          have wr1 : wrap64 ((m : Int) - F) = (m : Int) - F := small_w64 (by omega)
          have HAW := hide AW; have HF := hide (And.intro fW (And.intro hDD h.sz))
          have hkm' := eq_true hkm
          have hkb : ((kf : Int) == min (Kt : Int) ((m : Int) - F)) = true := by rw [hkm]; simp
          clear S sy bt13 bn13 ba13 bf13 bk13 bo13 fq row13 hp13 o4 o5 o6 f13 fW AW h fr hDD hkm
          subst ha9
          show wpOf _ _ _ _ _ _
          refine wpOf_of_wp ?_
          go_wp2_with fail
          refine (unhide HAW).mono ?_
          rintro e w9 ⟨rfl, f9⟩
          have HF9 := hide f9
          clear f9 HAW x1 x2 x3 x4 x5 x6
          go_wp2
          obtain ⟨fW, hDD, hsz⟩ := unhide HF
          have f9 := unhide HF9
          have hD9 : w9.heap[n7 + 7]? = some (.deferred (some [])) := by
            rw [zD] at hDD
            exact (f9.block _ (by omega) (fun x => x)).trans hDD
          have f := (fW.trans' f9 (fun _ x => x.elim)).trans' ((Fr.refl (fun j => j = n7 + 7) w9).putObj (.inl rfl) (.deferred none)) (fun k hk => .inr (by have hk : k = n7 + 7 := hk; omega))
          refine ⟨by simp, .inl ⟨_, _, rfl, run_takeDeferred hD9, ⟨.bool true, results_tmp Tryz.results4 _ _ _, rfl, ?_⟩⟩⟩
          exact ⟨f.os, f.tape, f.output, f.size, fun k hk => f.block k (by omega) (fun x => x)⟩
        case hret =>
          rintro c W ⟨rfl, hk, G, h⟩ fr hDD
          have hkN : (geP p0.1 L).length = m - F := by rw [hge, List.length_drop, (unhide HS).1.len]
          rw [hkN] at hk
          obtain ⟨kf, hkf, hkm⟩ : ∃ kf, Kt = kf ∧ (kf : Int) = min (Kt : Int) ((m : Int) - F) := ⟨_, rfl, by omega⟩
          rw [show TwJ wq.heap.size g n7 m F Kt (.slice (some ⟨gg, 0, none⟩) m vc) L Kt G W = TwJ wq.heap.size g n7 m F Kt (.slice (some ⟨gg, 0, none⟩) m vc) L kf G W by rw [← hkf]] at h
          clear hkN hge hkf hk
          gi_wp2
          obtain ⟨S, sy⟩ := unhide HS
          obtain ⟨bt13, bn13, ba13, bf13, bk13, bo13, fq, row13, hp13⟩ := unhide HX13
          obtain ⟨o4, o5, o6, f13⟩ := unhide HO
          have fW : Still w W := ((S.hc.hd.fr.trans' fq (fun k hk => .inr (by omega))).trans' f13 (fun _ x => x.elim)).trans' fr (fun k hk => .inr (by
            have hrb := unhide HRB
            have hwz := S.hc.hd.fr.size
            rcases hk with e | e | e | e | e | e | e
            · omega
            · omega
            · omega
            · omega
            · omega
            · omega
            · have := hrb k e; omega))
          have AW := l11_awake W (fun j hj => fW.cell' (unhide HT j hj) (fun x => x))
          have x1 := h.bo.c; have x2 := h.ba.c; have x3 := h.bn.c; have x4 := h.bk.c; have x5 := h.bt.c; have x6 := h.bf.c
          have wr1 : wrap64 ((m : Int) - F) = (m : Int) - F := small_w64 (by omega)
          have HAW := hide AW; have HF := hide (And.intro fW (And.intro hDD h.sz))
          have hkm' := eq_true hkm
          have hkb : ((kf : Int) == min (Kt : Int) ((m : Int) - F)) = true := by rw [hkm]; simp
          clear S sy bt13 bn13 ba13 bf13 bk13 bo13 fq row13 hp13 o4 o5 o6 f13 fW AW h fr hDD hkm
          subst ha9
          show wpOf _ _ _ _ _ _
          refine wpOf_of_wp ?_
          go_wp2_with fail
          refine (unhide HAW).mono ?_
          rintro e w9 ⟨rfl, f9⟩
          have HF9 := hide f9
          clear f9 HAW x1 x2 x3 x4 x5 x6
          go_wp2
          obtain ⟨fW, hDD, hsz⟩ := unhide HF
          have f9 := unhide HF9
          have hD9 : w9.heap[n7 + 7]? = some (.deferred (some [])) := by
            rw [zD] at hDD
            exact (f9.block _ (by omega) (fun x => x)).trans hDD
          have f := (fW.trans' f9 (fun _ x => x.elim)).trans' ((Fr.refl (fun j => j = n7 + 7) w9).putObj (.inl rfl) (.deferred none)) (fun k hk => .inr (by have hk : k = n7 + 7 := hk; omega))
          refine ⟨by simp, .inl ⟨_, _, rfl, run_takeDeferred hD9, ⟨.bool true, results_tmp Tryz.results4 _ _ _, rfl, ?_⟩⟩⟩
          exact ⟨f.os, f.tape, f.output, f.size, fun k hk => f.block k (by omega) (fun x => x)⟩
      · have hm0' : ((0 : Int) < m) = False := by simp; omega
        obtain ⟨F, hF0⟩ : ∃ F : Nat, F = 0 := ⟨0, rfl⟩
        obtain ⟨W10, hW10⟩ : ∃ W10, W9 = W10 := ⟨_, rfl⟩
        have z10 : W10.heap.size = n7 + 2 := by rw [← hW10]; exact z9
        have f10 : Fr (fun k => k = n7 + 1) W9 W10 := hW10 ▸ Fr.refl _ W9
        have bf10 : Box W10 (n7 + 1) (.int .i64 (F : Nat)) := by rw [hF0, ← hW10]; exact bf9
        have ba10 := ba9.kept f10 (by show ¬ n7 = n7 + 1; omega)
        have bn10 := bn9.kept f10 (by show ¬ g = n7 + 1; omega)
        have row10 : W10.ownsRow wq.heap.size 43 2 (.slice va m vc) m (pcl L) := hW10 ▸ row9
        have ge : geP ⟨#[]⟩ L = L.drop F := by rw [geP_all, hF0]; rfl
        have HX10 := hide (And.intro f10 (And.intro bf10 (And.intro ba10 (And.intro row10 (And.intro bn10 (And.intro ge (show F ≤ m by omega)))))))
        have HW10 := hide hW10
        clear f9 ba9 bf9 SL row9 bn9 S sy f10 bf10 ba10 bn10 row10 ge hW10 hF0
        go_wp2
        rw [unhide HW10]
        show wpOf _ _ _ _ _ _
        clear c1
        obtain ⟨f10, bf10, ba10, row10, bn10, hge, hFm⟩ := unhide HX10
        obtain ⟨S, sy⟩ := unhide HS
        have bt10 := (S.bt.kept (unhide HX).1 (fun x => x)).kept f10 (by show ¬ g + 1 = n7 + 1; omega)
        obtain ⟨Kt, hKt⟩ : ∃ Kt, msk a2 31 = Kt := ⟨_, rfl⟩
        have mk2 : bits .and .i64 a2 31 = (Kt : Int) := by rw [← hKt]; exact mask31 a2
        obtain ⟨W11, hW11⟩ : ∃ W11, W10.setCell ⟨g + 1, 0, none⟩ (.int .i64 (Kt : Nat)) = W11 := ⟨_, rfl⟩
        obtain ⟨W12, hW12⟩ : ∃ W12, W11.alloc (.cells #[.int .i64 0] 3) = W12 := ⟨_, rfl⟩
        obtain ⟨W13, hW13⟩ : ∃ W13, W12.alloc (.cells #[.bool true] 4) = W13 := ⟨_, rfl⟩
        have z11 : W11.heap.size = n7 + 2 := by rw [← hW11]; simp [z10]
        have z12 : W12.heap.size = n7 + 3 := by rw [← hW12]; simp; omega
        have z13 : W13.heap.size = n7 + 4 := by rw [← hW13]; simp; omega
        have f11 : Fr (fun k => k = g + 1) W10 W11 := hW11 ▸ Fr.box W10 (g + 1) _
        have f112 : Still W11 W12 := hW12 ▸ (Fr.refl _ W11).alloc _
        have f123 : Still W12 W13 := hW13 ▸ (Fr.refl _ W12).alloc _
        have f113 : Still W11 W13 := f112.trans' f123 (fun _ x => x.elim)
        have bt13 : Box W13 (g + 1) (.int .i64 (Kt : Nat)) := (hW11 ▸ bt10.set _ : Box W11 (g + 1) _).kept f113 (fun x => x)
        have bn13 := (bn10.kept f11 (by show ¬ g = g + 1; omega)).kept f113 (fun x => x)
        have ba13 := (ba10.kept f11 (by show ¬ n7 = g + 1; omega)).kept f113 (fun x => x)
        have bf13 := (bf10.kept f11 (by show ¬ n7 + 1 = g + 1; omega)).kept f113 (fun x => x)
        have bk13 : Box W13 (n7 + 2) (.int .i64 0) := by
          have := Box.new W11 (.int .i64 0) 3
          rw [hW12, z11] at this; exact this.kept f123 (fun x => x)
        have bo13 : Box W13 (n7 + 3) (.bool true) := by
          have := Box.new W12 (.bool true) 4
          rw [hW13, z12] at this; exact this
        have f9 := (unhide HX).1
        have fq : Fr (fun k => k = n7 + 1 ∨ k = g + 1) wq W13 := (((f9.mono (fun _ x => x.elim)).trans' f10 (fun k hk => .inl (.inl hk))).trans' f11 (fun k hk => .inl (.inr hk))).trans' f113 (fun _ x => x.elim)
        have row13 : W13.ownsRow wq.heap.size 43 2 (.slice va m vc) m (pcl L) := own_still (row_kept row10 f11 (fun k hk e => by have := (row10.lt k hk).1; have := S.bi.lt; have e : k = g + 1 := e; omega)) f113
        have hp13 := S.hc.toHp.turn fq (fun k hk => by
          rcases hk with rfl | rfl
          · exact fun ht => by have := S.hc.hd.st.lt _ ht; have := S.bi.lt; omega
          · exact S.hc.hd.ap _ (by simp [TwX])) (by omega) (by omega)
        have bs13 := S.bs.kept fq (by omega)
        have br13 := S.br.kept fq (by omega)
        have c1 := bt10.c; have z1 := bt10.z
        have HW11 := hide hW11; have HW12 := hide hW12; have HW13 := hide hW13
        have HX13 := hide (And.intro bt13 (And.intro bn13 (And.intro ba13 (And.intro bf13 (And.intro bk13 (And.intro bo13 (And.intro fq (And.intro row13 hp13))))))))
        have c2 := bs13.c; have c3 := br13.c
        clear S sy f10 bf10 ba10 row10 bn10 bt10 f11 f112 f123 f113 bt13 bn13 ba13 bf13 bk13 bo13 f9 fq row13 hp13 bs13 br13 hW11 hW12 hW13 hKt
        refine wpOf_seq (wpOf_of_wp ?_)
        go_wp2
        rw [unhide HW11]
        clear c1 z1 mk2
        show wpOf _ _ _ _ _ _
        refine wpOf_seq (wpOf_of_wp ?_)
        go_wp2
        rw [unhide HW12]
        show wpOf _ _ _ _ _ _
        refine wpOf_seq (wpOf_of_wp ?_)
        go_wp2
        rw [unhide HW13]
        show wpOf _ _ _ _ _ _
        refine wpOf_seq (wpOf_seq (wpOf_of_wp ?_))
        go_wp2_with fail
        refine (y_Walk (ptr sb) r ⟨#[]⟩ _ rfl).mono ?_
        rintro e w' ⟨rfl, rfl⟩
        go_wp2_with fail
        obtain ⟨W14, hW14⟩ : ∃ W, W13.alloc (.cells #[ptr sb] 23) = W := ⟨_, rfl⟩
        obtain ⟨W15, hW15⟩ : ∃ W, W14.alloc (.cells #[.int .u64 (r : Nat)] 27) = W := ⟨_, rfl⟩
        obtain ⟨wD, hwD⟩ : ∃ W, W15.alloc (.cells #[.string ⟨#[]⟩] 9) = W := ⟨_, rfl⟩
        rw [hW14, hW15, hwD]
        simp only [Nat.add_assoc, Nat.reduceAdd]
        have z14 : W14.heap.size = n7 + 5 := by rw [← hW14]; simp [z13]
        have z15 : W15.heap.size = n7 + 6 := by rw [← hW15]; simp [z14]
        have zD : wD.heap.size = n7 + 7 := by rw [← hwD]; simp [z15]
        have f15 : Still W15 wD := hwD ▸ (Fr.refl _ W15).alloc _
        have f14 : Still W14 wD := (hW15 ▸ (Fr.refl _ W14).alloc _ : Still W14 W15).trans' f15 (fun _ x => x.elim)
        have f13 : Still W13 wD := (hW14 ▸ (Fr.refl _ W13).alloc _ : Still W13 W14).trans' f14 (fun _ x => x.elim)
        have o4 : wD.heap[n7 + 4]? = some (.cells #[ptr sb] 23 (0, 0)) := f14.obj (by have := heap_alloc_new W13 (.cells #[ptr sb] 23); rwa [hW14, z13] at this) (fun x => x)
        have o5 : wD.heap[n7 + 5]? = some (.cells #[.int .u64 (r : Nat)] 27 (0, 0)) := f15.obj (by have := heap_alloc_new W14 (.cells #[.int .u64 (r : Nat)] 27); rwa [hW15, z14] at this) (fun x => x)
        have o6 : wD.heap[n7 + 6]? = some (.cells #[.string ⟨#[]⟩] 9 (0, 0)) := by have := heap_alloc_new W15 (.cells #[.string ⟨#[]⟩] 9); rwa [hwD, z15] at this
        have HO := hide (And.intro o4 (And.intro o5 (And.intro o6 f13)))
        clear o4 o5 o6 f13 f14 f15 hW14 hW15 hwD z14 z15 c2 c3
        refine wpOf_named fun a9 ha9 => ?_
        refine wpOf_block (range_okG (gf := 63) (lb := #[ptr (n7 + 6), ptr (n7 + 4), ptr (n7 + 5)]) (N := (geP ⟨#[]⟩ L).length) (enc := wkE (geP ⟨#[]⟩ L)) (by rw [ha9]; rfl) (fun _ _ => by kernel_rfl) ⟨_, Tryz.func4⟩ (fun k => rfl) (Wkr hb sb b T (n7 + 6) (n7 + 4) (n7 + 5)) (WkR 1467 12176 hb sb b T A [] ⟨#[]⟩ r (n7 + 6) (n7 + 4) (n7 + 5)) (TwG g n7 (.slice va m vc))
          (fun k G W => TwJ wq.heap.size g n7 m F Kt (.slice va m vc) L k G W)
          (fun k G V a' W => TwJ wq.heap.size g n7 m F Kt (.slice va m vc) L k G W ∧ Fr (pair (n7 + 7)) V W ∧ ∃ (p : Pr) (qb : Nat), (geP ⟨#[]⟩ L)[k]? = some p ∧ V.heap.size ≤ qb ∧ n7 + 9 ≤ qb ∧ W.heap[qb]? = some (.cells #[.string p.1, .int .u64 (p.2 : Nat)] 43 (0, 0)) ∧ a' = { tmps := (a9.tmps.setIfInBounds 60 (.agg #[.string p.1, .int .u64 (p.2 : Nat)])).setIfInBounds 17 (ptr qb), defers := [] })
          (fun c W => c = .exit 2 ∧ Kt < (geP ⟨#[]⟩ L).length ∧ ∃ G, TwJ wq.heap.size g n7 m F Kt (.slice va m vc) L Kt G W) (fun _ _ => False) ?hJ ?hJb ?hJO ?hJA ?hJr ?hseq ?h0 ?hG0 ?hS ?hassign ?hbody ?hdone ?hret (fun _ _ h _ => h.elim))
        case hJ => intro k G W W' h f; rw [zD] at f; exact h.kept f h.no
        case hJb => intro k G W h b hb; have := h.lt hb; have := h.sz; omega
        case hJO => intro k G O W W' h f ho; exact h.kept f (fun b hb hG => ho b hb (.inl ((h.inc b).2 hG)))
        case hJA =>
          rintro k G V a W W' ⟨h, fv, p, qb, e1, e2, e3, e4, rfl⟩ f
          rw [zD] at f
          exact ⟨h.kept f h.no, fv.trans' f (fun k hk => .inl hk), p, qb, e1, e2, e3, f.obj e4 (fun x => by unfold pair at x; omega), rfl⟩
        case hJr =>
          rintro c W W' ⟨rfl, hk, G, h⟩ f
          rw [zD] at f
          exact ⟨rfl, hk, G, h.kept f h.no⟩
        case hseq =>
          obtain ⟨S, sy⟩ := unhide HS
          exact w_iter (by rw [sy]; exact S.t.rt) S.t.ri S.t.pk ⟨#[]⟩ (n7 + 6) (n7 + 4) (n7 + 5) (wD.heap.size + 1)
        case h0 =>
          intro ob1 ob2
          obtain ⟨bt13, bn13, ba13, bf13, bk13, bo13, fq, row13, hp13⟩ := unhide HX13
          obtain ⟨o4, o5, o6, f13⟩ := unhide HO
          have fo : Still wD ((wD.alloc ob1).alloc ob2) := ((Fr.refl _ wD).alloc ob1).alloc ob2
          have f13o := f13.trans' fo (fun _ x => x.elim)
          exact ⟨⟨fun _ => Iff.rfl, bn13.kept f13o (fun x => x), bt13.kept f13o (fun x => x), ba13.kept f13o (fun x => x), bf13.kept f13o (fun x => x), bk13.kept f13o (fun x => x), bo13.kept f13o (fun x => x), own_still row13 f13o, Nat.zero_le _, by simp [zD], by omega, unhide HRB⟩, hp13.still f13o, fo.cell' (cell_of_obj o6 0) (fun x => x), fo.cell' (cell_of_obj o4 0) (fun x => x), fo.cell' (cell_of_obj o5 0) (fun x => x)⟩
        case hG0 =>
          intro k hk
          obtain ⟨S, sy⟩ := unhide HS
          have hrb := unhide HRB
          have lh := S.hc.toHp.lth
          have nT : ∀ j, wq.heap.size ≤ j → ¬ tfoot sb b T j := fun j hj ht => by have := S.hc.hd.st.lt _ ht; omega
          have nX : ¬ tfoot sb b T g ∧ ¬ tfoot sb b T (g + 1) := ⟨S.hc.hd.ap _ (by simp [TwX]), S.hc.hd.ap _ (by simp [TwX])⟩
          have kl : k < n7 + 4 ∧ (k = g ∨ k = g + 1 ∨ wq.heap.size ≤ k) := by
            rcases hk with e | e | e | e | e | e | e
            · omega
            · omega
            · omega
            · omega
            · omega
            · omega
            · have := hrb k e; omega
          refine ⟨by omega, ?_⟩
          rintro (e | e | e | e | e | e)
          · rcases kl.2 with rfl | rfl | h
            · exact nX.1 e
            · exact nX.2 e
            · exact nT k h e
          all_goals omega
        case hS =>
          obtain ⟨S, sy⟩ := unhide HS
          have lh := S.hc.toHp.lth
          rintro k (e | e | e | e | e | e)
          · have := S.hc.hd.st.lt _ e; omega
          all_goals omega
        case hassign =>
          rintro l' k G W K h hk hK
          obtain ⟨p, hp⟩ : ∃ p, (geP ⟨#[]⟩ L)[k]? = some p := ⟨_, List.getElem?_eq_getElem hk⟩
          have ce : wkE (geP ⟨#[]⟩ L) k = #[.agg #[.string p.1, .int .u64 (p.2 : Nat)]] := by unfold wkE; simp only [List.getD, hp, Option.getD_some]
          rw [ce]
          have HJ := hide (And.intro h hp); have HHK := @hide _ hK
          clear h hp hK ce
          have HA9 := hide ha9
          subst ha9
          simp only [List.zip_toArray, List.zip_cons_cons, List.zip_nil_right, List.foldl_toArray', List.size_toArray, List.length_cons, List.length_nil, List.foldl_cons, List.foldl_nil, List.setIfInBounds_toArray, List.set_cons_zero, List.set_cons_succ]
          have hwd : Fence.wide.depth = none := rfl
          have hwf : ∀ f, Fence.wide.fn f := fun _ => trivial
          gi_wp2
          obtain ⟨h, hp⟩ := unhide HJ
          have hsz := h.sz
          refine unhide HHK _ _ ⟨h.kept (O := fun _ => False) ((Fr.refl _ W).alloc _) (fun _ h => h.elim), (Fr.refl _ W).alloc _, p, W.heap.size, hp, Nat.le_refl _, hsz, heap_alloc_new W _, ?_⟩ (Below.heap_alloc W _ _ (by omega)) (Below.heap_alloc W _ _ (by omega))
          simp only [List.setIfInBounds_toArray, List.set_cons_zero, List.set_cons_succ]
        case hbody =>
          rintro l' k G V a' W ⟨h, fv, p, qb, hp, hq1, hq2, oq, rfl⟩ hk
          obtain ⟨S, sy⟩ := unhide HS
          have hlen := S.len
          have hk2 : F + k < m := by rw [hge, List.length_drop] at hk; omega
          have hp2 : L[F + k]? = some p := by rw [hge, List.getElem?_drop] at hp; exact hp
          first
          | (exfalso; omega)
          | skip
            have y0 : W.cell? ⟨qb, 0, none⟩ = some (.string p.1) := cell_of_obj oq 0
            have y1 : W.cell? ⟨qb, 1, none⟩ = some (.int .u64 (p.2 : Nat)) := cell_of_obj oq 1
            have x1 := h.bk.c; have x2 := h.bt.c
            have HZD := hide (And.intro zD hlen)
            clear S sy hge hlen zD
            subst ha9
            simp only [List.setIfInBounds_toArray, List.set_cons_zero, List.set_cons_succ]
            have hwd : Fence.wide.depth = none := rfl
            have hwf : ∀ f, Fence.wide.fn f := fun _ => trivial
            by_cases hkt : k = Kt
            · have hkt' : ((k : Int) == (Kt : Int)) = true := by simp; omega
              have HQ := hide (And.intro h (And.intro fv hkt))
              clear h fv hkt oq hp hp2 y0 y1
              gi_wp2_with fail
              obtain ⟨h, fv, hkt⟩ := unhide HQ
              subst hkt
              exact ⟨⟨rfl, rfl⟩, ⟨rfl, hk, G, h⟩, by rw [(unhide HZD).1]; exact fv.mono (fun b hb => .inl (.inr hb))⟩
            · have hkt' : ((k : Int) == (Kt : Int)) = false := by simp; omega
              have hd1 : ((F : Int) + k < m) = True := by simp; omega
              have x3 := h.bo.c; have x4 := h.bf.c; have x5 := h.bn.c; have x6 := h.ba.c
              have SL := sl_of_row h.row pcl_one
              obtain ⟨b0, o0, e0, cp0⟩ := SL.cells ((F + k) * 2) _ (pcl_at hp2).1
              obtain ⟨b1, o1, e1, cp1⟩ := SL.cells ((F + k) * 2 + 1) _ (pcl_at hp2).2
              cases e0
              cases e1
              rw [Nat.zero_add] at cp0 cp1
              have e2 := eq_self
              have HQ := hide (And.intro h (And.intro fv hkt))
              clear h fv hkt oq hp hp2 SL
              gi_wp2_with fail
              refine region_tail 18 (by kernel_rfl) (by kernel_rfl) (by kernel_rfl) ?_
              simp only [List.take_succ_cons, List.take_zero, List.drop_succ_cons, List.drop_zero]
              repeat (gi_big_quiet_step (fail))
              refine wpQuietIn_nil ?_
              rintro _ ⟨nq2, rfl⟩
              clear x1 x2 x3 x4 x5 x6 cp0 cp1 y0 y1
              obtain ⟨h, fv, hkt⟩ := unhide HQ
              have fd : Still W (W.drewN nq2) := (Fr.refl _ W).drewN nq2
              obtain ⟨Wd, hWd⟩ : ∃ Wd, W.drewN nq2 = Wd := ⟨_, rfl⟩
              rw [hWd] at fd ⊢
              have hd := h.kept fd (fun _ x => x.elim)
              obtain ⟨We, hWe⟩ : ∃ We, Wd.setCell ⟨n7 + 3, 0, none⟩ (.bool true) = We := ⟨_, rfl⟩
              obtain ⟨Wf, hWf⟩ : ∃ Wf, We.setCell ⟨n7 + 2, 0, none⟩ (.int .i64 ((k : Int) + 1)) = Wf := ⟨_, rfl⟩
              have fe : Fr (fun b => b = n7 + 3) Wd We := hWe ▸ Fr.box Wd (n7 + 3) _
              have ff : Fr (fun b => b = n7 + 2) We Wf := hWf ▸ Fr.box We (n7 + 2) _
              have fdf : Fr (fun b => b = n7 + 3 ∨ b = n7 + 2) Wd Wf := (fe.mono (fun b hb => .inl (.inl hb))).trans' ff (fun b hb => .inl (.inr hb))
              have bke := hd.bk.kept fe (by show ¬ n7 + 2 = n7 + 3; omega)
              have gn := h.gn
              have nb : ∀ b, b < n7 + 2 → ¬ (b = n7 + 3 ∨ b = n7 + 2) := fun b hb e => by omega
              have hJ1 : TwJ wq.heap.size g n7 m F Kt (.slice va m vc) L (k + 1) G Wf := ⟨h.inc, hd.bn.kept fdf (nb _ (by omega)), hd.bt.kept fdf (nb _ (by omega)), hd.ba.kept fdf (nb _ (by omega)), hd.bf.kept fdf (nb _ (by omega)), hWf ▸ bke.set _, (hWe ▸ hd.bo.set _ : Box We (n7 + 3) _).kept ff (by show ¬ n7 + 3 = n7 + 2; omega), row_kept hd.row fdf (fun b hb => nb b (by have := gn.2 b hb; omega)), by have := h.le; omega, Nat.le_trans hd.sz fdf.size, gn⟩
              have fVf : Fr (fun b => G b ∨ pair (n7 + 7) b) V Wf := (fv.mono (fun b hb => .inl (.inr hb))).trans' ((fd.mono (G := fun b => G b) (fun _ x => x.elim)).trans' fdf (fun b hb => .inl ((h.inc b).2 (by rcases hb with e | e; exact .inr (.inr (.inr (.inr (.inr (.inl e))))); exact .inr (.inr (.inr (.inr (.inl e)))))))) (fun b hb => .inl (.inl hb))
              have D0 : ∀ b, n7 + 7 ≤ b → b < W.heap.size → Wf.heap[b]? = W.heap[b]? := fun b h1 h2 => (fdf.block b (Nat.lt_of_lt_of_le h2 fd.size) (by omega)).trans (fd.block b h2 (fun x => x))
              have x3 := hd.bo.c; have z3 := hd.bo.z; have x1 := bke.c; have z1 := bke.z
              have HE := hide (And.intro hJ1 (And.intro fVf (And.intro D0 h))); have HWe := hide hWe; have HWf := hide hWf
              rw [← hWe] at x1 z1
              clear h fv hkt fd hd fe ff fdf bke gn nb hJ1 fVf D0 hWe hWf hWd HQ
              gi_wp2_with fail
              rw [unhide HWe, unhide HWf]
              obtain ⟨hJ1, fVf, D0, h⟩ := unhide HE
              have hsz := h.sz
              have ez := (unhide HZD).1
              refine ⟨⟨D0 _ (by omega) (by omega), D0 _ (by omega) (by omega)⟩, G, hJ1, by rw [ez]; exact fVf, fun b hb => hb, fun b hb => .inl hb⟩
        case hdone =>
          intro G W h fr hDD
          have hkN : (geP ⟨#[]⟩ L).length = m - F := by rw [hge, List.length_drop, (unhide HS).1.len]
          have hle := h.le
          rw [hkN] at h hle
          obtain ⟨kf, hkf, hkm⟩ : ∃ kf, m - F = kf ∧ (kf : Int) = min (Kt : Int) ((m : Int) - F) := ⟨_, rfl, by omega⟩
          rw [hkf] at h
          clear hkN hle hge hkf
          obtain ⟨S, sy⟩ := unhide HS
          obtain ⟨bt13, bn13, ba13, bf13, bk13, bo13, fq, row13, hp13⟩ := unhide HX13
          obtain ⟨o4, o5, o6, f13⟩ := unhide HO
          have fW : Still w W := ((S.hc.hd.fr.trans' fq (fun k hk => .inr (by omega))).trans' f13 (fun _ x => x.elim)).trans' fr (fun k hk => .inr (by
            have hrb := unhide HRB
            have hwz := S.hc.hd.fr.size
            rcases hk with e | e | e | e | e | e | e
            · omega
            · omega
            · omega
            · omega
            · omega
            · omega
            · have := hrb k e; omega))
          have AW := l11_awake W (fun j hj => fW.cell' (unhide HT j hj) (fun x => x))
          have x1 := h.bo.c; have x2 := h.ba.c; have x3 := h.bn.c; have x4 := h.bk.c; have x5 := h.bt.c; have x6 := h.bf.c
          have wr1 : wrap64 ((m : Int) - F) = (m : Int) - F := small_w64 (by omega)
          have HAW := hide AW; have HF := hide (And.intro fW (And.intro hDD h.sz))
          have hkm' := eq_true hkm
          have hkb : ((kf : Int) == min (Kt : Int) ((m : Int) - F)) = true := by rw [hkm]; simp
          clear S sy bt13 bn13 ba13 bf13 bk13 bo13 fq row13 hp13 o4 o5 o6 f13 fW AW h fr hDD hkm
          subst ha9
          show wpOf _ _ _ _ _ _
          refine wpOf_of_wp ?_
          go_wp2_with fail
          refine (unhide HAW).mono ?_
          rintro e w9 ⟨rfl, f9⟩
          have HF9 := hide f9
          clear f9 HAW x1 x2 x3 x4 x5 x6
          go_wp2
          obtain ⟨fW, hDD, hsz⟩ := unhide HF
          have f9 := unhide HF9
          have hD9 : w9.heap[n7 + 7]? = some (.deferred (some [])) := by
            rw [zD] at hDD
            exact (f9.block _ (by omega) (fun x => x)).trans hDD
          have f := (fW.trans' f9 (fun _ x => x.elim)).trans' ((Fr.refl (fun j => j = n7 + 7) w9).putObj (.inl rfl) (.deferred none)) (fun k hk => .inr (by have hk : k = n7 + 7 := hk; omega))
          refine ⟨by simp, .inl ⟨_, _, rfl, run_takeDeferred hD9, ⟨.bool true, results_tmp Tryz.results4 _ _ _, rfl, ?_⟩⟩⟩
          exact ⟨f.os, f.tape, f.output, f.size, fun k hk => f.block k (by omega) (fun x => x)⟩
        case hret =>
          rintro c W ⟨rfl, hk, G, h⟩ fr hDD
          have hkN : (geP ⟨#[]⟩ L).length = m - F := by rw [hge, List.length_drop, (unhide HS).1.len]
          rw [hkN] at hk
          obtain ⟨kf, hkf, hkm⟩ : ∃ kf, Kt = kf ∧ (kf : Int) = min (Kt : Int) ((m : Int) - F) := ⟨_, rfl, by omega⟩
          rw [show TwJ wq.heap.size g n7 m F Kt (.slice va m vc) L Kt G W = TwJ wq.heap.size g n7 m F Kt (.slice va m vc) L kf G W by rw [← hkf]] at h
          clear hkN hge hkf hk
          gi_wp2
          obtain ⟨S, sy⟩ := unhide HS
          obtain ⟨bt13, bn13, ba13, bf13, bk13, bo13, fq, row13, hp13⟩ := unhide HX13
          obtain ⟨o4, o5, o6, f13⟩ := unhide HO
          have fW : Still w W := ((S.hc.hd.fr.trans' fq (fun k hk => .inr (by omega))).trans' f13 (fun _ x => x.elim)).trans' fr (fun k hk => .inr (by
            have hrb := unhide HRB
            have hwz := S.hc.hd.fr.size
            rcases hk with e | e | e | e | e | e | e
            · omega
            · omega
            · omega
            · omega
            · omega
            · omega
            · have := hrb k e; omega))
          have AW := l11_awake W (fun j hj => fW.cell' (unhide HT j hj) (fun x => x))
          have x1 := h.bo.c; have x2 := h.ba.c; have x3 := h.bn.c; have x4 := h.bk.c; have x5 := h.bt.c; have x6 := h.bf.c
          have wr1 : wrap64 ((m : Int) - F) = (m : Int) - F := small_w64 (by omega)
          have HAW := hide AW; have HF := hide (And.intro fW (And.intro hDD h.sz))
          have hkm' := eq_true hkm
          have hkb : ((kf : Int) == min (Kt : Int) ((m : Int) - F)) = true := by rw [hkm]; simp
          clear S sy bt13 bn13 ba13 bf13 bk13 bo13 fq row13 hp13 o4 o5 o6 f13 fW AW h fr hDD hkm
          subst ha9
          show wpOf _ _ _ _ _ _
          refine wpOf_of_wp ?_
          go_wp2_with fail
          refine (unhide HAW).mono ?_
          rintro e w9 ⟨rfl, f9⟩
          have HF9 := hide f9
          clear f9 HAW x1 x2 x3 x4 x5 x6
          go_wp2
          obtain ⟨fW, hDD, hsz⟩ := unhide HF
          have f9 := unhide HF9
          have hD9 : w9.heap[n7 + 7]? = some (.deferred (some [])) := by
            rw [zD] at hDD
            exact (f9.block _ (by omega) (fun x => x)).trans hDD
          have f := (fW.trans' f9 (fun _ x => x.elim)).trans' ((Fr.refl (fun j => j = n7 + 7) w9).putObj (.inl rfl) (.deferred none)) (fun k hk => .inr (by have hk : k = n7 + 7 := hk; omega))
          refine ⟨by simp, .inl ⟨_, _, rfl, run_takeDeferred hD9, ⟨.bool true, results_tmp Tryz.results4 _ _ _, rfl, ?_⟩⟩⟩
          exact ⟨f.os, f.tape, f.output, f.size, fun k hk => f.block k (by omega) (fun x => x)⟩
end
end Go.Proofs.YtkaplgmjdfmpmaaGreatDoor
