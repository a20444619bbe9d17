/- Joined: KrW. -/
import Derived.Test.YtkaplgmjdfmpmaaGreatDoorQ35
namespace Go.Proofs.YtkaplgmjdfmpmaaGreatDoor
open Go.RowKit

section
attribute [local go_sem] Oper.semAt_some

def TrX (hb g n1 q : Nat) (v : Value) : Nat → Prop := fun k => k = hb ∨ k = g ∨ k = n1 ∨ k = n1 + 1 ∨ k = n1 + 2 ∨ k = q ∨ v.ownBlock = some k
structure TrH (w wr : World) (a0 : Option Addr) (len0 cap0 m q g n1 b hb sb : Nat) (T : Tay) (A : Ab) (s : Int) (base : Nat → Int) (r : Nat) (la : Option Addr) (lc : Nat) (L : List Pr) (Q : List Nat) : Prop where
  hc : HpC 1467 12176 w (TrX hb g n1 q (.slice la L.length lc)) wr hb sb b T A 3072 True s base
  t : Tre 1467 12176 (rb base) r L Q
  len : L.length ≤ m
  row : wr.ownsRow (n1 + 3) 43 2 (.slice la L.length lc) L.length (pcl L)
  bl : Box wr g (.slice a0 len0 cap0)
  bs : Box wr n1 (ptr sb)
  bh : Box wr (n1 + 1) (ptr hb)
  br : RtL wr (n1 + 2) r (.slice la L.length lc)
  bi : Box wr q (.int .i64 (m : Nat))
  d : 0 < w.heap.size ∧ w.heap.size = g ∧ g < n1 ∧ hb < n1 ∧ g < hb ∧ n1 + 2 < q
theorem TrH.next {w w6 : World} {X : Nat → Prop} {a0 : Option Addr} {len0 cap0 m g n1 b hb sb : Nat} {T : Tay} {A : Ab} {s : Int} {base : Nat → Int} {r : Nat} {la : Option Addr} {lc : Nat} {L : List Pr} {Q : List Nat}
    (hc : HpC 1467 12176 w X w6 hb sb b T A 3072 True s base) (hX : ∀ k, k = hb ∨ k = g ∨ k = n1 ∨ k = n1 + 1 ∨ k = n1 + 2 ∨ (Value.slice la L.length lc).ownBlock = some k → X k) (t : Tre 1467 12176 (rb base) r L Q) (len : L.length ≤ m + 1) (row : w6.ownsRow (n1 + 3) 43 2 (.slice la L.length lc) L.length (pcl L))
    (bl : Box w6 g (.slice a0 len0 cap0)) (bs : Box w6 n1 (ptr sb)) (bh : Box w6 (n1 + 1) (ptr hb)) (br : RtL w6 (n1 + 2) r (.slice la L.length lc)) (d : 0 < w.heap.size ∧ w.heap.size = g ∧ g < n1 ∧ hb < n1 ∧ g < hb) :
    TrH w (w6.alloc (.cells #[.int .i64 ((m : Int) + 1)] 3)) a0 len0 cap0 (m + 1) w6.heap.size g n1 b hb sb T A s base r la lc L Q := by
  have f7 : Still w6 (w6.alloc (.cells #[.int .i64 ((m : Int) + 1)] 3)) := (Fr.refl _ w6).alloc _
  have hc7 := hc.more (.cells #[.int .i64 ((m : Int) + 1)] 3)
  refine ⟨hc7.sub (fun k hk => ?_) (.inl rfl), t, len, own_still row f7, bl.kept f7 (fun x => x), bs.kept f7 (fun x => x), bh.kept f7 (fun x => x), br.kept f7 (fun x => x), Box.new w6 (.int .i64 ((m : Int) + 1)) 3, ⟨d.1, d.2.1, d.2.2.1, d.2.2.2.1, d.2.2.2.2, br.lt⟩⟩
  rcases hk with e | e | e | e | e | e | e
  · exact .inl (hX k (.inl e))
  · exact .inl (hX k (.inr (.inl e)))
  · exact .inl (hX k (.inr (.inr (.inl e))))
  · exact .inl (hX k (.inr (.inr (.inr (.inl e)))))
  · exact .inl (hX k (.inr (.inr (.inr (.inr (.inl e))))))
  · exact .inr e
  · exact .inl (hX k (.inr (.inr (.inr (.inr (.inr e))))))
structure TgJ (ng : Nat) (M : List Pr) (k : Nat) (G : Nat → Prop) (W : World) : Prop where
  ex : ∃ v, W.heap[ng]? = some (.cells #[v] 33 (0, 0)) ∧ W.ownsRow (ng + 6) 43 2 v k (pcl (M.take k)) ∧ ∀ b, Value.ownBlock v = some b → G b
  inc : G ng
  out : ∀ b, G b → b < W.heap.size ∧ (b = ng ∨ ng + 6 ≤ b)
  sz : ng + 6 ≤ W.heap.size
theorem TgJ.kept {ng : Nat} {M : List Pr} {k : Nat} {G O : Nat → Prop} {W W' : World} (h : TgJ ng M k G W) (f : Fr O W W') (ho : ∀ b, O b → ¬ G b) : TgJ ng M k G W' := by
  obtain ⟨v, o, row, hv⟩ := h.ex
  exact ⟨⟨v, f.obj o (fun x => ho _ x h.inc), owns_same row (fun k hk => f.block k (row.lt k hk).2 (fun x => ho _ x (hv k hk))), hv⟩, h.inc, fun b hb => ⟨Nat.lt_of_lt_of_le (h.out b hb).1 f.size, (h.out b hb).2⟩, Nat.le_trans h.sz f.size⟩
theorem TgJ.nopair {ng : Nat} {M : List Pr} {k : Nat} {G : Nat → Prop} {W : World} (h : TgJ ng M k G W) : ∀ b, pair (ng + 4) b → ¬ G b := fun b hb hG => by
  have := (h.out b hG).2
  unfold pair at hb
  omega
theorem set_self (t : Array Value) (i : Nat) : t.setIfInBounds i (t.getD i undef) = t := by
  apply Array.ext_getElem?
  intro j
  by_cases h : i = j
  · subst h
    by_cases hl : i < t.size
    · simp [hl]
    · simp [hl]
  · rw [Array.getElem?_setIfInBounds_ne h]
theorem slots4 {P : Program} {f : FuncId} {c : Code} {Q : Exit → Act → World → Prop} {t : Array Value} {ds : List Deferred} {w : World} (i : Nat) (h : ∀ a b c' d, wpOf P f c Q { tmps := (((t.setIfInBounds i a).setIfInBounds (i + 1) b).setIfInBounds (i + 2) c').setIfInBounds (i + 3) d, defers := ds } w) : wpOf P f c Q { tmps := t, defers := ds } w := by
  have := h (t.getD i undef) (t.getD (i + 1) undef) (t.getD (i + 2) undef) (t.getD (i + 3) undef)
  rwa [set_self, set_self, set_self, set_self] at this
theorem meet_all {G : Prop} {P : Prop} (f : P → G) (p : P) : G := f p
theorem wpOf_named2 {P : Program} {f : FuncId} {c : Code} {Q : Exit → Act → World → Prop} {a : Act} {w : World} (h : ∀ a', a' = a → wpOf P f c Q a' w) : wpOf P f c Q a w := h a rfl

set_option maxRecDepth 100000 in
set_option maxHeartbeats 8000000 in
theorem ranges_ok (a0 : Option Addr) (len0 cap0 : Nat) (lo hi : ByteArray) (n : Int) (key : ByteArray) (w : World) (z : Nat → OpK) (t0 : OpsK w a0 len0 z) (tab : TabL w) :
    Calls Tryz.prog 6 #[.slice a0 len0 cap0, .string lo, .string hi, .int .i64 n, .string key] w fun e w' => e = .returned (.bool true) ∧ Below w.heap.size w w' := by
  have h1 := eq_nil_heap
  have h2 := mf
  obtain ⟨g, hg⟩ : ∃ g, w.heap.size = g := ⟨_, rfl⟩
  have l0 : 0 < g := by rw [← hg]; exact World.block_lt_of_cell? _ _ (tab 0 (by omega))
  obtain ⟨WA, hWA⟩ : ∃ WA, w.alloc (.cells #[.slice a0 len0 cap0] 52) = WA := ⟨_, rfl⟩
  have fA : Still w WA := hWA ▸ (Fr.refl _ w).alloc _
  have zA : WA.heap.size = g + 1 := by rw [← hWA]; simp [hg]
  have blA : Box WA g (.slice a0 len0 cap0) := by
    have := Box.new w (.slice a0 len0 cap0) 52
    rw [hWA, hg] at this; exact this
  have K : Calls Tryz.prog 8 #[.int .i64 24576] WA _ := l8_open geo24 (N := 3072) (by omega) WA (fun j hj => fA.cell' (tab j hj) (fun x => x))
  have HK := hide K; have HT := hide tab; have HB := hide (And.intro blA (And.intro fA zA)); have HWA := hide hWA; have HT0 := @hide _ t0
  clear K tab blA fA zA hWA t0
  refine calls_of_wpOf Tryz.func6 rfl ?_
  simp only [Tryz.ntmps6, List.size_toArray, List.length_cons, List.length_nil, Nat.reduceAdd, Nat.reduceSub, Array.replicate_succ, Array.replicate_zero, List.push_toArray, List.append_toArray, List.nil_append, List.cons_append]
  refine wpOf_seq (wpOf_of_wp ?_)
  go_wp2
  rw [unhide HWA, hg]
  show wpOf _ _ _ _ _ _
  refine wpOf_seq (wpOf_of_wp ?_)
  go_wp2_with fail
  refine (unhide HK).mono ?_
  clear HK
  rintro e w1 ⟨b, sb, hb, T, A, base, rfl, hc, nw⟩
  obtain ⟨W1, hW1⟩ : ∃ W1, w1.alloc (.cells #[ptr sb] 23) = W1 := ⟨_, rfl⟩
  obtain ⟨W2, hW2⟩ : ∃ W2, W1.alloc (.cells #[ptr hb] 24) = W2 := ⟨_, rfl⟩
  obtain ⟨W3, hW3⟩ : ∃ W3, W2.alloc (.cells #[.int .u64 0, .slice none 0 0] 35) = W3 := ⟨_, rfl⟩
  obtain ⟨W4, hW4⟩ : ∃ W4, W3.alloc (.cells #[.int .i64 0] 3) = W4 := ⟨_, rfl⟩
  obtain ⟨n1, hn1⟩ : ∃ n1, w1.heap.size = n1 := ⟨_, rfl⟩
  have z1 : W1.heap.size = n1 + 1 := by rw [← hW1]; simp [hn1]
  have z2 : W2.heap.size = n1 + 2 := by rw [← hW2]; simp; omega
  have z3 : W3.heap.size = n1 + 3 := by rw [← hW3]; simp; omega
  have f12 : Still W1 W2 := hW2 ▸ (Fr.refl _ W1).alloc _
  have f23 : Still W2 W3 := hW3 ▸ (Fr.refl _ W2).alloc _
  have f34 : Still W3 W4 := hW4 ▸ (Fr.refl _ W3).alloc _
  have f24 : Still W2 W4 := f23.trans' f34 (fun _ x => x.elim)
  have f14 : Still W1 W4 := f12.trans' f24 (fun _ x => x.elim)
  have f04 : Still w1 W4 := (hW1 ▸ (Fr.refl _ w1).alloc _ : Still w1 W1).trans' f14 (fun _ x => x.elim)
  obtain ⟨blA, fA, zA⟩ := unhide HB
  have hc1 := hc.more (.cells #[ptr sb] 23)
  rw [hW1, hn1] at hc1
  have hc2 := hc1.more (.cells #[ptr hb] 24)
  rw [hW2, z1] at hc2
  have hc3 := hc2.more (.cells #[.int .u64 0, .slice none 0 0] 35)
  rw [hW3, z2] at hc3
  have hc4 := hc3.more (.cells #[.int .i64 0] 3)
  rw [hW4, z3] at hc4
  have lhb : hb < n1 := by rw [← hn1]; exact (hc.hd.xl hb hc.xh).2
  have ghb : g < hb := by have := (hc.hd.xl hb hc.xh).1; omega
  have lz : g + 1 ≤ n1 := by have := hc.hd.fr.size; omega
  have hcB := hc4.back (w0 := w) (Y := TrX hb g n1 (n1 + 3) (.slice none ([] : List Pr).length 0)) fA (by omega) (fun k hk => by
    rcases hk with rfl | rfl | rfl | rfl | rfl | rfl | hk
    · exact .inl (.inl (.inl (.inl (.inl rfl))))
    · exact .inr ⟨by omega, by omega⟩
    · exact .inl (.inl (.inl (.inl (.inr rfl))))
    · exact .inl (.inl (.inl (.inr rfl)))
    · exact .inl (.inl (.inr rfl))
    · exact .inl (.inr rfl)
    · cases hk) (.inl rfl)
  have bh2 : Box W2 (n1 + 1) (ptr hb) := by
    have := Box.new W1 (ptr hb) 24
    rw [hW2, z1] at this; exact this
  have st0 : TrH w W4 a0 len0 cap0 0 (n1 + 3) g n1 b hb sb T A 43021 base 0 none 0 [] [] := by
    refine ⟨hcB, Tre.new nw, Nat.le_refl _, World.ownsRow_nil _ _ _ _, ?_, ?_, bh2.kept f24 (fun x => x), ⟨?_⟩, ?_, ⟨by omega, hg, by omega, lhb, ghb, by omega⟩⟩
    · exact (blA.kept hc.hd.fr (fun x => x)).kept f04 (fun x => x)
    · have := Box.new w1 (ptr sb) 23
      rw [hW1, hn1] at this; exact this.kept f14 (fun x => x)
    · have := heap_alloc_new W2 (.cells #[.int .u64 0, .slice none 0 0] 35)
      rw [hW3, z2] at this; exact f34.obj this (fun x => x)
    · have := Box.new W3 (.int .i64 0) 3
      rw [hW4, z3] at this; exact this
  have bhc := bh2.c
  rw [← hW2, ← hW1] at bhc
  have HST := hide st0; have HW := hide (And.intro hW1 hW2); have HW3 := hide hW3; have HW4 := hide hW4
  clear hc hc1 hc2 hc3 hc4 hcB nw st0 f12 f23 f34 f24 f14 f04 bh2 blA fA zA hW1 hW2 hW3 hW4 HB HWA
  go_wp2
  rw [(unhide HW).1, (unhide HW).2]
  show wpOf _ _ _ _ _ _
  refine wpOf_seq (wpOf_of_wp ?_)
  rw [(unhide HW).1, (unhide HW).2] at bhc
  go_wp2
  show wpOf _ _ _ _ _ _
  refine wpOf_seq (wpOf_of_wp ?_)
  clear bhc
  go_wp2
  rw [unhide HW3]
  show wpOf _ _ _ _ _ _
  refine wpOf_seq (wpOf_of_wp ?_)
  go_wp2_with fail
  rw [unhide HW4]
  clear HW3 HW4 HW z1 z2 z3
  go_loopw [15] (fun iv wr => ∃ (m q : Nat) (T : Tay) (A : Ab) (s : Int) (base : Nat → Int) (r : Nat) (la : Option Addr) (lc : Nat) (L : List Pr) (Q : List Nat), iv = ptr q ∧ m ≤ 40 ∧ m ≤ len0 ∧ s ≤ 43021 + 30729 * m ∧ TrH w wr a0 len0 cap0 m q g n1 b hb sb T A s base r la lc L Q) (fun iv wr => 40 - pxN iv wr)
  case atStart => exact ⟨0, n1 + 3, T, A, 43021, base, 0, none, 0, [], [], rfl, by omega, by omega, by omega, unhide HST⟩
  case round =>
    clear HST
    obtain ⟨m, q, T, A, s, base, r, la, lc, L, Q, rfl, hm40, hml, hs, S⟩ := hrel
    generalize wr = wq at *
    clear wr
    have c1 := S.bi.c; have c2 := S.bl.c
    by_cases hlt : m < len0 ∧ m < 40
    · have hlt1 : ((m : Int) < len0) = True := by simp; omega
      have hlt2 : ((m : Int) < 40) = True := by simp; omega
      have c3 := S.bs.c
      obtain ⟨d0, d1, d2, d3, d4, d5⟩ := S.d
      obtain ⟨⟨xa, xo, ea, -, ck, cv⟩, hv⟩ := unhide HT0 m hlt.1
      have lxa : xa < g := by rw [← d1]; exact World.block_lt_of_cell? _ _ ck
      subst ea
      replace ck := S.hc.hd.fr.cell' ck (fun x => x)
      replace cv := S.hc.hd.fr.cell' cv (fun x => x)
      by_cases hk : 1 ≤ (z m).key.size ∧ (z m).key.size ≤ 80
      · skip
        have hk1 : (((z m).key.size : Int) < 1) = False := by simp; omega
        have hk2 : ((80 : Int) < (z m).key.size) = False := by simp; omega
        have sy := S.hc.says []
        rw [homed_nil] at sy
        have DO := put_doL (g := 30) (fi := #[]) (ca := #[ptr n1, ptr (n1 + 1), ptr (n1 + 2), ptr g, ptr q]) (br := n1 + 2) (L' := putP L (z m).key (z m).v) S.hc (by simp [TrX]) (by omega) (fun _ _ => by kernel_rfl) (fun w1 f1 => trC1 (i := m) (S.hc.toHp.still f1) (by rw [sy]; exact S.t) (by have := S.len; omega) (by simp) (by have := S.len; omega) la lc ((sl_of_row S.row pcl_one).still f1) xa xo len0 cap0 (z m).key (z m).v hk hv hlt.1 (f1.cell' S.bs.c (fun x => x)) (f1.cell' S.bh.c (fun x => x)) (S.br.kept f1 (fun x => x)) (f1.cell' S.bl.c (fun x => x)) (f1.cell' S.bi.c (fun x => x)) (f1.cell' ck (fun x => x)) (f1.cell' cv (fun x => x)) (fun k hk => by
          rcases hk with rfl | rfl | rfl | rfl | rfl | rfl | ⟨y, rfl, rfl⟩
          · exact S.hc.hd.ap _ (by simp [TrX])
          · exact S.hc.hd.ap _ (by simp [TrX])
          · exact S.hc.hd.ap _ (by simp [TrX])
          · exact S.hc.hd.ap _ (by simp [TrX])
          · exact S.hc.hd.ap _ (by simp [TrX])
          · exact fun ht => by have := S.hc.hd.new _ ht; omega
          · exact S.hc.hd.ap _ (.inr (.inr (.inr (.inr (.inr (.inr rfl))))))) (by omega)) (by omega)
        have HDO := hide DO; have HS := hide S
        clear DO S sy
        go_wp2_with fail
        refine (unhide HDO).mono ?_
        clear HDO ck cv c1 c2 c3
        rintro e w6 ⟨rfl, fr6, T6, A6, base6, r6, Q6, v6, hc6, br6, row6, t6⟩
        obtain ⟨la6, lc6, ev⟩ : ∃ va vc, v6 = .slice va (putP L (z m).key (z m).v).length vc := by
          rcases rowp_form row6 with ⟨e, h0⟩ | ⟨gg, cap, e⟩
          · exact ⟨none, 0, by rw [e, h0]⟩
          · exact ⟨_, cap, e⟩
        subst ev
        have S := unhide HS
        have nx : ∀ k, k ≠ n1 + 2 → TrX hb g n1 q (.slice la L.length lc) k → ¬ (tfoot sb b T k ∨ k = n1 + 2) := fun k h2 hk e => e.elim (S.hc.hd.ap k hk) h2
        have bi6 := S.bi.kept fr6 (nx _ (by omega) (by simp [TrX]))
        have S7 := TrH.next (m := m) hc6 (fun k hk => by
          rcases hk with e | e | e | e | e | e
          · exact .inl (.inl e)
          · exact .inl (.inr (.inl e))
          · exact .inl (.inr (.inr (.inl e)))
          · exact .inl (.inr (.inr (.inr (.inl e))))
          · exact .inl (.inr (.inr (.inr (.inr (.inl e)))))
          · exact .inr e) t6 (Nat.le_trans (putP_len _ _ _) (by have := S.len; omega)) (row_lo row6 (by have := S.bi.lt; omega)) (S.bl.kept fr6 (nx _ (by omega) (by simp [TrX]))) (S.bs.kept fr6 (nx _ (by omega) (by simp [TrX]))) (S.bh.kept fr6 (nx _ (by omega) (by simp [TrX]))) br6 ⟨d0, d1, d2, d3, d4⟩
        clear hc6 br6 row6 t6 fr6 nx HS hk1 hk2
        have px := pxN_box S.bi; have px7 := pxN_box S7.bi
        have c6 := bi6.c
        have HS7 := hide S7; have HPX := hide (And.intro px px7)
        clear S7 px px7 S bi6
        go_wp2
        refine ⟨⟨m + 1, w6.heap.size, _, _, _, _, _, _, _, _, _, rfl, by omega, by omega, by omega, unhide HS7⟩, ?_⟩
        obtain ⟨px, px7⟩ := unhide HPX
        rw [px]
        have px7' : pxN (.pointer (some ⟨w6.heap.size, 0, none⟩)) (w6.alloc (.cells #[.int .i64 ((m : Int) + 1)] 3)) = m + 1 := px7
        rw [px7']
        omega
      · skip
        have bi6 := S.bi
        have S7 := TrH.next (m := m) S.hc (fun k hk => by
          rcases hk with e | e | e | e | e | e
          · exact .inl e
          · exact .inr (.inl e)
          · exact .inr (.inr (.inl e))
          · exact .inr (.inr (.inr (.inl e)))
          · exact .inr (.inr (.inr (.inr (.inl e))))
          · exact .inr (.inr (.inr (.inr (.inr (.inr e)))))) S.t (by have := S.len; omega) S.row S.bl S.bs S.bh S.br ⟨d0, d1, d2, d3, d4⟩
        rcases (show (z m).key.size < 1 ∨ (1 ≤ (z m).key.size ∧ 80 < (z m).key.size) by omega) with hk3 | hk3
        · have hk1 : (((z m).key.size : Int) < 1) = True := by simp; omega
          have px := pxN_box S.bi; have px7 := pxN_box S7.bi
          have c6 := bi6.c
          have HS7 := hide S7; have HPX := hide (And.intro px px7)
          clear S7 px px7 S bi6
          go_wp2
          refine ⟨⟨m + 1, wq.heap.size, _, _, _, _, _, _, _, _, _, rfl, by omega, by omega, by omega, unhide HS7⟩, ?_⟩
          obtain ⟨px, px7⟩ := unhide HPX
          rw [px]
          have px7' : pxN (.pointer (some ⟨wq.heap.size, 0, none⟩)) (wq.alloc (.cells #[.int .i64 ((m : Int) + 1)] 3)) = m + 1 := px7
          rw [px7']
          omega
        · have hk1 : (((z m).key.size : Int) < 1) = False := by simp; omega
          have hk2 : ((80 : Int) < (z m).key.size) = True := by simp; omega
          have px := pxN_box S.bi; have px7 := pxN_box S7.bi
          have c6 := bi6.c
          have HS7 := hide S7; have HPX := hide (And.intro px px7)
          clear S7 px px7 S bi6
          go_wp2
          refine ⟨⟨m + 1, wq.heap.size, _, _, _, _, _, _, _, _, _, rfl, by omega, by omega, by omega, unhide HS7⟩, ?_⟩
          obtain ⟨px, px7⟩ := unhide HPX
          rw [px]
          have px7' : pxN (.pointer (some ⟨wq.heap.size, 0, none⟩)) (wq.alloc (.cells #[.int .i64 ((m : Int) + 1)] 3)) = m + 1 := px7
          rw [px7']
          omega
    · skip
      obtain ⟨d0, d1, d2, d3, d4, d5⟩ := S.d
      have HS := hide S
      clear S
      have hAB : ((m : Int) < len0) = False ∨ (((m : Int) < len0) = True ∧ ((m : Int) < 40) = False) := by
        rcases (show len0 ≤ m ∨ (m < len0 ∧ 40 ≤ m) by omega) with hA | hA
        · exact .inl (by simp; omega)
        · exact .inr ⟨by simp; omega, by simp; omega⟩
      apply meet_all
      · intro hP
        have HP := @hide _ hP
        clear hP
        rcases hAB with hlt1 | ⟨hlt1, hlt2⟩
        · go_wp2
          show wpOf _ _ _ _ _ _
          refine slots4 38 ?_
          simp only [List.setIfInBounds_toArray, List.set_cons_zero, List.set_cons_succ, Nat.reduceAdd]
          exact unhide HP
        · go_wp2
          show wpOf _ _ _ _ _ _
          refine slots4 38 ?_
          simp only [List.setIfInBounds_toArray, List.set_cons_zero, List.set_cons_succ, Nat.reduceAdd]
          exact unhide HP
      · intro s38 s39 s40 s41
        clear hAB
        have S := unhide HS
        have cL : wq.cell? ⟨n1 + 2, 1, none⟩ = some (.slice la L.length lc) := cell_of_obj S.br.o 1
        have hSL : Lf wq la lc L := sl_of_row S.row pcl_one
        have ri := S.t.ri
        have hL40 : L.length ≤ 40 := by have := S.len; omega
        have HCL := hide (And.intro cL (And.intro hSL ri))
        clear S cL hSL ri
        refine wpOf_seq (wpOf_of_wp ?_)
        go_wp2
        show wpOf _ _ _ _ _ _
        refine wpOf_seq (wpOf_of_wp ?_)
        go_wp2
        show wpOf _ _ _ _ _ _
        refine wpOf_seq (wpOf_of_wp ?_)
        go_wp2_with fail
        go_loopw [17, 18, 19, 20, 21] (fun wv av atv inv iv wr => ∃ (j : Nat), j ≤ L.length ∧ iv = .int .i64 j ∧ wr.ownsRow wq.heap.size 43 2 wv (wtP (L.take j) lo hi n).length (pcl (wtP (L.take j) lo hi n)) ∧ wr.ownsRow wq.heap.size 43 2 av (geP lo (L.take j)).length (pcl (geP lo (L.take j))) ∧ (∀ k, Value.ownBlock wv = some k → Value.ownBlock av ≠ some k) ∧ atv = .int .u64 (((getP (L.take j) key).getD 0 : Nat) : Int) ∧ inv = .bool (getP (L.take j) key).isSome ∧ Still wq wr) (fun _ _ _ _ iv _ => L.length - (intOf iv).toNat)
        case atStart =>
          have e1 : wtP (L.take 0) lo hi n = [] := by simp [wtP, geP]
          have e2 : geP lo (L.take 0) = [] := by simp [geP]
          refine ⟨0, Nat.zero_le _, rfl, ?_, ?_, (fun k hk => by cases hk), by simp [getP], by simp [getP], Fr.refl _ _⟩
          · rw [e1]; exact World.ownsRow_nil _ _ _ _
          · rw [e2]; exact World.ownsRow_nil _ _ _ _
        case round =>
          obtain ⟨j, hjl, rfl, rw1, ra1, dj, rfl, rfl, fr⟩ := hrel
          obtain ⟨cL, hSL, ri⟩ := unhide HCL
          replace cL := fr.cell' cL (fun x => x)
          by_cases hlt : j < L.length
          · skip
            obtain ⟨p, hp⟩ : ∃ p, L[j]? = some p := ⟨_, List.getElem?_eq_getElem (by omega)⟩
            obtain ⟨b0, o0, rfl, k1, k2⟩ := hSL.pair hp
            replace k1 := fr.cell' k1 (fun x => x)
            replace k2 := fr.cell' k2 (fun x => x)
            have hlt' : ((j : Int) < L.length) = True := by simp; omega
            have et : L.take (j + 1) = L.take j ++ [p] := by rw [List.take_add_one, hp]; rfl
            have ri2 : Rise (L.take j ++ [p]) := by rw [← et]; exact ri.sublist (List.take_sublist _ _)
            have gs := getP_snoc (x := key) ri2
            obtain ⟨wa, wcp, ew⟩ : ∃ va vc, u17 = .slice va (wtP (L.take j) lo hi n).length vc := by
              rcases rowp_form rw1 with ⟨e, h0⟩ | ⟨gg, cap, e⟩
              · exact ⟨none, 0, by rw [e, h0]⟩
              · exact ⟨_, cap, e⟩
            subst ew
            obtain ⟨wl, hwl⟩ : ∃ wl, (wtP (L.take j) lo hi n).length = wl := ⟨_, rfl⟩
            rw [hwl] at rw1 dj
            have wl40 : wl ≤ 40 := by rw [← hwl]; exact Nat.le_trans (wtP_len _ _ _ _) (by rw [List.length_take]; omega)
            have HR := hide (And.intro rw1 (And.intro ra1 (And.intro dj fr)))
            have HP2 := hide (And.intro et (And.intro gs hwl))
            clear rw1 ra1 dj fr et gs hSL ri ri2 hp
            rw [hwl]
            clear hwl
            go_upto_if 87 with fail
            go_cut [17, 18] from 85 to 117 (fun s17 s18 wx => wx.ownsRow wq.heap.size 43 2 s17 (wtP (L.take (j + 1)) lo hi n).length (pcl (wtP (L.take (j + 1)) lo hi n)) ∧ wx.ownsRow wq.heap.size 43 2 s18 (geP lo (L.take (j + 1))).length (pcl (geP lo (L.take (j + 1)))) ∧ (∀ k, Value.ownBlock s17 = some k → Value.ownBlock s18 ≠ some k) ∧ Still wq wx)
            case first =>
              have lx := less_eq p.1 lo
              by_cases hge : ltK p.1 lo
              · rw [decide_eq_true hge] at lx
                have HG := hide hge
                clear hge
                rw [lx, Bool.not_true]
                go_wp2
                go_meet
                case rel =>
                  obtain ⟨rw1, ra1, dj, fr⟩ := unhide HR
                  obtain ⟨et, gs, hwl⟩ := unhide HP2
                  have e1 : wtP (L.take (j + 1)) lo hi n = wtP (L.take j) lo hi n := by rw [et, wtP_snoc, if_neg (fun e => e.1 (unhide HG)), List.append_nil]
                  have e2 : geP lo (L.take (j + 1)) = geP lo (L.take j) := by rw [et, geP_snoc, if_pos (unhide HG), List.append_nil]
                  rw [e1, e2, hwl]
                  exact ⟨rw1, ra1, dj, fr⟩
              · rw [decide_eq_false hge] at lx
                rw [lx, Bool.not_false]
                obtain ⟨rw1, ra1, dj, fr⟩ := unhide HR
                obtain ⟨et, gs, hwl⟩ := unhide HP2
                obtain ⟨W1, hW1⟩ : ∃ W1, wr.alloc (.cells #[.string p.1, .int .u64 (p.2 : Nat)] 43) = W1 := ⟨_, rfl⟩
                have f1 : Still wr W1 := hW1 ▸ (Fr.refl _ wr).alloc _
                obtain ⟨av, w2, hap, ra2, hgr, hloc⟩ := run_more elt_Q 33 (own_still ra1 f1) (sl_pair wr W1 p hW1) (by have := ge_len lo (L.take j); rw [List.length_take] at this; omega) (Nat.le_trans fr.size f1.size)
                have f1w : Still wq W1 := fr.trans' f1 (fun _ x => x.elim)
                have f2w : Still wq w2 := f1w.grown hgr (fun k hk => .inr (ra1.lt k hk).1)
                have e2 : geP lo (L.take (j + 1)) = geP lo (L.take j) ++ [p] := by rw [et, geP_snoc, if_neg hge]
                have rw2 : w2.ownsRow wq.heap.size 43 2 (.slice wa wl wcp) wl (pcl (wtP (L.take j) lo hi n)) := row_kept (own_still rw1 f1) (((Fr.refl (fun k => u18.ownBlock = some k) W1)).grown hgr (fun k hk => .inl hk)) (fun k hk e => dj k hk e)
                have ra3 : w2.ownsRow wq.heap.size 43 2 av (geP lo (L.take (j + 1))).length (pcl (geP lo (L.take (j + 1)))) := by
                  rw [e2, pcl_app, List.length_append]; exact ra2
                have dj2 : ∀ k, (Value.slice wa wl wcp).ownBlock = some k → av.ownBlock ≠ some k := fun k hk e => by
                  rcases hloc with h | h
                  · exact dj k hk (h ▸ e)
                  · rw [h] at e
                    cases e
                    have := (rw1.lt _ hk).2
                    have := f1.size
                    omega
                have cL2 : w2.cell? ⟨n1 + 2, 1, none⟩ = some (.slice (some ⟨b0, o0, none⟩) L.length lc) := f2w.cell' (unhide HCL).1 (fun x => x)
                obtain ⟨bb, oo, ee, m1, m2⟩ := (unhide HCL).2.1.pair (show L[j]? = some p from by
                  have := congrArg (fun l => l[j]?) et
                  simpa [List.getElem?_append, List.getElem?_take, show min j L.length = j by omega] using this)
                cases ee
                replace m1 := f2w.cell' m1 (fun x => x)
                replace m2 := f2w.cell' m2 (fun x => x)
                have HAP := hide hap; have HW1 := hide hW1
                have HZ := hide (And.intro rw2 (And.intro ra3 (And.intro dj2 (And.intro f2w hge))))
                clear rw1 ra1 dj fr et gs hwl f1 ra2 hgr hloc f1w f2w e2 rw2 ra3 dj2 hap hW1 hge
                obtain ⟨av', ac', ea⟩ : ∃ va vc, av = .slice va (geP lo (L.take (j + 1))).length vc := by
                  rcases rowp_form (unhide HZ).2.1 with ⟨e, h0⟩ | ⟨gg, cap, e⟩
                  · exact ⟨none, 0, by rw [e, h0]⟩
                  · exact ⟨_, cap, e⟩
                subst ea
                generalize (geP lo (L.take (j + 1))).length = al at *
                have lh := less_eq p.1 hi
                have HLW := hide (And.intro lx lh)
                clear lx lh
                by_cases hc : hi.size = 0 ∨ ltK p.1 hi
                · have hcs : hi.toList = [] ∨ (hi.toList.isEmpty = false ∧ (hi.toList = []) = False ∧ Op.bytesLess p.1.toList hi.toList = true) := by
                    by_cases h0 : hi.size = 0
                    · exact .inl (nil_of h0)
                    · refine .inr ⟨(not_nil h0).1, (not_nil h0).2, ?_⟩
                      rw [(unhide HLW).2]
                      exact decide_eq_true (hc.resolve_left h0)
                  have HC := hide hc
                  clear hc
                  by_cases hd : (wl : Int) < max n 0
                  · have hd' : ((wl : Int) < max n 0) = True := eq_true hd
                    have HD := hide hd
                    clear hd
                    rcases hcs with hE | ⟨hE1, hE2, hE3⟩
                    · skip
                      obtain ⟨rw2, ra3, dj2, f2w, hge⟩ := unhide HZ
                      obtain ⟨et, gs, hwl⟩ := unhide HP2
                      obtain ⟨W3, hW3⟩ : ∃ W3, w2.alloc (.cells #[.string p.1, .int .u64 (p.2 : Nat)] 43) = W3 := ⟨_, rfl⟩
                      have f3 : Still w2 W3 := hW3 ▸ (Fr.refl _ w2).alloc _
                      obtain ⟨wv', w4, hap2, rw3, hgr2, hloc2⟩ := run_more elt_Q 33 (own_still rw2 f3) (sl_pair w2 W3 p hW3) (by omega) (Nat.le_trans f2w.size f3.size)
                      have f4w : Still wq w4 := (f2w.trans' f3 (fun _ x => x.elim)).grown hgr2 (fun k hk => .inr (rw2.lt k hk).1)
                      have e1 : wtP (L.take (j + 1)) lo hi n = wtP (L.take j) lo hi n ++ [p] := by rw [et, wtP_snoc, if_pos ⟨hge, decide_eq_true (unhide HC), by rw [hwl]; have := unhide HD; omega⟩]
                      have HF := hide (show w4.ownsRow wq.heap.size 43 2 wv' (wtP (L.take (j + 1)) lo hi n).length (pcl (wtP (L.take (j + 1)) lo hi n)) ∧ w4.ownsRow wq.heap.size 43 2 (.slice av' al ac') _ (pcl (geP lo (L.take (j + 1)))) ∧ (∀ k, wv'.ownBlock = some k → (Value.slice av' al ac').ownBlock ≠ some k) ∧ Still wq w4 from ⟨by
                        rw [e1, pcl_app, List.length_append, hwl]; exact rw3, row_kept (own_still ra3 f3) (((Fr.refl (fun k => (Value.slice wa wl wcp).ownBlock = some k) W3)).grown hgr2 (fun k hk => .inl hk)) (fun k hk e => dj2 k e hk), (fun k hk e => by
                        rcases hloc2 with h | h
                        · exact dj2 k (h ▸ hk) e
                        · rw [h] at hk
                          cases hk
                          have := (ra3.lt _ e).2
                          have := f3.size
                          omega), f4w⟩)
                      have HAP2 := hide hap2; have HW3 := hide hW3
                      clear rw2 ra3 dj2 f2w hge et gs hwl f3 hap2 rw3 hgr2 hloc2 f4w e1 hW3
                      go_wp2_with (first | (at_builtin; rw [unhide HW1]; refine wpList_append_run rfl (.tmp 88) (.tmp 94) 33 rfl _ _ rfl rfl _ w2 (unhide HAP) ?_) | (at_builtin; rw [unhide HW3]; refine wpList_append_run rfl (.tmp 110) (.tmp 116) 33 rfl _ _ rfl rfl wv' w4 (unhide HAP2) ?_) | fail)
                      go_meet
                      case rel => exact unhide HF
                    · skip
                      obtain ⟨rw2, ra3, dj2, f2w, hge⟩ := unhide HZ
                      obtain ⟨et, gs, hwl⟩ := unhide HP2
                      obtain ⟨W3, hW3⟩ : ∃ W3, w2.alloc (.cells #[.string p.1, .int .u64 (p.2 : Nat)] 43) = W3 := ⟨_, rfl⟩
                      have f3 : Still w2 W3 := hW3 ▸ (Fr.refl _ w2).alloc _
                      obtain ⟨wv', w4, hap2, rw3, hgr2, hloc2⟩ := run_more elt_Q 33 (own_still rw2 f3) (sl_pair w2 W3 p hW3) (by omega) (Nat.le_trans f2w.size f3.size)
                      have f4w : Still wq w4 := (f2w.trans' f3 (fun _ x => x.elim)).grown hgr2 (fun k hk => .inr (rw2.lt k hk).1)
                      have e1 : wtP (L.take (j + 1)) lo hi n = wtP (L.take j) lo hi n ++ [p] := by rw [et, wtP_snoc, if_pos ⟨hge, decide_eq_true (unhide HC), by rw [hwl]; have := unhide HD; omega⟩]
                      have HF := hide (show w4.ownsRow wq.heap.size 43 2 wv' (wtP (L.take (j + 1)) lo hi n).length (pcl (wtP (L.take (j + 1)) lo hi n)) ∧ w4.ownsRow wq.heap.size 43 2 (.slice av' al ac') _ (pcl (geP lo (L.take (j + 1)))) ∧ (∀ k, wv'.ownBlock = some k → (Value.slice av' al ac').ownBlock ≠ some k) ∧ Still wq w4 from ⟨by
                        rw [e1, pcl_app, List.length_append, hwl]; exact rw3, row_kept (own_still ra3 f3) (((Fr.refl (fun k => (Value.slice wa wl wcp).ownBlock = some k) W3)).grown hgr2 (fun k hk => .inl hk)) (fun k hk e => dj2 k e hk), (fun k hk e => by
                        rcases hloc2 with h | h
                        · exact dj2 k (h ▸ hk) e
                        · rw [h] at hk
                          cases hk
                          have := (ra3.lt _ e).2
                          have := f3.size
                          omega), f4w⟩)
                      have HAP2 := hide hap2; have HW3 := hide hW3
                      clear rw2 ra3 dj2 f2w hge et gs hwl f3 hap2 rw3 hgr2 hloc2 f4w e1 hW3
                      go_wp2_with (first | (at_builtin; rw [unhide HW1]; refine wpList_append_run rfl (.tmp 88) (.tmp 94) 33 rfl _ _ rfl rfl _ w2 (unhide HAP) ?_) | (at_builtin; rw [unhide HW3]; refine wpList_append_run rfl (.tmp 110) (.tmp 116) 33 rfl _ _ rfl rfl wv' w4 (unhide HAP2) ?_) | fail)
                      go_meet
                      case rel => exact unhide HF
                  · have hd' : ((wl : Int) < max n 0) = False := eq_false hd
                    have HNO := hide (show cHi hi p = true → ¬ ((wl : Int) < max n 0) from fun _ => hd)
                    clear hd
                    rcases hcs with hE | ⟨hE1, hE2, hE3⟩
                    · skip
                      go_wp2_with (first | (at_builtin; rw [unhide HW1]; refine wpList_append_run rfl (.tmp 88) (.tmp 94) 33 rfl _ _ rfl rfl _ w2 (unhide HAP) ?_) | fail)
                      go_meet
                      case rel =>
                        obtain ⟨rw2, ra3, dj2, f2w, hge⟩ := unhide HZ
                        obtain ⟨et, gs, hwl⟩ := unhide HP2
                        have e1 : wtP (L.take (j + 1)) lo hi n = wtP (L.take j) lo hi n := by rw [et, wtP_snoc, if_neg (fun (e : ¬ ltK p.1 lo ∧ cHi hi p = true ∧ ((wtP (L.take j) lo hi n).length : Int) < max n 0) => by have q1 := unhide HNO e.2.1; have q2 := e.2.2; rw [hwl] at q2; omega), List.append_nil]
                        rw [e1, hwl]
                        exact ⟨rw2, ra3, dj2, f2w⟩
                    · skip
                      go_wp2_with (first | (at_builtin; rw [unhide HW1]; refine wpList_append_run rfl (.tmp 88) (.tmp 94) 33 rfl _ _ rfl rfl _ w2 (unhide HAP) ?_) | fail)
                      go_meet
                      case rel =>
                        obtain ⟨rw2, ra3, dj2, f2w, hge⟩ := unhide HZ
                        obtain ⟨et, gs, hwl⟩ := unhide HP2
                        have e1 : wtP (L.take (j + 1)) lo hi n = wtP (L.take j) lo hi n := by rw [et, wtP_snoc, if_neg (fun (e : ¬ ltK p.1 lo ∧ cHi hi p = true ∧ ((wtP (L.take j) lo hi n).length : Int) < max n 0) => by have q1 := unhide HNO e.2.1; have q2 := e.2.2; rw [hwl] at q2; omega), List.append_nil]
                        rw [e1, hwl]
                        exact ⟨rw2, ra3, dj2, f2w⟩
                · have h0 : hi.size ≠ 0 := fun e => hc (.inl e)
                  have h1' : ¬ ltK p.1 hi := fun e => hc (.inr e)
                  have lh := (unhide HLW).2
                  rw [decide_eq_false h1'] at lh
                  obtain ⟨hE1, hE2⟩ := not_nil h0
                  have HNO := hide (show cHi hi p = true → ¬ ((wl : Int) < max n 0) from fun e => absurd (of_decide_eq_true e) hc)
                  clear hc h0 h1'
                  go_wp2_with (first | (at_builtin; rw [unhide HW1]; refine wpList_append_run rfl (.tmp 88) (.tmp 94) 33 rfl _ _ rfl rfl _ w2 (unhide HAP) ?_) | fail)
                  go_meet
                  case rel =>
                    obtain ⟨rw2, ra3, dj2, f2w, hge⟩ := unhide HZ
                    obtain ⟨et, gs, hwl⟩ := unhide HP2
                    have e1 : wtP (L.take (j + 1)) lo hi n = wtP (L.take j) lo hi n := by rw [et, wtP_snoc, if_neg (fun (e : ¬ ltK p.1 lo ∧ cHi hi p = true ∧ ((wtP (L.take j) lo hi n).length : Int) < max n 0) => by have q1 := unhide HNO e.2.1; have q2 := e.2.2; rw [hwl] at q2; omega), List.append_nil]
                    rw [e1, hwl]
                    exact ⟨rw2, ra3, dj2, f2w⟩
            case rest =>
              obtain ⟨rwF, raF, djF, frF⟩ := hcut
              have cL3 : wc.cell? ⟨n1 + 2, 1, none⟩ = some (.slice (some ⟨b0, o0, none⟩) L.length lc) := frF.cell' (unhide HCL).1 (fun x => x)
              have ep : L[j]? = some p := by
                have := congrArg (fun l => l[j]?) (unhide HP2).1
                simpa [List.getElem?_append, List.getElem?_take, show min j L.length = j by omega] using this
              obtain ⟨bb, oo, ee, m1, m2⟩ := (unhide HCL).2.1.pair ep
              cases ee
              replace m2 := frF.cell' m2 (fun x => x)
              have gs := (unhide HP2).2.1
              rw [← (unhide HP2).1] at gs
              have HF := hide (And.intro rwF (And.intro raF (And.intro djF frF)))
              clear rwF raF djF frF m1 ep
              by_cases he : p.1 = key
              · have hq : (p.1.toList == key.toList) = true := by rw [he]; simp
                rw [if_pos he] at gs
                have HGS := hide gs
                clear gs he
                go_wp2
                obtain ⟨rwF, raF, djF, frF⟩ := unhide HF
                refine ⟨⟨j + 1, by omega, by simp, rwF, raF, djF, ?_, ?_, frF⟩, by simp [intOf]; omega⟩
                · rw [unhide HGS]; rfl
                · rw [unhide HGS]; rfl
              · have hq : (p.1.toList == key.toList) = false := by
                  simp only [beq_eq_false_iff_ne, ne_eq, Lib.toList_data]
                  exact fun e => he (bytes_ext e)
                rw [if_neg he] at gs
                have HGS := hide gs
                clear gs he
                go_wp2
                obtain ⟨rwF, raF, djF, frF⟩ := unhide HF
                refine ⟨⟨j + 1, by omega, by simp, rwF, raF, djF, ?_, ?_, frF⟩, by simp [intOf]; omega⟩
                · rw [unhide HGS]
                · rw [unhide HGS]
          · skip
            have ej : j = L.length := by omega
            subst ej
            rw [List.take_length] at rw1 ra1
            have hlt' : ((L.length : Int) < L.length) = False := by simp
            obtain ⟨wa, wcp, ew⟩ : ∃ va vc, u17 = .slice va (wtP L lo hi n).length vc := by
              rcases rowp_form rw1 with ⟨e, h0⟩ | ⟨gg, cap, e⟩
              · exact ⟨none, 0, by rw [e, h0]⟩
              · exact ⟨_, cap, e⟩
            obtain ⟨aa, acp, ea⟩ : ∃ va vc, u18 = .slice va (geP lo L).length vc := by
              rcases rowp_form ra1 with ⟨e, h0⟩ | ⟨gg, cap, e⟩
              · exact ⟨none, 0, by rw [e, h0]⟩
              · exact ⟨_, cap, e⟩
            subst ew
            subst ea
            rw [wtP_is ri] at rw1 ⊢
            have HR := hide (And.intro rw1 (And.intro ra1 fr))
            simp only [List.take_length]
            clear rw1 ra1 dj fr hSL ri
            go_wp2
            show wpOf _ _ _ _ _ _
            clear cL hlt'
            obtain ⟨rw1, ra1, fr⟩ := unhide HR
            have S := unhide HS
            obtain ⟨ng, hng⟩ : ∃ ng, wr.heap.size = ng := ⟨_, rfl⟩
            obtain ⟨Wg, hWg⟩ : ∃ W, wr.alloc (.cells #[.slice none 0 0] 33) = W := ⟨_, rfl⟩
            obtain ⟨W14, hW14⟩ : ∃ W, Wg.alloc (.cells #[ptr sb] 23) = W := ⟨_, rfl⟩
            obtain ⟨W15, hW15⟩ : ∃ W, W14.alloc (.cells #[.int .u64 (r : Nat)] 27) = W := ⟨_, rfl⟩
            obtain ⟨wD, hwD⟩ : ∃ W, W15.alloc (.cells #[.string lo] 9) = W := ⟨_, rfl⟩
            have zg : Wg.heap.size = ng + 1 := by rw [← hWg]; simp [hng]
            have z14 : W14.heap.size = ng + 2 := by rw [← hW14]; simp [zg]
            have z15 : W15.heap.size = ng + 3 := by rw [← hW15]; simp [z14]
            have zD : wD.heap.size = ng + 4 := by rw [← hwD]; simp [z15]
            have fg : Still wr Wg := hWg ▸ (Fr.refl _ wr).alloc _
            have f15 : Still W15 wD := hwD ▸ (Fr.refl _ W15).alloc _
            have f14 : Still W14 wD := (hW15 ▸ (Fr.refl _ W14).alloc _ : Still W14 W15).trans' f15 (fun _ x => x.elim)
            have fgD : Still Wg wD := (hW14 ▸ (Fr.refl _ Wg).alloc _ : Still Wg W14).trans' f14 (fun _ x => x.elim)
            have og : wD.heap[ng]? = some (.cells #[.slice none 0 0] 33 (0, 0)) := fgD.obj (by have := heap_alloc_new wr (.cells #[.slice none 0 0] 33); rwa [hWg, hng] at this) (fun x => x)
            have o4 : wD.heap[ng + 1]? = some (.cells #[ptr sb] 23 (0, 0)) := f14.obj (by have := heap_alloc_new Wg (.cells #[ptr sb] 23); rwa [hW14, zg] at this) (fun x => x)
            have o5 : wD.heap[ng + 2]? = some (.cells #[.int .u64 (r : Nat)] 27 (0, 0)) := f15.obj (by have := heap_alloc_new W14 (.cells #[.int .u64 (r : Nat)] 27); rwa [hW15, z14] at this) (fun x => x)
            have o6 : wD.heap[ng + 3]? = some (.cells #[.string lo] 9 (0, 0)) := by have := heap_alloc_new W15 (.cells #[.string lo] 9); rwa [hwD, z15] at this
            have fgw : Still wq Wg := fr.trans' fg (fun _ x => x.elim)
            have fDw : Still wq wD := fgw.trans' fgD (fun _ x => x.elim)
            have lzq : wq.heap.size ≤ ng := by rw [← hng]; exact fr.size
            have c2g := fgw.cell' S.bs.c (fun x => x)
            have c3g : Wg.cell? ⟨n1 + 2, 0, none⟩ = some (.int .u64 (r : Nat)) := fgw.cell' (cell_of_obj S.br.o 0) (fun x => x)
            have HO := hide (And.intro og (And.intro o4 (And.intro o5 (And.intro o6 (And.intro fDw (fg.trans' fgD (fun _ x => x.elim)))))))
            have HWg := hide hWg; have HWD := hide (And.intro hW14 (And.intro hW15 hwD))
            clear og o4 o5 o6 fDw fgw fg fgD f14 f15 hWg hW14 hW15 hwD S rw1 ra1 fr
            refine wpOf_seq (wpOf_of_wp ?_)
            go_wp2
            rw [unhide HWg]
            show wpOf _ _ _ _ _ _
            refine wpOf_seq (wpOf_seq (wpOf_of_wp ?_))
            go_wp2_with fail
            refine (y_Walk (ptr sb) r lo _ rfl).mono ?_
            rintro e w' ⟨rfl, rfl⟩
            go_wp2_with fail
            rw [(unhide HWD).1, (unhide HWD).2.1, (unhide HWD).2.2]
            simp only [Nat.add_assoc, Nat.reduceAdd]
            clear c2g c3g z14 z15 HWD
            refine wpOf_named2 fun a9 ha9 => ?_
            refine wpOf_block (range_okG (gf := 63) (lb := #[ptr (ng + 3), ptr (ng + 1), ptr (ng + 2)]) (N := (geP lo L).length) (enc := wkE (geP lo L)) (by rw [ha9]; rfl) (fun _ _ => by kernel_rfl) ⟨_, Tryz.func6⟩ (fun k => rfl) (Wkr hb sb b T (ng + 3) (ng + 1) (ng + 2)) (WkR 1467 12176 hb sb b T A [] lo r (ng + 3) (ng + 1) (ng + 2)) (fun k => k = ng)
              (fun k G W => TgJ ng (geP lo L) k G W)
              (fun k G V a' W => TgJ ng (geP lo L) k G W ∧ Fr (pair (ng + 4)) V W ∧ ∃ (p : Pr) (qb : Nat), (geP lo L)[k]? = some p ∧ V.heap.size ≤ qb ∧ ng + 6 ≤ qb ∧ ¬ G qb ∧ W.heap[qb]? = some (.cells #[.string p.1, .int .u64 (p.2 : Nat)] 43 (0, 0)) ∧ a' = { tmps := (a9.tmps.setIfInBounds 132 (.agg #[.string p.1, .int .u64 (p.2 : Nat)])).setIfInBounds 24 (ptr qb), defers := [] })
              (fun _ _ => False) (fun _ _ => False) ?hJ ?hJb ?hJO ?hJA ?hJr ?hseq ?h0 ?hG0 ?hS ?hassign ?hbody ?hdone ?hret (fun _ _ h _ => h.elim))
            case hJ => intro k G W W' h f; rw [zD] at f; exact h.kept f h.nopair
            case hJb => intro k G W h b hb; exact (h.out b hb).1
            case hJO => intro k G O W W' h f ho; exact h.kept f (fun b hb hG => ho b hb (.inl hG))
            case hJA =>
              rintro k G V a W W' ⟨h, fv, p, q, e1, e2, e3, e4, e5, rfl⟩ f
              rw [zD] at f
              exact ⟨h.kept f h.nopair, fv.trans' f (fun k hk => .inl hk), p, q, e1, e2, e3, e4, f.obj e5 (fun x => by unfold pair at x; omega), rfl⟩
            case hJr => rintro c W W' h _; exact h.elim
            case hret => rintro c W h _ _; exact h.elim
            case hseq =>
              have S := unhide HS
              have sy := S.hc.says []
              rw [homed_nil] at sy
              exact w_iter (by rw [sy]; exact S.t.rt) S.t.ri S.t.pk lo (ng + 3) (ng + 1) (ng + 2) (wD.heap.size + 1)
            case h0 =>
              intro ob1 ob2
              obtain ⟨og, o4, o5, o6, fDw, _⟩ := unhide HO
              have fo : Still wD ((wD.alloc ob1).alloc ob2) := ((Fr.refl _ wD).alloc ob1).alloc ob2
              have so : ((wD.alloc ob1).alloc ob2).heap.size = ng + 6 := by rw [World.size_alloc, World.size_alloc, zD]
              exact ⟨⟨⟨_, fo.obj og (fun x => x), World.ownsRow_nil _ _ _ _, fun b hb => by cases hb⟩, rfl, fun b hb => ⟨by omega, .inl hb⟩, by omega⟩, (unhide HS).hc.toHp.still (fDw.trans' fo (fun _ x => x.elim)), fo.cell' (cell_of_obj o6 0) (fun x => x), fo.cell' (cell_of_obj o4 0) (fun x => x), fo.cell' (cell_of_obj o5 0) (fun x => x)⟩
            case hG0 =>
              intro k hk
              have S := unhide HS
              have hh := S.hc.toHp.lth
              have h0 := S.hc.toHp.lt0
              have hk : k = ng := hk
              refine ⟨by omega, ?_⟩
              rintro (e | e | e | e | e | e)
              · have := S.hc.hd.st.lt _ e; omega
              all_goals omega
            case hS =>
              have S := unhide HS
              have hh := S.hc.toHp.lth
              have h0 := S.hc.toHp.lt0
              rintro k (e | e | e | e | e | e)
              · have := S.hc.hd.st.lt _ e; omega
              all_goals omega
            case hassign =>
              rintro l' k G W K h hk hK
              obtain ⟨p, hp⟩ : ∃ p, (geP lo L)[k]? = some p := ⟨_, List.getElem?_eq_getElem hk⟩
              have ce : wkE (geP lo L) k = #[.agg #[.string p.1, .int .u64 (p.2 : Nat)]] := by unfold wkE; simp only [List.getD, hp, Option.getD_some]
              rw [ce]
              have HJ := hide (And.intro h hp); have HHK := @hide _ hK
              clear h hp hK ce
              subst ha9
              simp only [List.zip_toArray, List.zip_cons_cons, List.zip_nil_right, List.foldl_toArray', List.size_toArray, List.length_cons, List.length_nil, List.foldl_cons, List.foldl_nil, List.setIfInBounds_toArray, List.set_cons_zero, List.set_cons_succ]
              have hwd : Fence.wide.depth = none := rfl
              have hwf : ∀ f, Fence.wide.fn f := fun _ => trivial
              gi_wp2
              obtain ⟨h, hp⟩ := unhide HJ
              have hsz := h.sz
              refine unhide HHK _ _ ⟨h.kept (O := fun _ => False) ((Fr.refl _ W).alloc _) (fun _ h => h.elim), (Fr.refl _ W).alloc _, p, W.heap.size, hp, Nat.le_refl _, hsz, fun hG => by have := (h.out _ hG).1; omega, heap_alloc_new W _, ?_⟩ (Below.heap_alloc W _ _ (by omega)) (Below.heap_alloc W _ _ (by omega))
              simp only [List.setIfInBounds_toArray, List.set_cons_zero, List.set_cons_succ]
            case hbody =>
              rintro l' k G V a' W ⟨h, fv, p, q, hp, hq1, hq2, hq3, oq, rfl⟩ hk
              obtain ⟨v, ov, row, hv⟩ := h.ex
              have hgl := ge_len lo L
              have y0 : W.cell? ⟨q, 0, none⟩ = some (.string p.1) := cell_of_obj oq 0
              have y1 : W.cell? ⟨q, 1, none⟩ = some (.int .u64 (p.2 : Nat)) := cell_of_obj oq 1
              have c11 : W.cell? ⟨ng, 0, none⟩ = some v := cell_of_obj ov 0
              have hqW : q < W.heap.size := (Array.getElem?_eq_some_iff.1 oq).1
              have hsz := h.sz
              have hvs : V.heap.size ≤ W.heap.size := fv.size
              obtain ⟨W1, hW1⟩ : ∃ W1, W.alloc (.cells #[.string p.1, .int .u64 (p.2 : Nat)] 43) = W1 := ⟨_, rfl⟩
              have f1 : Still W W1 := hW1 ▸ (Fr.refl _ W).alloc _
              obtain ⟨v', w2, hap, hw2, hgr, hloc⟩ := run_more elt_Q 33 (own_still row f1) (sl_pair W W1 p hW1) (by omega) (by have := f1.size; omega)
              have ht : pcl ((geP lo L).take (k + 1)) = pcl ((geP lo L).take k) ++ pcl [p] := by
                rw [List.take_add_one, hp, pcl_app]; rfl
              have hs1 := f1.size
              have fA : Fr (fun k => v.ownBlock = some k) W w2 := (f1.mono (fun _ x => x.elim)).grown hgr (fun k hk => .inl hk)
              have nA : ∀ k, k < ng + 6 → ¬ v.ownBlock = some k := fun k hk e => by have := (row.lt _ e).1; omega
              have ov2 : w2.heap[ng]? = some (.cells #[v] 33 (0, 0)) := fA.obj ov (nA _ (by omega))
              have z2 : w2.frozen? ⟨ng, 0, none⟩ = false := by simp [World.frozen?, ov2]
              have d2 : w2.cell? ⟨ng, 0, none⟩ = some v := cell_of_obj ov2 0
              obtain ⟨w3, hw3⟩ : ∃ w3, w2.setCell ⟨ng, 0, none⟩ v' = w3 := ⟨_, rfl⟩
              have f3 : Fr (fun k => k = ng) w2 w3 := hw3 ▸ (Fr.refl (fun k => k = ng) w2).setCell (.inl rfl) _
              have ov3 : w3.heap[ng]? = some (.cells #[v'] 33 (0, 0)) := hw3 ▸ heap_setCell_same w2 ng 0 _ _ v' ov2
              have row3 : w3.ownsRow (ng + 6) 43 2 v' (k + 1) (pcl ((geP lo L).take (k + 1))) := by
                rw [ht]
                exact owns_same hw2 (fun j hj => f3.block j (hw2.lt j hj).2 (by have := (hw2.lt j hj).1; omega))
              have fG3 : Fr (fun b => G b ∨ pair (ng + 4) b) V w3 := (fv.mono (fun b hb => .inl (.inr hb))).trans' ((fA.mono (G := fun b => G b) (fun b hb => .inl (hv b hb))).trans' f3 (fun b hb => .inl (hb ▸ h.inc))) (fun b hb => .inl (.inl hb))
              have hs3 : W.heap.size ≤ w3.heap.size := Nat.le_trans fA.size f3.size
              have D0 : w3.heap[wD.heap.size]? = W.heap[wD.heap.size]? := by
                rw [zD]
                exact (f3.block _ (Nat.lt_of_lt_of_le (by omega) fA.size) (by omega)).trans (fA.block _ (by omega) (nA _ (by omega)))
              have D1 : w3.heap[wD.heap.size + 1]? = W.heap[wD.heap.size + 1]? := by
                rw [zD]
                exact (f3.block _ (Nat.lt_of_lt_of_le (by omega) fA.size) (by omega)).trans (fA.block _ (by omega) (nA _ (by omega)))
              have hv3 : ∀ b, v'.ownBlock = some b → (G b ∨ V.heap.size ≤ b) ∧ b < w3.heap.size := fun b hb => by
                refine ⟨?_, (row3.lt b hb).2⟩
                rcases hloc with e | e
                · exact .inl (hv b (e ▸ hb))
                · rw [e] at hb
                  cases hb
                  exact .inr (by omega)
              have HZ := hide (And.intro h (And.intro ov3 (And.intro row3 (And.intro fG3 (And.intro hs3 (And.intro D0 (And.intro D1 hv3)))))))
              have HAP := hide hap; have HW1 := hide hW1; have HW3 := hide hw3
              obtain ⟨vg, vc, rfl⟩ : ∃ vg vc, v' = .slice (some ⟨vg, 0, none⟩) (k + 1) vc := by
                rcases row3.2 with ⟨_, h0⟩ | ⟨vg, vc, _, e, _⟩
                · omega
                · exact ⟨vg, vc, e⟩
              clear h hap hw2 hgr hloc fA nA ov2 f3 ov3 row3 fG3 hs3 D0 D1 hv3 ht f1 hs1 hW1 hw3 hv ov row oq fv hsz hvs hqW hgl hp hq1 hq2 hq3
              subst ha9
              simp only [List.setIfInBounds_toArray, List.set_cons_zero, List.set_cons_succ]
              have hwd : Fence.wide.depth = none := rfl
              have hwf : ∀ f, Fence.wide.fn f := fun _ => trivial
              gi_wp2_with (first | (gi_at_builtin; rw [unhide HW1]; refine wpListIn_append_run rfl (.tmp 133) (.tmp 135) 33 rfl _ _ rfl rfl _ w2 (unhide HAP) ?_) | fail)
              rw [unhide HW3]
              obtain ⟨h, ov3, row3, fG3, hs3, D0, D1, hv3⟩ := unhide HZ
              have hsz := h.sz
              refine ⟨⟨D0, D1⟩, fun b => G b ∨ (Value.slice (some ⟨vg, 0, none⟩) (k + 1) vc).ownBlock = some b, ⟨⟨_, ov3, row3, fun b hb => .inr hb⟩, .inl h.inc, fun b hb => ?_, by omega⟩, by rw [zD]; exact fG3, fun b hb => .inl hb, fun b hb => ?_⟩
              · rcases hb with hb | hb
                · exact ⟨Nat.lt_of_lt_of_le (h.out b hb).1 hs3, (h.out b hb).2⟩
                · exact ⟨(row3.lt b hb).2, .inr (row3.lt b hb).1⟩
              · rcases hb with hb | hb
                · exact .inl hb
                · exact (hv3 b hb).1
            case hdone =>
              intro G W h fr hDD
              obtain ⟨rw1, ra1, fr1⟩ := unhide HR
              obtain ⟨og, o4, o5, o6, fDw, frD⟩ := unhide HO
              have S := unhide HS
              have sy := S.hc.says []
              rw [homed_nil] at sy
              obtain ⟨v, ov, row, hv⟩ := h.ex
              rw [List.take_length] at row
              obtain ⟨va, vc, rfl⟩ : ∃ va vc, v = .slice va (geP lo L).length vc := by
                rcases rowp_form row with ⟨e, h0⟩ | ⟨gg, cap, e⟩
                · exact ⟨none, 0, by rw [e, h0]⟩
                · exact ⟨_, cap, e⟩
              have fW : Still wq W := fDw.trans' fr (fun k hk => .inr (by have hk : k = ng := hk; omega))
              have frW : Still wr W := frD.trans' fr (fun k hk => .inr (by have hk : k = ng := hk; omega))
              have hpW := S.hc.toHp.still fW
              have rtW : Rt 1467 12176 (says [] A) r L Q := by rw [sy]; exact S.t.rt
              have GT := y_Get hpW rtW S.t.ri key
              have hL5 : L.length ≤ 100000 := by omega
              have RG : ∀ w2, Still W w2 → Calls Tryz.prog 14 #[ptr sb, .int .u64 (r : Nat), .string lo, .string hi, .int .i64 n] w2 _ := fun w2 f2 => y_RangeA (hpW.still f2) rtW S.t.ri S.t.pk lo hi n hL5
              have hrl : (rgP L lo hi n).length ≤ 100000 := by rw [← wtP_is S.t.ri]; have := wtP_len L lo hi n; omega
              have hgl := ge_len lo L
              have SM1 : ∀ w3 xa xc, Still W w3 → Lf w3 xa xc (rgP L lo hi n) → Calls Tryz.prog 32 #[.slice xa (rgP L lo hi n).length xc, .slice wa (rgP L lo hi n).length wcp] w3 _ := fun w3 xa xc f3 hx => l11_same xa wa xc wcp (rgP L lo hi n) w3 hx ((sl_of_row rw1 pcl_one).still (frW.trans' f3 (fun _ x => x.elim))) hrl
              have SM2 : ∀ w3, Still W w3 → Calls Tryz.prog 32 #[.slice va (geP lo L).length vc, .slice aa (geP lo L).length acp] w3 _ := fun w3 f3 => l11_same va aa vc acp (geP lo L) w3 ((sl_of_row row pcl_one).still f3) ((sl_of_row ra1 pcl_one).still (frW.trans' f3 (fun _ x => x.elim))) (by omega)
              have fwW : Still w W := S.hc.hd.fr.trans' fW (fun _ x => x.elim)
              have AW : ∀ w4, Still W w4 → Calls Tryz.prog 22 #[] w4 _ := fun w4 f4 => l11_awake w4 (fun j hj => (fwW.trans' f4 (fun _ x => x.elim)).cell' (unhide HT j hj) (fun x => x))
              have x1 := fW.cell' S.bs.c (fun x => x)
              have x2 : W.cell? ⟨n1 + 2, 0, none⟩ = some (.int .u64 (r : Nat)) := fW.cell' (cell_of_obj S.br.o 0) (fun x => x)
              have x3 : W.cell? ⟨ng, 0, none⟩ = some (.slice va (geP lo L).length vc) := cell_of_obj ov 0
              have HGT := hide GT; have HRG := @hide _ RG; have HSM1 := @hide _ SM1; have HSM2 := @hide _ SM2; have HAW := @hide _ AW
              have HF := hide (And.intro fwW (And.intro hDD h.sz))
              clear GT RG SM1 SM2 AW rw1 ra1 fr1 og o4 o5 o6 fDw frD S sy ov row hv fW frW hpW rtW fwW hDD h fr hrl hgl
              subst ha9
              show wpOf _ _ _ _ _ _
              refine wpOf_seq (wpOf_of_wp ?_)
              go_wp2_with fail
              refine (unhide HGT).mono ?_
              clear HGT
              rintro e wG ⟨rfl, fG⟩
              have y1 := fG.cell' x1 (fun x => x)
              have y2 := fG.cell' x2 (fun x => x)
              have HFG := hide fG
              clear x1 x2 fG
              go_wp2
              show wpOf _ _ _ _ _ _
              refine wpOf_of_wp ?_
              go_wp2_with fail
              refine (unhide HRG wG (unhide HFG)).mono ?_
              rintro e w3 ⟨xa, xc, rfl, hx, f3⟩
              have f03 : Still W w3 := (unhide HFG).trans' f3 (fun _ x => x.elim)
              have K1 := hide (unhide HSM1 w3 xa xc f03 hx)
              have HF3 := hide f03
              clear hx f3 f03 y1 y2 HRG HSM1
              go_wp2_with fail
              refine (unhide K1).mono ?_
              clear K1
              rintro e w4 ⟨rfl, f4⟩
              have f04 : Still W w4 := (unhide HF3).trans' f4 (fun _ x => x.elim)
              have y3 := f04.cell' x3 (fun x => x)
              have K2 := hide (unhide HSM2 w4 f04)
              have HF4 := hide f04
              clear f4 f04 HSM2 x3
              go_wp2_with fail
              refine (unhide K2).mono ?_
              clear K2
              rintro e w5 ⟨rfl, f5⟩
              have f05 : Still W w5 := (unhide HF4).trans' f5 (fun _ x => x.elim)
              have K3 := hide (unhide HAW w5 f05)
              have HF5 := hide f05
              clear f5 f05 HAW y3
              go_wp2_with fail
              refine (unhide K3).mono ?_
              clear K3
              rintro e w9 ⟨rfl, f9⟩
              have HF9 := hide f9
              clear f9
              go_wp2
              obtain ⟨fwW, hDD, hsz⟩ := unhide HF
              have f59 : Still W w9 := (unhide HF5).trans' (unhide HF9) (fun _ x => x.elim)
              have hD9 : w9.heap[ng + 4]? = some (.deferred (some [])) := by
                rw [zD] at hDD
                exact (f59.block _ (by omega) (fun x => x)).trans hDD
              have hwz := (unhide HS).hc.hd.fr.size
              have f := (fwW.trans' f59 (fun _ x => x.elim)).trans' ((Fr.refl (fun j => j = ng + 4) w9).putObj (.inl rfl) (.deferred none)) (fun k hk => .inr (by have hk : k = ng + 4 := hk; omega))
              refine ⟨by simp, .inl ⟨_, _, rfl, run_takeDeferred hD9, ⟨.bool true, results_tmp Tryz.results6 _ _ _, rfl, ?_⟩⟩⟩
              exact ⟨f.os, f.tape, f.output, f.size, fun k hk => f.block k (by omega) (fun x => x)⟩
end
end Go.Proofs.YtkaplgmjdfmpmaaGreatDoor
