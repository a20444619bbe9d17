/- A copy of a device: the same content in blocks of its own. -/
import Derived.Test.YtmhlbhbakfcdeaaClone
import Derived.Test.YtmhlbhbakfcdeaaPower
namespace Go.Proofs.Ytmhlbhbakfcdeaa
open Go.RowKit

theorem clone_nil (w : World) : Calls Try.prog 41 #[.slice none 0 0] w fun e w' => e = .returned (.slice none 0 0) ∧ w' = w := by
  have hE : ∀ w : World, (binOp .eql 49 (.slice none 0 0) (.slice none 0 0)).run Try.prog w = .ok (.bool true) w := fun _ => rfl
  go_enter Try.func41, Try.ntmps41
  go_wp2
  go_ret
  exact ⟨rfl, rfl⟩

theorem add_none (b j : Nat) : (⟨b, 0, none⟩ : Addr).add j = ⟨b, j, none⟩ := by unfold Addr.add; split <;> simp_all

theorem one_u64 (x : Int) : (u64 x).oneCell' = true := rfl

theorem sent_one (s : List (Nat × (Nat → Int))) : ∀ u ∈ sentCells s, u.oneCell' = true := by
  intro u hu
  simp only [sentCells, List.mem_flatMap, lineCells] at hu
  obtain ⟨x, _, hx⟩ := hu
  simp only [List.mem_cons, List.not_mem_nil, or_false] at hx
  rcases hx with rfl | rfl | rfl | rfl | rfl | rfl | rfl | rfl | rfl <;> rfl

theorem owns_from {w : World} {base base' : Nat} {e : TypeId} {size : Nat} {v : Value} {n : Nat} {xs : List Value} (h : w.ownsRow base e size v n xs) (hb : base' ≤ base) : w.ownsRow base' e size v n xs := by
  refine ⟨h.1, ?_⟩
  rcases h.2 with hn | ⟨g, cap, cur, e1, hg, rest⟩
  · exact .inl hn
  · exact .inr ⟨g, cap, cur, e1, Nat.le_trans hb hg, rest⟩

theorem clone_sv {w : World} {sv : Value} {sent : List (Nat × (Nat → Int))} (h : w.ownsRow 0 59 9 sv sent.length (sentCells sent)) (hn : sent.length ≤ 4294967296) :
    Calls Try.prog 41 #[sv] w fun e w' => ∃ v, e = .returned v ∧ w'.ownsRow w.heap.size 59 9 v sent.length (sentCells sent) ∧ Fr (fun _ => False) w w' := by
  rcases h.2 with ⟨rfl, h0⟩ | ⟨g, cap, cur, rfl, _⟩
  · refine (clone_nil w).mono ?_
    rintro e w' ⟨rfl, rfl⟩
    have : sent = [] := List.eq_nil_of_length_eq_zero h0
    subst this
    exact ⟨_, rfl, World.ownsRow_nil _ _ _ _, Fr.refl _ _⟩
  · refine (clone_sent g sent.length cap (sentCells sent) w hn h.1 (h.cells rfl) (sent_one sent)).mono ?_
    rintro e w' ⟨g', c', rfl, ho, hf⟩
    exact ⟨_, rfl, ho, hf⟩

theorem clone_words {w : World} {bn n k : Nat} {now : Nat → Int} (hn : n ≤ 8192) (hc : ∀ j, j < n * 8 → w.cell? ⟨bn, j, none⟩ = some (u64 (now j))) :
    Calls Try.prog 40 #[.slice (some ⟨bn, 0, none⟩) n k] w fun e w' => ∃ g c, e = .returned (.slice (some ⟨g, 0, none⟩) n c) ∧ w'.ownsRow w.heap.size 57 8 (.slice (some ⟨g, 0, none⟩) n c) n ((List.range (n * 8)).map fun j => u64 (now j)) ∧ Fr (fun _ => False) w w' :=
  clone_lines bn n k _ w (by omega) (by simp) (fun j u hj => by
    rw [add_none]
    by_cases e : j < n * 8
    · rw [hc j e]; simpa [e] using hj
    · simp [e] at hj) (fun u hu => by obtain ⟨j, _, rfl⟩ := List.mem_map.1 hu; rfl)

theorem clone_place {w : World} {bp n k : Nat} {pl : Nat → Nat} (hn : n ≤ 8192) (hc : ∀ a, a < n → w.cell? ⟨bp, a, none⟩ = some (.int .i64 (pl a))) :
    Calls Try.prog 42 #[.slice (some ⟨bp, 0, none⟩) n k] w fun e w' => ∃ g c, e = .returned (.slice (some ⟨g, 0, none⟩) n c) ∧ w'.ownsRow w.heap.size 3 1 (.slice (some ⟨g, 0, none⟩) n c) n ((List.range n).map fun a => .int .i64 (pl a)) ∧ Fr (fun _ => False) w w' :=
  clone_ints bp n k _ w (by omega) (by simp) (fun j u hj => by
    rw [add_none]
    by_cases e : j < n
    · rw [hc j e]; simpa [e] using hj
    · simp [e] at hj) (fun u hu => by obtain ⟨j, _, rfl⟩ := List.mem_map.1 hu; rfl)

theorem owns_frozen {w : World} {base : Nat} {e : TypeId} {size g c n : Nat} {xs : List Value} (h : w.ownsRow base e size (.slice (some ⟨g, 0, none⟩) n c) n xs) (o : Nat) : w.frozen? ⟨g, o, none⟩ = false := by
  rcases h.2 with ⟨e1, _⟩ | ⟨g', cap, cur, e1, _, hg, _⟩
  · cases e1
  · cases e1; exact frozen_of_row w g o cur e hg

theorem copy_dev {w0 w : World} {b : Nat} {L : Lay} {A : Ab} (h : DevL w0 b L A) {c g1 g2 g4 k1 k2 k4 : Nat} {sv : Value}
    (hc : w.heap[c]? = some (.cells #[.slice (some ⟨g1, 0, none⟩) A.n k1, .slice (some ⟨g2, 0, none⟩) A.n k2, sv, .slice (some ⟨g4, 0, none⟩) A.n k4, .int .i64 A.steps, .int .i64 A.fuse, .bool A.dead] 51 (0, 0)))
    {s1 s2 s3 s4 : Nat} (o1 : w.ownsRow s1 57 8 (.slice (some ⟨g1, 0, none⟩) A.n k1) A.n ((List.range (A.n * 8)).map fun j => u64 (A.now j)))
    (o2 : w.ownsRow s2 57 8 (.slice (some ⟨g2, 0, none⟩) A.n k2) A.n ((List.range (A.n * 8)).map fun j => u64 (A.lasts j)))
    (o3 : w.ownsRow s3 59 9 sv L.sent.length (sentCells L.sent))
    (o4 : w.ownsRow s4 3 1 (.slice (some ⟨g4, 0, none⟩) A.n k4) A.n ((List.range A.n).map fun a => .int .i64 (L.place a)))
    (l1 : c < s1) (l2 : g1 < s2) (l3 : g2 < s3) (l4 : ∀ k, sv.ownBlock = some k → k < s4) (l5 : g2 < s4) :
    DevL w c { bn := g1, bl := g2, bp := g4, kn := k1, kl := k2, kp := k4, sv := sv, place := L.place, sent := L.sent } A := by
  have cb : ∀ o, w.cell? ⟨c, o, none⟩ = _ := fun o => cell_of_row w c o _ _ _ hc
  have t1 := o1.lt g1 rfl; have t2 := o2.lt g2 rfl; have t4 := o4.lt g4 rfl
  refine { n8 := h.n8, c0 := cb 0, c1 := cb 1, c2 := cb 2, c3 := cb 3, c4 := cb 4, c5 := cb 5, c6 := cb 6, zb := fun o => frozen_of_row w c o _ _ hc, zn := owns_frozen o1, zl := owns_frozen o2, zp := owns_frozen o4, now := fun j hj => ?_, lasts := fun j hj => ?_, plc := fun a ha => ?_, own := owns_from o3 (Nat.zero_le _), bbn := ?_, bbl := ?_, bbp := ?_, bnl := ?_, bnp := ?_, blp := ?_, sb := ?_, sn := ?_, sl := ?_, sp := ?_, ltb := (Array.getElem?_eq_some_iff.1 hc).1, ltn := t1.2, ltl := t2.2, ltp := t4.2, sentOk := h.sentOk, wayOk := h.wayOk, few := h.few }
  · have := o1.cells (g := g1) rfl j (u64 (A.now j)) (by simp [hj]); rwa [add_none] at this
  · have := o2.cells (g := g2) rfl j (u64 (A.lasts j)) (by simp [hj]); rwa [add_none] at this
  · have := o4.cells (g := g4) rfl a (.int .i64 (L.place a)) (by simp [ha]); rwa [add_none] at this
  · show c ≠ g1; omega
  · show c ≠ g2; omega
  · show c ≠ g4; omega
  · show g1 ≠ g2; omega
  · show g1 ≠ g4; omega
  · show g2 ≠ g4; omega
  · intro e; have := o3.lt _ e; omega
  · intro e; have := o3.lt _ e; simp at this; omega
  · intro e; have := o3.lt _ e; simp at this; omega
  · intro e; have := l4 _ e; simp at this; omega

/-- While a copy is made: the device as it was, the copy's own block. -/
structure Making (w : World) (b : Nat) (L : Lay) (A : Ab) (V : World) (cs : Array Value) : Prop where
  dev : DevL V b L A
  blk : V.heap[w.heap.size]? = some (.cells cs 51 (0, 0))
  fr : Fr (fun _ => False) w V
  lt : b < w.heap.size

section
variable {w V V' : World} {b : Nat} {L : Lay} {A : Ab} {cs : Array Value}
theorem Making.more (h : Making w b L A V cs) (hf : Fr (fun _ => False) V V') : Making w b L A V' cs :=
  ⟨h.dev.keptF hf, (hf.block _ (Array.getElem?_eq_some_iff.1 h.blk).1 (fun x => x)).trans h.blk, h.fr.trans hf, h.lt⟩
theorem Making.set (h : Making w b L A V cs) (hF : ∀ k, foot b L k → k < w.heap.size) (i : Nat) (v : Value) : Making w b L A (V.setCell ⟨w.heap.size, i, none⟩ v) (cs.setIfInBounds i v) := by
  have hf : Fr (fun j => j = w.heap.size) V (V.setCell ⟨w.heap.size, i, none⟩ v) := (Fr.refl (fun j => j = w.heap.size) V).setCell (.inl rfl) v
  exact ⟨h.dev.kept hf (fun k hk e => by have := hF k hk; omega), heap_setCell_same V w.heap.size i cs 51 v h.blk, h.fr.trans' hf (fun k hk => .inr (by omega)), h.lt⟩
theorem Making.cell (h : Making w b L A V cs) (i : Nat) : V.cell? ⟨w.heap.size, i, none⟩ = cs[i]? := cell_of_row V w.heap.size i cs 51 (0, 0) h.blk
theorem Making.frozen (h : Making w b L A V cs) (i : Nat) : V.frozen? ⟨w.heap.size, i, none⟩ = false := frozen_of_row V w.heap.size i cs 51 h.blk
theorem owns_set {V : World} {base e size g n k c i : Nat} {v : Value} {xs : List Value} (h : V.ownsRow base e size (.slice (some ⟨g, 0, none⟩) n k) n xs) (hc : c < base) : (V.setCell ⟨c, i, none⟩ v).ownsRow base e size (.slice (some ⟨g, 0, none⟩) n k) n xs :=
  owns_same h (fun j hj => Below.heap_setCell _ _ _ _ (fun ej => by have := h.lt j hj; simp at ej; omega))
theorem owns_more {V V' : World} {base e size n : Nat} {v : Value} {xs : List Value} (h : V.ownsRow base e size v n xs) (hf : Fr (fun _ => False) V V') : V'.ownsRow base e size v n xs :=
  owns_same h (fun j hj => hf.block j (h.lt j hj).2 (fun x => x))
theorem owns_setv {V : World} {base e size n c i : Nat} {u v : Value} {xs : List Value} (h : V.ownsRow base e size u n xs) (hc : c < base) : (V.setCell ⟨c, i, none⟩ v).ownsRow base e size u n xs :=
  owns_same h (fun j hj => Below.heap_setCell _ _ _ _ (fun ej => by have := h.lt j hj; simp at ej; omega))
end

set_option maxHeartbeats 1000000 in
theorem copy_ok {w : World} {b : Nat} {L : Lay} {A : Ab} (h : DevL w b L A) (hst : A.steps < 4294967296) :
    Calls Try.prog 25 #[ptr b] w fun e w' => ∃ b' L', e = .returned (ptr b') ∧ DevL w' b' L' A ∧ (∀ k, foot b' L' k → w.heap.size ≤ k) ∧ Fr (fun _ => False) w w' := by
  have hb := h.ltb
  have c0 := h.c0; have c1 := h.c1; have c2 := h.c2; have c3 := h.c3; have c4 := h.c4; have c5 := h.c5; have c6 := h.c6
  obtain ⟨sa, sl, sc, hsv⟩ : ∃ sa sl sc, L.sv = .slice sa sl sc := by
    rcases h.own.2 with ⟨e, _⟩ | ⟨g, cap, cur, e, _⟩
    · exact ⟨_, _, _, e⟩
    · exact ⟨_, _, _, e⟩
  rw [hsv] at c2
  have hF := h.lt
  have M0 : Making w b L A (w.alloc (.cells #[.slice (some ⟨L.bn, 0, none⟩) A.n L.kn, .slice (some ⟨L.bl, 0, none⟩) A.n L.kl, .slice sa sl sc, .slice (some ⟨L.bp, 0, none⟩) A.n L.kp, .int .i64 A.steps, .int .i64 A.fuse, .bool A.dead] 51)) _ :=
    ⟨h.keptF ((Fr.refl _ w).alloc _), heap_alloc_new w _, (Fr.refl _ w).alloc _, hb⟩
  have H := hide h; have HSV := hide hsv; have HF := hide hF; have HM0 := hide M0
  clear h hsv hF M0
  go_enter Try.func25, Try.ntmps25
  go_wp2_with fail
  refine (clone_words (unhide H).n8 (unhide HM0).dev.now).mono ?_
  rintro e w1 ⟨g1, k1, rfl, o1, f1⟩
  have M1 := (unhide HM0).more f1
  have x1 := M1.cell 0; have z1 := M1.frozen 0
  have M1' := M1.set (unhide HF) 0 (.slice (some ⟨g1, 0, none⟩) A.n k1)
  have d1 := M1'.dev.c1
  have hg1 := o1.lt g1 rfl
  simp only [World.size_alloc] at o1 hg1
  have O1 : Hid ((w1.setCell ⟨w.heap.size, 0, none⟩ (.slice (some ⟨g1, 0, none⟩) A.n k1)).ownsRow _ 57 8 _ A.n _) := owns_set o1 (by omega)
  have HM1 := hide M1'
  clear HM0 M1 M1' o1 f1 c0 c1 c2 c3 c4 c5 c6
  have hs1 : w1.heap.size = (w1.setCell ⟨w.heap.size, 0, none⟩ (.slice (some ⟨g1, 0, none⟩) A.n k1)).heap.size := by simp
  rw [hs1] at hg1
  clear hs1
  go_wp2_with fail
  generalize w1.setCell ⟨w.heap.size, 0, none⟩ (.slice (some ⟨g1, 0, none⟩) A.n k1) = V1 at O1 HM1 hg1 d1 ⊢
  clear x1 z1 d1
  refine (clone_words (unhide H).n8 (unhide HM1).dev.lasts).mono ?_
  rintro e w2 ⟨g2, k2, rfl, o2, f2⟩
  have M2 := (unhide HM1).more f2
  have x2 := M2.cell 1; have z2 := M2.frozen 1
  have M2' := M2.set (unhide HF) 1 (.slice (some ⟨g2, 0, none⟩) A.n k2)
  have d2 := M2'.dev.c2
  rw [unhide HSV] at d2
  have hg2 := o2.lt g2 rfl
  have O2 : Hid ((w2.setCell ⟨w.heap.size, 1, none⟩ (.slice (some ⟨g2, 0, none⟩) A.n k2)).ownsRow _ 57 8 _ A.n _) := owns_set o2 (by omega)
  have O1' : Hid ((w2.setCell ⟨w.heap.size, 1, none⟩ (.slice (some ⟨g2, 0, none⟩) A.n k2)).ownsRow _ 57 8 _ A.n _) := owns_set (owns_more (unhide O1) f2) (by omega)
  have HM2 := hide M2'
  clear HM1 M2 M2' o2 f2 O1
  have hs2 : w2.heap.size = (w2.setCell ⟨w.heap.size, 1, none⟩ (.slice (some ⟨g2, 0, none⟩) A.n k2)).heap.size := by simp
  rw [hs2] at hg2
  clear hs2
  go_wp2_with fail
  generalize w2.setCell ⟨w.heap.size, 1, none⟩ (.slice (some ⟨g2, 0, none⟩) A.n k2) = V2 at O1' O2 HM2 hg2 d2 ⊢
  clear x2 z2 d2
  have K3 := clone_sv (unhide HM2).dev.own (by have := (unhide H).few; omega)
  rw [unhide HSV] at K3
  refine K3.mono ?_
  clear K3
  rintro e w3 ⟨sv, rfl, o3, f3⟩
  obtain ⟨ta, tl, tc, rfl⟩ : ∃ ta tl tc, sv = .slice ta tl tc := by
    rcases o3.2 with ⟨e, _⟩ | ⟨g, cap, cur, e, _⟩
    · exact ⟨_, _, _, e⟩
    · exact ⟨_, _, _, e⟩
  have M3 := (unhide HM2).more f3
  have x3 := M3.cell 2; have z3 := M3.frozen 2
  have M3' := M3.set (unhide HF) 2 (.slice ta tl tc)
  have d3 := M3'.dev.c3
  have hg3 := fun k hk => o3.lt k hk
  have hf3 := f3.size
  have O3 : Hid ((w3.setCell ⟨w.heap.size, 2, none⟩ (.slice ta tl tc)).ownsRow _ 59 9 _ _ _) := owns_setv o3 (by omega)
  have O1 : Hid ((w3.setCell ⟨w.heap.size, 2, none⟩ (.slice ta tl tc)).ownsRow _ 57 8 _ A.n _) := owns_set (owns_more (unhide O1') f3) (by omega)
  have O2' : Hid ((w3.setCell ⟨w.heap.size, 2, none⟩ (.slice ta tl tc)).ownsRow _ 57 8 _ A.n _) := owns_set (owns_more (unhide O2) f3) (by omega)
  have HM3 := hide M3'
  clear HM2 M3 M3' o3 f3 O1' O2
  have hs3 : w3.heap.size = (w3.setCell ⟨w.heap.size, 2, none⟩ (.slice ta tl tc)).heap.size := by simp
  rw [hs3] at hg3 hf3
  clear hs3
  have HG3 := hide hg3
  clear hg3
  go_wp2_with fail
  generalize w3.setCell ⟨w.heap.size, 2, none⟩ (.slice ta tl tc) = V3 at O1 O2' O3 HM3 HG3 hf3 d3 ⊢
  clear x3 z3 d3
  refine (clone_place (unhide H).n8 (unhide HM3).dev.plc).mono ?_
  rintro e w4 ⟨g4, k4, rfl, o4, f4⟩
  have M4 := (unhide HM3).more f4
  have x4 := M4.cell 3; have z4 := M4.frozen 3
  have M4' := M4.set (unhide HF) 3 (.slice (some ⟨g4, 0, none⟩) A.n k4)
  have O4 : Hid ((w4.setCell ⟨w.heap.size, 3, none⟩ (.slice (some ⟨g4, 0, none⟩) A.n k4)).ownsRow _ 3 1 _ A.n _) := owns_set o4 (by omega)
  have P1 : Hid ((w4.setCell ⟨w.heap.size, 3, none⟩ (.slice (some ⟨g4, 0, none⟩) A.n k4)).ownsRow _ 57 8 _ A.n _) := owns_set (owns_more (unhide O1) f4) (by omega)
  have P2 : Hid ((w4.setCell ⟨w.heap.size, 3, none⟩ (.slice (some ⟨g4, 0, none⟩) A.n k4)).ownsRow _ 57 8 _ A.n _) := owns_set (owns_more (unhide O2') f4) (by omega)
  have P3 : Hid ((w4.setCell ⟨w.heap.size, 3, none⟩ (.slice (some ⟨g4, 0, none⟩) A.n k4)).ownsRow _ 59 9 _ _ _) := owns_setv (owns_more (unhide O3) f4) (by omega)
  have HM4 := hide M4'
  clear HM3 M4 M4' o4 f4 O1 O2' O3
  go_wp2
  go_ret
  have M := unhide HM4
  have D := copy_dev (unhide H) M.blk (unhide P1) (unhide P2) (unhide P3) (unhide O4) (by omega) (by omega) (by omega) (fun k hk => (unhide HG3 k hk).2) (by omega)
  refine ⟨w.heap.size, _, rfl, D, ?_, M.fr⟩
  have q3 := unhide HG3
  have q4 := (unhide O4).lt g4 rfl
  rintro k (hk | hk | hk | hk | hk)
  · omega
  · simp at hk; omega
  · simp at hk; omega
  · simp at hk; omega
  · have := q3 k hk; omega
end Go.Proofs.Ytmhlbhbakfcdeaa
