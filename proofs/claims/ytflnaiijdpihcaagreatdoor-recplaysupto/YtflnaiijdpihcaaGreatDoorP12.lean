/- Joined: Rd Rj Rk Rl Re. -/
import Derived.Test.YtflnaiijdpihcaaGreatDoorP11
namespace Go.Proofs.YtflnaiijdpihcaaGreatDoor
open Go.RowKit

section
theorem kept0 (w : World) : Still w w.drew := (Fr.refl (fun _ => False) w).drewN 1
theorem kept2 (w : World) (a b : Obj) : Still w ((w.alloc a).alloc b).drew.drew := ((((Fr.refl (fun _ => False) w).alloc a).alloc b).drewN 1).drewN 1
section
variable {nu sz : Nat} {w w' w0 : World} {hb sb b : Nat} {T : Tay} {A : Ab} {P : List (Int × Int)}

set_option maxRecDepth 20000 in
set_option maxHeartbeats 4000000 in
theorem r_partAt (h : Hp nu sz w hb sb b T A P) {p : Nat} {fr : Bool} {n q : Nat} (pa : PtAt sz (says P A) p fr n q) :
    Calls Tryz.prog 115 #[ptr sb, .int .i64 p, .int .u64 (kdN fr)] w fun e w' => e = .returned (ptV p fr n (8 * q : Nat)) ∧ Still w w' := by
  obtain ⟨g1, g2, g3, g4, g5, g6⟩ := h.hp.geo.b
  have ss := sz_b fr n
  have hi := pa.hi
  have LD : ∀ w1, Still w w1 → Calls Tryz.prog 62 #[ptr sb, .int .i64 p] w1 fun e w' => e = .returned (u64 ((wrN fr n q : Nat) : Int)) ∧ w' = w1 := fun w1 f1 => by
    have := (h.still f1).load p (by omega)
    rw [pa.w] at this; exact this
  have SZ : ∀ w1, Still w w1 → Calls Tryz.prog 94 #[ptr sb] w1 fun e w' => e = .returned (.int .i64 sz) ∧ w' = w1 := fun w1 f1 => t_size (n := sz) (h.still f1).st.c2
  have c2 := h.st.c2
  have BH := p_behindX p fr n (8 * q : Nat) (by have := pa.n4; omega)
  obtain ⟨e1, e2, e3, e4⟩ := wr_parts fr n q pa.n4 pa.q6
  have n4 := pa.n4; have q6 := pa.q6; have lo := pa.lo; have m8 := pa.m8
  have l1 : ((p : Int) < 8) = False := by simp; omega
  have l2 : ((sz : Int) ≤ p) = False := by simp; omega
  have l3 : ((p : Int) % 8 != 0) = false := by simp; omega
  have l4 : ((sz : Int) - p < 32) = False := by simp; omega
  have l6 : ((4096 : Int) < n) = False := by simp; omega
  have w9 : IntKind.i64.wrap ((sz : Int) - p) = (sz : Int) - p := (wrap_small _ (by omega) (by omega)).1
  have hnx := pa.nx
  have hb4 := bh_le fr n
  have l5 : (((8 * q : Nat) : Int) == 0) = ((bhN fr n : Int) == 0) := by
    by_cases e : q = 0
    · rw [hnx.1 e, e]
    · have : bhN fr n ≠ 0 := fun x => e (hnx.2 x)
      rw [beq_eq_false_iff_ne.2 (by omega), beq_eq_false_iff_ne.2 (by omega)]
  obtain ⟨W, hW⟩ : ∃ W, w.alloc (.cells #[.int .i64 0, .int .u64 0, .int .i64 0, .int .i64 0] 101) = W := ⟨_, rfl⟩
  have fW : Still w W := hW ▸ (Fr.refl _ w).alloc _
  obtain ⟨W2, hW2⟩ : ∃ W2, W.alloc (.cells #[.int .i64 p, .int .u64 (kdN fr), .int .i64 n, .int .i64 (8 * q : Nat)] 101) = W2 := ⟨_, rfl⟩
  obtain ⟨g, hg⟩ : ∃ g, w.heap.size = g := ⟨_, rfl⟩
  have z1 : W.heap.size = g + 1 := by rw [← hW]; simp [hg]
  have f2 : Still W W2 := hW2 ▸ (Fr.refl _ W).alloc _
  have f02 : Still w W2 := fW.trans' f2 (fun _ x => x.elim)
  have oR : W2.heap[g]? = some (.cells #[.int .i64 0, .int .u64 0, .int .i64 0, .int .i64 0] 101 (0, 0)) := by
    have := heap_alloc_new w (.cells #[.int .i64 0, .int .u64 0, .int .i64 0, .int .i64 0] 101)
    rw [hW, hg] at this; exact f2.obj this (fun x => x)
  have oP : W2.heap[g + 1]? = some (.cells #[.int .i64 p, .int .u64 (kdN fr), .int .i64 n, .int .i64 (8 * q : Nat)] 101 (0, 0)) := by
    have := heap_alloc_new W (.cells #[.int .i64 p, .int .u64 (kdN fr), .int .i64 n, .int .i64 (8 * q : Nat)] 101)
    rw [hW2, z1] at this; exact this
  have d0 : W2.cell? ⟨g + 1, 0, none⟩ = some (.int .i64 p) := cell_of_obj oP 0
  have d1 : W2.cell? ⟨g + 1, 1, none⟩ = some (.int .u64 (kdN fr)) := cell_of_obj oP 1
  have d2 : W2.cell? ⟨g + 1, 2, none⟩ = some (.int .i64 n) := cell_of_obj oP 2
  have d3 : W2.cell? ⟨g + 1, 3, none⟩ = some (.int .i64 (8 * q : Nat)) := cell_of_obj oP 3
  have cS : W2.cell? ⟨sb, 2, none⟩ = some (.int .i64 sz) := f02.cell' c2 (fun x => x)
  have SZ2 : ∀ w1 : World, w1.cell? ⟨sb, 2, none⟩ = some (.int .i64 sz) → Calls Tryz.prog 94 #[ptr sb] w1 fun e w' => e = .returned (.int .i64 sz) ∧ w' = w1 := fun w1 c => t_size (n := sz) c
  have HLD := hide (LD W fW); have HSZ := hide (SZ W fW); have HSZ2 := @hide _ SZ2; have HW := hide (And.intro hW hW2)
  have HX := hide (And.intro f02 (And.intro oR oP)); have HZ1 := hide z1
  unfold ptV ptO at *
  clear LD SZ SZ2 hW hW2 fW f2 f02 oR oP z1 hnx pa h c2 g1 g2 g3 g4 g6
  have e5 : ((q : Int) * 8) = ((8 * q : Nat) : Int) := by omega
  generalize ((8 * q : Nat) : Int) = nx at *
  generalize bhN fr n = rb' at *
  generalize kdN fr = kd at *
  generalize wrN fr n q = wv at *
  have l7 : ((kd : Int) != kd) = false := by simp
  have l8 : (((rb' : Int) == 0) != ((rb' : Int) == 0)) = false := by simp
  go_enter Tryz.func115, Tryz.ntmps115
  go_wp2_with (first | (rw [(unhide HW).1]; go_at_call 94; refine (unhide HSZ).mono ?_; rintro e w' ⟨rfl, hh⟩; replace hh := hh.symm; subst hh) | fail)
  refine (unhide HLD).mono ?_
  clear HLD HSZ
  rintro e w' ⟨rfl, hh⟩
  replace hh := hh.symm
  subst hh
  go_wp2_with fail
  rw [(unhide HW).2, unhide HZ1]
  clear e1 e2 e3 HW HZ1
  go_region_held (fun w' => w'.cell? ⟨sb, 2, none⟩ = some (.int .i64 sz) ∧ w'.cell? ⟨g + 1, 0, none⟩ = some (.int .i64 p) ∧ w'.cell? ⟨g + 1, 1, none⟩ = some (.int .u64 kd) ∧ w'.cell? ⟨g + 1, 2, none⟩ = some (.int .i64 n) ∧ w'.cell? ⟨g + 1, 3, none⟩ = some (.int .i64 nx)) (first | (with_reducible exact ⟨(kept0 W2).cell' cS (fun x => x), (kept0 W2).cell' d0 (fun x => x), (kept0 W2).cell' d1 (fun x => x), (kept0 W2).cell' d2 (fun x => x), (kept0 W2).cell' d3 (fun x => x)⟩) | (with_reducible exact ⟨(kept2 W2 (.cells #[.int .i64 p, .int .u64 kd, .int .i64 n, .int .i64 nx] 101) (.cells #[.int .i64 p, .int .u64 kd, .int .i64 n, .int .i64 nx] 101)).cell' cS (fun x => x), (kept2 W2 (.cells #[.int .i64 p, .int .u64 kd, .int .i64 n, .int .i64 nx] 101) (.cells #[.int .i64 p, .int .u64 kd, .int .i64 n, .int .i64 nx] 101)).cell' d0 (fun x => x), (kept2 W2 (.cells #[.int .i64 p, .int .u64 kd, .int .i64 n, .int .i64 nx] 101) (.cells #[.int .i64 p, .int .u64 kd, .int .i64 n, .int .i64 nx] 101)).cell' d1 (fun x => x), (kept2 W2 (.cells #[.int .i64 p, .int .u64 kd, .int .i64 n, .int .i64 nx] 101) (.cells #[.int .i64 p, .int .u64 kd, .int .i64 n, .int .i64 nx] 101)).cell' d2 (fun x => x), (kept2 W2 (.cells #[.int .i64 p, .int .u64 kd, .int .i64 n, .int .i64 nx] 101) (.cells #[.int .i64 p, .int .u64 kd, .int .i64 n, .int .i64 nx] 101)).cell' d3 (fun x => x)⟩) | go_keep) (first | (go_at_call 109; refine (BH _).mono ?_; rintro e w' ⟨rfl, rfl⟩) | (go_at_call 94; refine (unhide HSZ2 _ (by simp [*])).mono ?_; rintro e w' ⟨rfl, rfl⟩))
  have f4 := kept2 W2 (.cells #[.int .i64 p, .int .u64 kd, .int .i64 n, .int .i64 nx] 101) (.cells #[.int .i64 p, .int .u64 kd, .int .i64 n, .int .i64 nx] 101)
  obtain ⟨W4, hW4⟩ : ∃ W4, ((W2.alloc (.cells #[.int .i64 p, .int .u64 kd, .int .i64 n, .int .i64 nx] 101)).alloc (.cells #[.int .i64 p, .int .u64 kd, .int .i64 n, .int .i64 nx] 101)).drew.drew = W4 := ⟨_, rfl⟩
  rw [hW4] at f4 ⊢
  clear hW4
  obtain ⟨f02, oR, oP⟩ := unhide HX
  have oR4 := f4.obj oR (fun x => x)
  have c0 : W4.cell? ⟨g + 1, 0, none⟩ = some (.int .i64 p) := f4.cell' d0 (fun x => x)
  have c1 : W4.cell? ⟨g + 1, 1, none⟩ = some (.int .u64 kd) := f4.cell' d1 (fun x => x)
  have c2 : W4.cell? ⟨g + 1, 2, none⟩ = some (.int .i64 n) := f4.cell' d2 (fun x => x)
  have c3 : W4.cell? ⟨g + 1, 3, none⟩ = some (.int .i64 nx) := f4.cell' d3 (fun x => x)
  have r0 : W4.cell? ⟨g, 0, none⟩ = some (.int .i64 0) := cell_of_obj oR4 0
  have r1 : W4.cell? ⟨g, 1, none⟩ = some (.int .u64 0) := cell_of_obj oR4 1
  have r2 : W4.cell? ⟨g, 2, none⟩ = some (.int .i64 0) := cell_of_obj oR4 2
  have r3 : W4.cell? ⟨g, 3, none⟩ = some (.int .i64 0) := cell_of_obj oR4 3
  have rz : ∀ o, W4.frozen? ⟨g, o, none⟩ = false := fun o => by simp [World.frozen?, oR4]
  have HF := hide (And.intro (f02.trans' f4 (fun _ x => x.elim)) (And.intro hg oR4))
  clear f02 f4 oR oP oR4 HX d0 d1 d2 d3 BH HSZ2 cS hg
  go_wp2
  obtain ⟨f04, hg, oR4⟩ := unhide HF
  have oF := heap_setCell_same _ g 3 _ _ (.int .i64 nx) (heap_setCell_same _ g 2 _ _ (.int .i64 n) (heap_setCell_same _ g 1 _ _ (.int .u64 kd) (heap_setCell_same W4 g 0 _ _ (.int .i64 p) oR4)))
  refine bodyPost_ret (results_cell_row Tryz.results115 _ _ g 101 #[.int .i64 p, .int .u64 kd, .int .i64 n, .int .i64 nx] (0, 0) _ (by rfl) oF Tryz.underlying101 rfl (by kernel_rfl)) rfl ?_
  refine ⟨rfl, ?_⟩
  have f5 : Fr (fun k => k = g) W4 ((((W4.setCell ⟨g, 0, none⟩ (.int .i64 p)).setCell ⟨g, 1, none⟩ (.int .u64 kd)).setCell ⟨g, 2, none⟩ (.int .i64 n)).setCell ⟨g, 3, none⟩ (.int .i64 nx)) := ((((Fr.refl (fun k => k = g) W4).setCell (.inl rfl) _).setCell (.inl rfl) _).setCell (.inl rfl) _).setCell (.inl rfl) _
  exact f04.trans' f5 (fun k hk => .inr (by omega))

end
end

section
def TaknR (nu : Nat) (f : Nat → Int) : List Nat → List Nat → (Nat → Int) → Prop
  | [], [], g => g = f
  | u :: us, x :: xs, g' => ∃ g, TaknR nu f us xs g ∧ Took nu g x u g'
  | _, _, _ => False
def Takn (nu : Nat) (f : Nat → Int) (us xs : List Nat) (g : Nat → Int) : Prop := TaknR nu f us.reverse xs.reverse g
theorem Takn.nil {nu : Nat} {f : Nat → Int} : Takn nu f [] [] f := rfl
theorem Takn.snoc {nu : Nat} {f : Nat → Int} {us xs : List Nat} {g g' : Nat → Int} {u x : Nat} (h : Takn nu f us xs g) (t : Took nu g x u g') : Takn nu f (us ++ [u]) (xs ++ [x]) g' := by
  unfold Takn
  rw [List.reverse_append, List.reverse_append]
  exact ⟨g, h, t⟩
theorem TaknR.ind {nu : Nat} {f : Nat → Int} {motive : List Nat → List Nat → (Nat → Int) → Prop} (nil : motive [] [] f)
    (snoc : ∀ (us xs : List Nat) (g g' : Nat → Int) (u x : Nat), Takn nu f us xs g → Took nu g x u g' → motive us xs g → motive (us ++ [u]) (xs ++ [x]) g') :
    ∀ (us xs : List Nat) (g : Nat → Int), TaknR nu f us xs g → motive us.reverse xs.reverse g
  | [], [], g, h => by obtain rfl : g = f := h; exact nil
  | u :: us, x :: xs, g', h => by
    obtain ⟨g, h1, h2⟩ := h
    have ih := TaknR.ind nil snoc us xs g h1
    rw [List.reverse_cons, List.reverse_cons]
    exact snoc _ _ g g' u x (by unfold Takn; rw [List.reverse_reverse, List.reverse_reverse]; exact h1) h2 ih
  | [], _ :: _, _, h => h.elim
  | _ :: _, [], _, h => h.elim
theorem Takn.ind {nu : Nat} {f : Nat → Int} {motive : (us xs : List Nat) → (g : Nat → Int) → Takn nu f us xs g → Prop} {us xs : List Nat} {g : Nat → Int} (t : Takn nu f us xs g) (nil : motive [] [] f Takn.nil)
    (snoc : ∀ (us xs : List Nat) (g g' : Nat → Int) (u x : Nat) (t : Takn nu f us xs g) (k : Took nu g x u g'), motive us xs g t → motive (us ++ [u]) (xs ++ [x]) g' (Takn.snoc t k)) : motive us xs g t := by
  have h := TaknR.ind (nu := nu) (f := f) (motive := fun us xs g => ∃ t, motive us xs g t) ⟨_, nil⟩ (fun us xs g g' u x t k ⟨_, ih⟩ => ⟨_, snoc us xs g g' u x t k ih⟩) _ _ _ t
  rw [List.reverse_reverse, List.reverse_reverse] at h
  obtain ⟨_, h⟩ := h
  exact h

def plc (nu : Nat) (l : List Prt) (us : List Nat) : List Prt := l.mapIdx fun k p => match us[k]? with
  | some u => { p with at_ := fi nu + u * 8 }
  | none => p
theorem plc_len (nu : Nat) (l : List Prt) (us : List Nat) : (plc nu l us).length = l.length := by simp [plc]
theorem plc_nil (nu : Nat) (l : List Prt) : plc nu l [] = l := by
  apply List.ext_getElem?
  intro k
  simp [plc, List.getElem?_mapIdx]
theorem plc_at {nu : Nat} {l : List Prt} {us : List Nat} {k : Nat} {p : Prt} (h : l[k]? = some p) (hk : us.length ≤ k) : (plc nu l us)[k]? = some p := by
  simp [plc, List.getElem?_mapIdx, h, List.getElem?_eq_none hk]
theorem plc_set {nu : Nat} {l : List Prt} {us : List Nat} {p : Prt} (u : Nat) (h : l[us.length]? = some p) : (plc nu l us).set us.length { p with at_ := fi nu + u * 8 } = plc nu l (us ++ [u]) := by
  have hl := (List.getElem?_eq_some_iff.1 h).1
  apply List.ext_getElem?
  intro k
  by_cases hk : k = us.length
  · subst hk
    rw [List.getElem?_set_self (by rw [plc_len]; exact hl)]
    simp [plc, List.getElem?_mapIdx, h]
  · rw [List.getElem?_set_ne (fun x => hk x.symm)]
    simp only [plc, List.getElem?_mapIdx]
    cases hq : l[k]? with
    | none => rfl
    | some q =>
      simp only [Option.map_some]
      by_cases h2 : k < us.length
      · rw [List.getElem?_append_left h2]
      · rw [List.getElem?_eq_none (by omega), List.getElem?_eq_none (by simp; omega)]

theorem lv3 {x : Nat} (h : x ≤ 64) : lv x ≤ 3 := by
  unfold lv
  split
  · omega
  split
  · omega
  split
  · omega
  omega
theorem lv3b {x : Nat} (h : x ≤ 64) : 8 * 2 ^ lv x ≤ 64 := by
  have : 2 ^ lv x ≤ 2 ^ 3 := Nat.pow_le_pow_right (by omega) (lv3 h)
  omega

theorem take_l {P : Program} {Q : Exit → Act → World → Prop} {md : Region.Mode} {S : World → Prop} {os : List Oper} (i : Nat) {oi : Oper} {v : Value} {fuel : Nat} {listed : Array Bool} {a : Act} {w : World} (hi : os[i]? = some oi)
    (hs : Region.noSelect os.toArray = true) (hf : Region.free md os.toArray listed i = true) (hr : (Region.ready md os.toArray listed).contains i = true)
    (hQ : ∀ c a w, Q (.panic c) (a.put oi.dst v) w → Q (.panic c) a w) (hy : YieldsIf P os.toArray S oi v a) (hS : S w)
    (h : wpAnyH P md os.toArray Q S fuel (listed.setIfInBounds i true) (a.put oi.dst v) w) : wpAnyH P md os.toArray Q S (fuel + 1) listed a w :=
  wpAnyH_take (i := i) (oi := oi) (by simpa using hi) hs hf hr hQ hy hS h

def bxN (w : World) (r : Nat) : Nat := match w.cell? ⟨r, 0, none⟩ with
  | some v => (intOf v).toNat
  | none => 0
theorem Box.bxN {w : World} {r k : Nat} (h : Box w r (.int .i64 k)) : bxN w r = k := by simp [Go.Proofs.YtflnaiijdpihcaaGreatDoor.bxN, h.c, intOf]

section
variable {nu sz : Nat} {w w' w0 : World} {hb sb b : Nat} {T : Tay} {A : Ab} {P : List (Int × Int)}

set_option maxRecDepth 20000 in
set_option maxHeartbeats 4000000 in
theorem r_takeC (h : Hp nu sz w hb sb b T A P) (s : HpS nu (says P A)) {l : List Prt} {g cap b2 b3 b5 lo L : Nat} (hL : l.length = L) (pr : PR w lo (.slice (some ⟨g, 0, none⟩) L cap) l) (hl : L ≤ 17) (hn : ∀ p ∈ l, p.n ≤ 4096) (hm : P.length + 74 * L ≤ 6144)
    (B2 : Box w b2 (ptr hb)) (B3 : Box w b3 (.slice (some ⟨g, 0, none⟩) L cap)) (B5 : Box w b5 (.int .i64 0)) (t2 : ¬ tfoot sb b T b2) (t3 : ¬ tfoot sb b T b3) (t5 : ¬ tfoot sb b T b5) (tg : ¬ tfoot sb b T g)
    (d2 : b2 ≠ g ∧ b2 ≠ b5) (d3 : b3 ≠ g ∧ b3 ≠ b5) (d5 : b5 ≠ g) (dh : hb ≠ g ∧ hb ≠ b5) (d0 : 0 ≠ g ∧ 0 ≠ b5) :
    Calls Tryz.prog 106 #[ptr b5, ptr b3, ptr b2] w fun e w' => ∃ T' P' us, ((e = .returned (.tuple #[]) ∧ us.length = L) ∨ (e = .panicked (errnoQ 60) ∧ us.length < L ∧ ∀ j, 3 ≤ j → j < 7 → ∀ c, fre nu (says P' A) j c = false)) ∧ OnxX (fun k => k = g ∨ k = b5) w sb b T w' T' sz A P' false ∧ P'.length ≤ P.length + 74 * us.length ∧ HpS nu (says P' A) ∧ Takn nu (says P A) us ((l.map fun _ => 32).take us.length) (says P' A) ∧ PR w' lo (.slice (some ⟨g, 0, none⟩) L cap) (plc nu l us) ∧ Box w' b5 (.int .i64 us.length) := by
  have lt2 := B2.lt; have lt3 := B3.lt; have lt5 := B5.lt
  have ltg : g < w.heap.size := by
    have := World.ownsRow.lt pr g rfl
    exact this.2
  have HH := hide h
  have HB := hide (And.intro h (And.intro s (And.intro pr (And.intro B2 (And.intro B3 B5)))))
  have HHH := hide h.lth; have HH0 := hide h.lt0
  have HN := @hide _ hn; have HLL := hide hL
  clear h s pr B2 B3 B5 hn hL
  go_enter Tryz.func106, Tryz.ntmps106
  go_wp2_with fail
  go_loopw [3] (fun _ wr => ∃ (T' : Tay) (P' : List (Int × Int)) (us : List Nat), us.length ≤ L ∧ OnxX (fun k => k = g ∨ k = b5) w sb b T wr T' sz A P' false ∧ Hp nu sz wr hb sb b T' A P' ∧ P'.length ≤ P.length + 74 * us.length ∧ HpS nu (says P' A) ∧ Takn nu (says P A) us ((l.map fun _ => 32).take us.length) (says P' A) ∧ PR wr lo (.slice (some ⟨g, 0, none⟩) L cap) (plc nu l us) ∧ Box wr b2 (ptr hb) ∧ Box wr b3 (.slice (some ⟨g, 0, none⟩) L cap) ∧ Box wr b5 (.int .i64 us.length)) (fun _ wr => L - bxN wr b5)
  case atStart =>
    obtain ⟨h, s, pr, B2, B3, B5⟩ := unhide HB
    exact ⟨T, P, [], by simp, OnxX.of (Onx.start h.st), h, by simp, s, by simpa using Takn.nil, by rw [plc_nil]; exact pr, B2, B3, B5⟩
  case round =>
    clear HB
    obtain ⟨T', P', us, hu, o, hq, el, sq, tk, pr, B2, B3, B5⟩ := hrel
    generalize wr = wq at *
    clear wr
    have c2 := B2.c; have c3 := B3.c; have c5 := B5.c; have z5 := B5.z
    have hbx := B5.bxN
    by_cases hlt : us.length < L
    · obtain ⟨m, hmm⟩ : ∃ m, us.length = m := ⟨_, rfl⟩
      have hlt' : ((m : Int) < L) = True := by simp; omega
      have hmL : m < L := by omega
      obtain ⟨p, hp⟩ : ∃ p, l[m]? = some p := ⟨_, List.getElem?_eq_getElem (by rw [unhide HLL]; omega)⟩
      have hpn := unhide HN p (List.mem_of_getElem? hp)
      obtain ⟨e0, e1, e2, e3⟩ := pr.cells (plc_at (nu := nu) hp (by omega))
      have lb := lv3b (x := 32) (by omega)
      have HTK : ∀ w1, Still wq w1 → Calls Tryz.prog 107 #[ptr hb, .int .i64 32] w1 fun e w' => (∃ (u : Nat) (f : Nat → Int), e = .returned (.int .i64 (fi nu + u * 8)) ∧ (To sz w1 sb b T' A w' f (P.length + 74 * (us.length + 1)) ∧ Took nu (says P' A) 32 u f) ∧ w'.frozen? ⟨g, m * 4, none⟩ = false ∧ w'.cell? ⟨g, m * 4, none⟩ = some (.int .i64 p.at_) ∧ w'.frozen? ⟨b5, 0, none⟩ = false ∧ w'.cell? ⟨b5, 0, none⟩ = some (.int .i64 us.length) ∧ w'.cell? ⟨b3, 0, none⟩ = some (.slice (some ⟨g, 0, none⟩) L cap) ∧ w'.cell? ⟨b2, 0, none⟩ = some (ptr hb)) ∨ (e = .panicked (errnoQ 60) ∧ Still w1 w' ∧ ∀ j, 3 ≤ j → j < 7 → ∀ c, fre nu (says P' A) j c = false) := fun w1 f1 =>
        (h_takeP (hq.still f1) sq 32 (by omega) (by omega) (by omega)).mono fun e w' x => by
          rcases x with ⟨u, f, e1', e2', e3'⟩ | ⟨x1, x2, x3⟩
          · obtain ⟨T2, P2, o2, -, -⟩ := id e2'
            have n5 := o.other lt5 t5; have ng := o.other ltg tg; have n3 := o.other lt3 t3; have n2 := o.other lt2 t2
            have gz : ∀ i, w'.frozen? ⟨g, i, none⟩ = false := fun i => by
              have pr1 := (pr.still f1).kept o2.fr (fun k hk => by cases hk; exact ng)
              rcases pr1.form with ⟨e, _⟩ | ⟨g', cap', e, _, _, _, hz⟩
              · cases e
              · cases e; exact hz i
            have b5' := (B5.kept f1 (fun x => x)).kept o2.fr n5
            exact .inl ⟨u, f, e1', ⟨e2'.le (by omega), e3'⟩, gz _, o2.fr.cell' (f1.cell' e0 (fun x => x)) ng, b5'.z, b5'.c, o2.fr.cell' (f1.cell' B3.c (fun x => x)) n3, o2.fr.cell' (f1.cell' B2.c (fun x => x)) n2⟩
          · exact .inr ⟨x1, x2, fun j j1 j2 c => x3 j (by have := lv3 (x := 32) (by omega); omega) j2 c⟩
      rw [hmm] at HTK
      have HHTK := @hide _ HTK
      have HX := hide (And.intro o (And.intro hq (And.intro sq (And.intro tk (And.intro pr (And.intro B2 (And.intro B3 (And.intro B5 hp))))))))
      have HBX := hide hbx; have HMM := hide hmm; have HEL := hide el
      rw [hmm] at c5
      clear o hq el sq tk pr B2 B3 B5 HTK hbx hp hlt hmm lb hu
      obtain ⟨pa, hpa⟩ : ∃ x, p.at_ = x := ⟨_, rfl⟩
      simp only [hpa] at HHTK e0
      have HPP := hide hpa
      clear hpa hpn
      have im : IntKind.i64.wrap ((m : Int) + 1) = (m : Int) + 1 := (wrap_small _ (by omega) (by omega)).1
      go_upto_region 1 with fail
      obtain ⟨W, hW⟩ : ∃ W, wq.drew = W := ⟨_, rfl⟩
      have fW : Still wq W := hW ▸ (Fr.refl _ wq).drewN 1
      replace c2 := fW.cell' c2 (fun x => x); replace c3 := fW.cell' c3 (fun x => x); replace c5 := fW.cell' c5 (fun x => x)
      replace e0 := fW.cell' e0 (fun x => x); replace e1 := fW.cell' e1 (fun x => x); replace e2 := fW.cell' e2 (fun x => x); replace e3 := fW.cell' e3 (fun x => x)
      have z5' : W.frozen? ⟨b5, 0, none⟩ = false := hW ▸ z5
      clear z5
      refine wp_region_held_drew (S := fun w' => w'.cell? ⟨b5, 0, none⟩ = some (.int .i64 m) ∧ w'.cell? ⟨b3, 0, none⟩ = some (.slice (some ⟨g, 0, none⟩) L cap) ∧ w'.cell? ⟨b2, 0, none⟩ = some (ptr hb)) (by kernel_rfl) ?_ (fun hHeld => ?_)
      · rw [hW]; exact ⟨c5, c3, c2⟩
      rw [hW] at hHeld ⊢
      clear hW
      refine take_l 0 (v := ?_) rfl (by kernel_rfl) (by kernel_rfl) (by kernel_rfl) (fun _ _ _ h => h) (Or.inl ⟨by rfl, ?_⟩) hHeld ?_
      rotate_left
      · (intro w hSw; (try dsimp only at hSw); go_simp; (try with_reducible rfl))
      simp only [Act.put, List.setIfInBounds_toArray, List.set_cons_zero, List.set_cons_succ]
      refine take_l 1 (v := ?_) rfl (by kernel_rfl) (by kernel_rfl) (by kernel_rfl) (fun _ _ _ h => h) (Or.inl ⟨by rfl, ?_⟩) hHeld ?_
      rotate_left
      · (intro w hSw; (try dsimp only at hSw); go_simp; (try with_reducible rfl))
      simp only [Act.put, List.setIfInBounds_toArray, List.set_cons_zero, List.set_cons_succ]
      refine take_l 2 (v := ?_) rfl (by kernel_rfl) (by kernel_rfl) (by kernel_rfl) (fun _ _ _ h => h) (Or.inl ⟨by rfl, ?_⟩) hHeld ?_
      rotate_left
      · (intro w hSw; (try dsimp only at hSw); go_simp; (try with_reducible rfl))
      simp only [Act.put, List.setIfInBounds_toArray, List.set_cons_zero, List.set_cons_succ]
      have HT2 := hide (unhide HHTK W fW); have HF02 := hide fW
      clear fW c2 c3 c5 e0 e1 e2 e3 z5' HHTK hHeld
      refine wpAnyH_ready (rs := [3]) (by kernel_rfl) (by simp) ?_
      refine AllReadyH.cons rfl (fun K hK => ?_) AllReadyH.nil
      go_simp
      go_wp2_with fail
      refine (unhide HT2).mono ?_
      rintro e w6 (⟨u, f, rfl, hto, z6, c6, z56, hS6⟩ | ⟨rfl, f6, hno⟩)
      · have HTO := hide hto
        clear hto HT2
        obtain ⟨q, hq⟩ : ∃ q : Int, (fi nu : Int) + u * 8 = q := ⟨_, rfl⟩
        simp only [hq]
        have HQ := hide hq
        clear hq
        refine hK.out _ _ hS6 (fun _ => ?_)
        clear hK K
        refine take_l 4 (v := ?_) rfl (by kernel_rfl) (by kernel_rfl) (by kernel_rfl) (fun _ _ _ h => h) (Or.inl ⟨by rfl, ?_⟩) hS6 ?_
        rotate_left
        · (intro w hSw; (try dsimp only at hSw); go_simp; (try with_reducible rfl))
        simp only [Act.put, List.setIfInBounds_toArray, List.set_cons_zero, List.set_cons_succ]
        refine take_l 5 (v := ?_) rfl (by kernel_rfl) (by kernel_rfl) (by kernel_rfl) (fun _ _ _ h => h) (Or.inl ⟨by rfl, ?_⟩) hS6 ?_
        rotate_left
        · (intro w hSw; (try dsimp only at hSw); go_simp; (try with_reducible rfl))
        simp only [Act.put, List.setIfInBounds_toArray, List.set_cons_zero, List.set_cons_succ]
        refine wpAnyH_ready (rs := [6]) (by kernel_rfl) (by simp) ?_
        refine AllReadyH.cons rfl (fun K hK => ?_) AllReadyH.nil
        go_simp
        obtain ⟨W7, hW7⟩ : ∃ W7, w6.setCell ⟨g, m * 4, none⟩ (.int .i64 q) = W7 := ⟨_, rfl⟩
        have f7 : Fr (fun k => k = g) w6 W7 := hW7 ▸ (Fr.refl (fun k => k = g) w6).setCell (.inl rfl) _
        have c57 := f7.cell' hS6.1 d5; have c37 := f7.cell' hS6.2.1 d3.1; have c27 := f7.cell' hS6.2.2 d2.1
        have z57 : W7.frozen? ⟨b5, 0, none⟩ = false := by rw [← hW7, World.frozen?_setCell]; exact z56
        have HW7 := hide hW7
        rw [hW7]
        refine hK.out _ _ ⟨c57, c37, c27⟩ (fun _ => ?_)
        clear hK K f7 hW7 c6 z6 z56 hS6 c37 c27
        refine wpAnyH_done (by kernel_rfl) ?_ _
        go_wp2
        obtain ⟨o, hq, sq, tk, pr, B2, B3, B5, hp⟩ := unhide HX
        obtain ⟨⟨T6, P6, o6, eg6, el6⟩, tk6⟩ := unhide HTO
        have f02 := unhide HF02
        have hmm := unhide HMM
        have o6' := o6.after f02
        have n5 := o.other lt5 t5; have ng := o.other ltg tg; have n3 := o.other lt3 t3; have n2 := o.other lt2 t2
        have lq := o.fr.size
        have on5 := o6'.other (Nat.lt_of_lt_of_le lt5 lq) n5; have ong := o6'.other (Nat.lt_of_lt_of_le ltg lq) ng
        obtain ⟨W8, hW8⟩ : ∃ W8, W7.setCell ⟨b5, 0, none⟩ (.int .i64 ((m : Int) + 1)) = W8 := ⟨_, rfl⟩
        rw [hW8]
        have f7 : Fr (fun k => k = g) w6 W7 := unhide HW7 ▸ (Fr.refl (fun k => k = g) w6).setCell (.inl rfl) _
        have f8 : Fr (fun k => k = b5) W7 W8 := hW8 ▸ (Fr.refl (fun k => k = b5) W7).setCell (.inl rfl) _
        have f68 : Fr (fun k => k = g ∨ k = b5) w6 W8 := (f7.mono (G := fun k => k = g ∨ k = b5) (fun k hk => .inl (.inl hk))).trans (f8.mono (fun k hk => .inl (.inr hk)))
        have pr6 := (pr.still f02).kept o6.fr (fun k hk => by cases hk; exact ng)
        have B56 := (B5.kept f02 (fun x => x)).kept o6.fr n5
        have B57 := B56.kept f7 d5
        have B58 := B57.set (.int .i64 ((m : Int) + 1))
        rw [hW8] at B58
        have hbx8 : bxN W8 b5 = m + 1 := by
          have : Box W8 b5 (.int .i64 ((m + 1 : Nat) : Int)) := by simpa using B58
          exact this.bxN
        refine ⟨⟨T6, P6, us ++ [u], by simp; omega, (o.trans o6').var f68 (fun k hk => hk) (fun k hk => hk.elim (fun e => e ▸ ong) (fun e => e ▸ on5)), (hq.call o6').turn f68 (fun k hk => hk.elim (fun e => e ▸ ong) (fun e => e ▸ on5)) (fun hk => hk.elim dh.1 dh.2) (fun hk => hk.elim d0.1 d0.2), by simp; omega, by rw [eg6]; exact tk6.st, ?_, ?_, ((B2.kept f02 (fun x => x)).kept o6.fr n2).kept f68 (fun hk => hk.elim d2.1 d2.2), ((B3.kept f02 (fun x => x)).kept o6.fr n3).kept f68 (fun hk => hk.elim d3.1 d3.2), by simpa [hmm] using B58⟩, by rw [hbx8, unhide HBX]; omega⟩
        · have e : ((l.map fun _ => 32).take (us ++ [u]).length) = (l.map fun _ => 32).take us.length ++ [32] := by
            rw [List.length_append, List.length_singleton, List.take_add_one, List.getElem?_map, hmm, hp, Option.map_some]; rfl
          rw [e, eg6]
          exact .snoc tk tk6
        · have hp' : l[us.length]? = some p := by rw [hmm]; exact hp
          have s7 := pr6.setAt (k := m) (p := p) (plc_at (nu := nu) hp (by omega)) (fi nu + u * 8)
          rw [unhide HQ, unhide HW7, ← unhide HQ] at s7
          rw [← hmm, plc_set u hp'] at s7
          exact s7.kept f8 (fun k hk => by cases hk; exact fun e => d5 e.symm)
      · obtain ⟨o, hq, sq, tk, pr, B2, B3, B5, hp⟩ := unhide HX
        have f06 := (unhide HF02).trans' f6 (fun _ x => x.elim)
        exact ⟨rfl, T', P', us, .inr ⟨rfl, by have := unhide HMM; omega, hno⟩, o.quiet f06, unhide HEL, sq, tk, pr.still f06, B5.kept f06 (fun x => x)⟩
    · have hq' : us.length = L := by omega
      have hlt' : ((us.length : Int) < L) = False := by simp; omega
      have HX := hide (And.intro o (And.intro el (And.intro sq (And.intro tk (And.intro pr B5)))))
      clear o el sq tk pr
      go_wp2
      go_end0
      obtain ⟨o, el, sq, tk, pr, b5⟩ := unhide HX
      exact ⟨T', P', us, .inl ⟨rfl, hq'⟩, o, el, sq, tk, pr, b5⟩
end
end

section
def nxs (l : List Prt) (m : Nat) : List Prt := l.mapIdx fun k p => if k < m then { p with nx := (l[k + 1]?.map Prt.at_).getD p.nx } else p
theorem nxs_len (l : List Prt) (m : Nat) : (nxs l m).length = l.length := by simp [nxs]
theorem nxs_zero (l : List Prt) : nxs l 0 = l := by
  apply List.ext_getElem?
  intro k
  simp [nxs, List.getElem?_mapIdx]
theorem nxs_at {l : List Prt} {m k : Nat} {p : Prt} (h : l[k]? = some p) (hk : m ≤ k) : (nxs l m)[k]? = some p := by
  simp [nxs, List.getElem?_mapIdx, h, show ¬ k < m by omega]
theorem nxs_set {l : List Prt} {m : Nat} {p q : Prt} (h : l[m]? = some p) (h' : l[m + 1]? = some q) : (nxs l m).set m { p with nx := q.at_ } = nxs l (m + 1) := by
  have hl := (List.getElem?_eq_some_iff.1 h).1
  apply List.ext_getElem?
  intro k
  by_cases hk : k = m
  · subst hk
    rw [List.getElem?_set_self (by rw [nxs_len]; exact hl)]
    simp [nxs, List.getElem?_mapIdx, h, h']
  · rw [List.getElem?_set_ne (fun x => hk x.symm)]
    simp only [nxs, List.getElem?_mapIdx]
    cases hq : l[k]? with
    | none => rfl
    | some q =>
      simp only [Option.map_some]
      by_cases h2 : k < m
      · rw [if_pos h2, if_pos (by omega)]
      · rw [if_neg h2, if_neg (by omega)]

section
variable {nu sz : Nat} {w w' w0 : World} {hb sb b : Nat} {T : Tay} {A : Ab} {P : List (Int × Int)}

set_option maxRecDepth 20000 in
set_option maxHeartbeats 4000000 in
theorem r_take (h : Hp nu sz w hb sb b T A P) (s : HpS nu (says P A)) {l : List Prt} {g cap lo L : Nat} (hL : l.length = L) (pr : PR w lo (.slice (some ⟨g, 0, none⟩) L cap) l) (hl1 : 1 ≤ L) (hl : L ≤ 17) (hn : ∀ p ∈ l, p.n ≤ 4096) (hm : P.length + 74 * L ≤ 6144)
    (tg : ¬ tfoot sb b T g) (dh : hb ≠ g) (d0 : 0 ≠ g)
    (room : ∀ us xs f, Takn nu (says P A) us xs f → (∀ x ∈ xs, 1 ≤ x ∧ x ≤ 64) → us.length < L → ∃ j c, 3 ≤ j ∧ j < 7 ∧ fre nu f j c = true) :
    Calls Tryz.prog 53 #[ptr hb, .slice (some ⟨g, 0, none⟩) L cap] w fun e w' => e = .returned (.slice (some ⟨g, 0, none⟩) L cap) ∧ ∃ T' P' us, us.length = L ∧ OnxX (fun k => k = g) w sb b T w' T' sz A P' false ∧ P'.length ≤ P.length + 74 * L ∧ HpS nu (says P' A) ∧ Takn nu (says P A) us (l.map fun _ => 32) (says P' A) ∧ PR w' lo (.slice (some ⟨g, 0, none⟩) L cap) (nxs (plc nu l us) (L - 1)) := by
  obtain ⟨W1, hW1⟩ : ∃ W1, w.alloc (.cells #[ptr hb] 25) = W1 := ⟨_, rfl⟩
  obtain ⟨W2, hW2⟩ : ∃ W2, W1.alloc (.cells #[.slice (some ⟨g, 0, none⟩) L cap] 95) = W2 := ⟨_, rfl⟩
  obtain ⟨W3, hW3⟩ : ∃ W3, W2.alloc (.cells #[.int .i64 0] 3) = W3 := ⟨_, rfl⟩
  obtain ⟨gg, hg⟩ : ∃ gg, w.heap.size = gg := ⟨_, rfl⟩
  have z1 : W1.heap.size = gg + 1 := by rw [← hW1]; simp [hg]
  have z2 : W2.heap.size = gg + 2 := by rw [← hW2]; simp; omega
  have z3 : W3.heap.size = gg + 3 := by rw [← hW3]; simp; omega
  have f1 : Still w W1 := hW1 ▸ (Fr.refl _ w).alloc _
  have f2 : Still W1 W2 := hW2 ▸ (Fr.refl _ W1).alloc _
  have f3 : Still W2 W3 := hW3 ▸ (Fr.refl _ W2).alloc _
  have f23 : Still W1 W3 := f2.trans' f3 (fun _ x => x.elim)
  have f03 : Still w W3 := f1.trans' f23 (fun _ x => x.elim)
  have b2 : Box W3 gg (ptr hb) := by
    have := Box.new w (ptr hb) 25
    rw [hW1, hg] at this; exact this.kept f23 (fun x => x)
  have b3 : Box W3 (gg + 1) (.slice (some ⟨g, 0, none⟩) L cap) := by
    have := Box.new W1 (.slice (some ⟨g, 0, none⟩) L cap) 95
    rw [hW2, z1] at this; exact this.kept f3 (fun x => x)
  have b5 : Box W3 (gg + 2) (.int .i64 0) := by
    have := Box.new W2 (.int .i64 0) 3
    rw [hW3, z2] at this; exact this
  have ltg : g < gg := by rw [← hg]; exact (World.ownsRow.lt pr g rfl).2
  have lth : hb < gg := by rw [← hg]; exact h.lth
  have lt0 : 0 < gg := by rw [← hg]; exact h.lt0
  have ft : ∀ k, tfoot sb b T k → k < gg := fun k hk => by rw [← hg]; exact h.st.lt k hk
  have CL := r_takeC (b2 := gg) (b3 := gg + 1) (b5 := gg + 2) (h.still (f03.alloc box)) s hL ((pr.still f03).still ((Fr.refl _ W3).alloc box)) hl hn hm (b2.alloc box) (b3.alloc box) (b5.alloc box) (fun x => by have := ft _ x; omega) (fun x => by have := ft _ x; omega) (fun x => by have := ft _ x; omega) tg (by omega) (by omega) (by omega) (by omega) (by omega)
  have TR : Calls Tryz.prog 99 #[.func (.func 106) #[] #[ptr (gg + 2), ptr (gg + 1), ptr gg]] W3 fun e w' => ∃ h : How, e = .returned (.tuple #[h.v, .bool h.is]) ∧ (h = .well ∧ ∃ T' P' us, us.length = L ∧ OnxX (fun k => k = g ∨ k = gg + 2) W3 sb b T w' T' sz A P' false ∧ P'.length ≤ P.length + 74 * L ∧ HpS nu (says P' A) ∧ Takn nu (says P A) us (l.map fun _ => 32) (says P' A) ∧ PR w' lo (.slice (some ⟨g, 0, none⟩) L cap) (plc nu l us)) :=
    try_fr (F := fun k => tfoot sb b T k ∨ k = g ∨ k = gg + 2) (fun k hk => by rcases hk with hk | hk | hk; (· have := ft k hk; omega); (· omega); (· omega)) (acts_of (fun _ _ => by kernel_rfl) (CL.mono (by
      rintro e w' ⟨T', P', us, hh | ⟨_, hlt, hno⟩, o, el, sq, tk, pr', b5'⟩
      · obtain ⟨rfl, hu⟩ := hh
        refine ⟨.well, rfl, o.fr, fun w2 f2 => ⟨rfl, T', P', us, hu, ?_, by omega, sq, ?_, ?_⟩⟩
        · exact OnxX.boxed (h.still f03).st (Fr.refl _ W3) o f2
        · rw [List.take_of_length_le (by simp; omega)] at tk; exact tk
        · exact pr'.kept f2 (fun k hk e => by cases hk; have e : g = W3.heap.size := e; omega)
      · obtain ⟨j, c, j1, j2, hf⟩ := room us _ _ tk (fun x hx => by obtain ⟨p, _, rfl⟩ := List.mem_map.1 (List.mem_of_mem_take hx); exact ⟨by omega, by omega⟩) hlt
        rw [hno j j1 j2 c] at hf; cases hf)))
  have ER := g_errno TR (fun h w' x => .inl x.1)
  have mfk := mf
  have HER := hide ER; have HW := hide (And.intro hW1 (And.intro hW2 hW3)); have HF := hide f03; have HB := hide (And.intro b2 (And.intro b3 ltg)); have HFT := @hide _ ft
  have HZ := hide (And.intro hg (And.intro z1 (And.intro z2 z3))); have HHL := hide hL
  clear h s pr room hn CL TR ER f1 f2 f3 f23 f03 b2 b3 b5 hW1 hW2 hW3 z1 z2 z3 ft hL
  go_enter Tryz.func53, Tryz.ntmps53
  go_wp2_with fail
  rw [(unhide HW).1, (unhide HW).2.1, (unhide HW).2.2, show gg + 1 + 1 = gg + 2 from rfl]
  refine (unhide HER).mono ?_
  clear HER HW
  rintro e w4 (⟨rfl, -, T4, P4, us, hu, o4, el4, s4, tk4, pr4⟩ | ⟨i, -, e, _⟩)
  · obtain ⟨B2, B3, ltg'⟩ := unhide HB
    have n3 : ¬ tfoot sb b T (gg + 1) := fun x => by have := unhide HFT _ x; omega
    have B34 := B3.kept o4.fr (fun x => by rcases x with x | x | x; (· exact n3 x); (· omega); (· omega))
    have c3 := B34.c
    have on3 := o4.other (k := gg + 1) (by have := (unhide HZ).2.2.2; omega) n3
    have ong := o4.other (k := g) (by have := (unhide HZ).2.2.2; omega) tg
    have hpl : (plc nu l us).length = L := by rw [plc_len]; exact unhide HHL
    generalize hple : plc nu l us = pl at *
    have HPLE := hide hple
    clear hple
    have HX := hide (And.intro hu (And.intro o4 (And.intro el4 (And.intro s4 tk4)))); have HPR := hide pr4; have HB34 := hide B34; have HPL := hide hpl
    obtain ⟨L', rfl⟩ : ∃ L', L = L' + 1 := ⟨L - 1, by omega⟩
    have capf : L' + 1 ≤ cap := by
      rcases pr4.form with ⟨e, _⟩ | ⟨_, _, e, hc, _⟩
      · cases e
      · injection e with e1 e2 e3; omega
    clear o4 el4 s4 tk4 pr4 B34 B3 B2 hu HB hpl
    rcases Nat.eq_or_lt_of_le (show 1 ≤ cap by omega) with hc | hc
    · subst hc
      go_wp2_with fail
      go_loopw [31] (fun iv wr => ∃ m : Nat, m ≤ L' ∧ iv = .int .i64 m ∧ Fr (fun k => k = g) w4 wr ∧ PR wr lo (.slice (some ⟨g, 0, none⟩) (L' + 1) 1) (nxs pl m)) (fun iv wr => L' - (intOf iv).toNat)
      case atStart => exact ⟨0, by omega, rfl, Fr.refl _ _, by rw [nxs_zero]; exact unhide HPR⟩
      case round =>
        obtain ⟨m, hmL, rfl, fq, prq⟩ := hrel
        generalize wr = wq at *
        clear wr
        have c3q := fq.cell' c3 (fun e => by have e : gg + 1 = g := e; omega)
        by_cases hlt : m < L'
        · exact absurd hlt (by omega)
        · have em : m = L' := by omega
          subst em
          have hlt' : ((m : Int) < m) = False := by simp
          have HXX := hide (And.intro fq prq)
          clear fq prq
          go_wp2
          go_ret
          obtain ⟨fq, prq⟩ := unhide HXX
          obtain ⟨hu, o4, el4, s4, tk4⟩ := unhide HX
          obtain ⟨zg, z1, z2, z3⟩ := unhide HZ
          have o5 := o4.var fq (fun k hk => .inl hk) (fun k hk => hk ▸ ong)
          refine ⟨rfl, T4, P4, us, hu, ?_, el4, s4, tk4, ?_⟩
          · exact ⟨o5.st, ((unhide HF).mono (G := fun k => tfoot sb b T k ∨ k = g) (fun _ hk => hk.elim)).trans' o5.fr (fun k hk => by
              rcases hk with hk | hk | hk
              · exact .inl (.inl hk)
              · exact .inl (.inr hk)
              · exact .inr (by omega)), fun k hk => (o5.sub k hk).imp id (fun x => Nat.le_trans (unhide HF).size x)⟩
          · rw [unhide HPLE]; exact prq
    · have hcn : ¬ cap = 1 := by omega
      go_wp2_with fail
      go_loopw [31] (fun iv wr => ∃ m : Nat, m ≤ L' ∧ iv = .int .i64 m ∧ Fr (fun k => k = g) w4 wr ∧ PR wr lo (.slice (some ⟨g, 0, none⟩) (L' + 1) cap) (nxs pl m)) (fun iv wr => L' - (intOf iv).toNat)
      case atStart => exact ⟨0, by omega, rfl, Fr.refl _ _, by rw [nxs_zero]; exact unhide HPR⟩
      case round =>
        obtain ⟨m, hmL, rfl, fq, prq⟩ := hrel
        generalize wr = wq at *
        clear wr
        have c3q := fq.cell' c3 (fun e => by have e : gg + 1 = g := e; omega)
        by_cases hlt : m < L'
        · have hlt' : ((m : Int) < L') = True := by simp; omega
          obtain ⟨p, hp⟩ : ∃ p, pl[m]? = some p := ⟨_, List.getElem?_eq_getElem (by rw [unhide HPL]; omega)⟩
          obtain ⟨q, hq⟩ : ∃ q, pl[m + 1]? = some q := ⟨_, List.getElem?_eq_getElem (by rw [unhide HPL]; omega)⟩
          obtain ⟨e0, e1, e2, e3⟩ := prq.cells (nxs_at hp (Nat.le_refl m))
          obtain ⟨x0, x1, x2, x3⟩ := prq.cells (nxs_at hq (Nat.le_succ m))
          have gz : ∀ i, wq.frozen? ⟨g, i, none⟩ = false := fun i => by
            rcases prq.form with ⟨e, _⟩ | ⟨g', cap', e, _, _, _, hz⟩
            · cases e
            · injection e with e1 _ _; injection e1 with e1; injection e1 with e1 _ _; subst e1; exact hz i
          have gz3 := gz (m * 4 + 3)
          have im : IntKind.i64.wrap ((m : Int) + 1) = (m : Int) + 1 := (wrap_small _ (by omega) (by omega)).1
          have hlt2 : ((m : Int) + 1 < L' + 1) = True := by simp; omega
          have HXX := hide (And.intro fq (And.intro prq (And.intro hp hq)))
          clear fq prq hp hq gz e0 e1 e2 x1 x2 x3
          obtain ⟨qa', hqa⟩ : ∃ x, q.at_ = x := ⟨_, rfl⟩
          obtain ⟨pn, hpn⟩ : ∃ x, p.nx = x := ⟨_, rfl⟩
          rw [hqa] at x0; rw [hpn] at e3
          have HQA := hide hqa
          clear hqa hpn
          go_upto_region 12 with fail
          refine region_tailP 8 (by kernel_rfl) (by kernel_rfl) ?_
          simp only [List.take_succ_cons, List.take_zero, List.drop_succ_cons, List.drop_zero]
          repeat (go_big_quiet_step (first | fail))
          refine wpQuiet_nil ?_
          rintro _ ⟨nq, rfl⟩
          go_wp2
          obtain ⟨fq, prq, hp, hq⟩ := unhide HXX
          refine ⟨⟨m + 1, by omega, by go_num, ?_, ?_⟩, by simp [intOf]; omega⟩
          · exact (fq.drewN nq).setCell (.inl rfl) _
          · have s7 := (prq.still ((Fr.refl _ wq).drewN nq)).setNx (k := m) (p := p) (nxs_at hp (Nat.le_refl m)) q.at_
            rw [nxs_set hp hq, unhide HQA] at s7
            exact s7
        · have em : m = L' := by omega
          subst em
          have hlt' : ((m : Int) < m) = False := by simp
          have HXX := hide (And.intro fq prq)
          clear fq prq
          go_wp2
          go_ret
          obtain ⟨fq, prq⟩ := unhide HXX
          obtain ⟨hu, o4, el4, s4, tk4⟩ := unhide HX
          obtain ⟨zg, z1, z2, z3⟩ := unhide HZ
          have o5 := o4.var fq (fun k hk => .inl hk) (fun k hk => hk ▸ ong)
          refine ⟨rfl, T4, P4, us, hu, ?_, el4, s4, tk4, ?_⟩
          · exact ⟨o5.st, ((unhide HF).mono (G := fun k => tfoot sb b T k ∨ k = g) (fun _ hk => hk.elim)).trans' o5.fr (fun k hk => by
              rcases hk with hk | hk | hk
              · exact .inl (.inl hk)
              · exact .inl (.inr hk)
              · exact .inr (by omega)), fun k hk => (o5.sub k hk).imp id (fun x => Nat.le_trans (unhide HF).size x)⟩
          · rw [unhide HPLE]; exact prq
  · exact (well_errnoG e.symm).elim
end
end

section
theorem Inv.apartB {nu : Nat} {F : Nat → Nat → Bool} {K : Nat → Nat} {u v : Nat} (h : Inv nu F K (fun _ => 0)) (hu : K u ≠ 0) (hv : K v ≠ 0) (hlt : u < v) : u + 2 ^ lv (K u) ≤ v := by
  refine Classical.byContradiction fun hn => ?_
  obtain ⟨h1, _, h3⟩ := h.lift hu
  have hd : v / 2 ^ lv (K u) = u / 2 ^ lv (K u) := by
    have e : u = 2 ^ lv (K u) * (u / 2 ^ lv (K u)) := by rw [Nat.mul_comm]; exact h3.symm
    have p := two_pos (lv (K u))
    generalize u / 2 ^ lv (K u) = c at *
    generalize 2 ^ lv (K u) = Y at *
    refine Nat.div_eq_of_lt_le ?_ ?_
    · rw [Nat.mul_comm]; omega
    · rw [Nat.add_mul, Nat.mul_comm c Y]; omega
  have := h1.unasked (u := v) (h.asks v hv).1 (by unfold ind; rw [if_pos hd])
  unfold setK at this
  rw [if_neg (by omega)] at this
  exact hv this

theorem snoc_at {l : List Nat} {u k v : Nat} (h : (l ++ [u])[k]? = some v) : (k < l.length ∧ l[k]? = some v) ∨ (k = l.length ∧ v = u) := by
  by_cases hk : k < l.length
  · rw [List.getElem?_append_left hk] at h; exact .inl ⟨hk, h⟩
  · rw [List.getElem?_append_right (by omega)] at h
    have h2 := (List.getElem?_eq_some_iff.1 h).1
    simp only [List.length_singleton] at h2
    have e : k - l.length = 0 := by omega
    rw [e] at h
    simp at h
    exact .inr ⟨by omega, h.symm⟩

structure Tkf (nu : Nat) (f : Nat → Int) (us xs : List Nat) (g : Nat → Int) : Prop where
  len : us.length = xs.length
  st : HpS nu g
  nd : us.Nodup
  was : ∀ u ∈ us, ask nu f u = 0
  ak : ∀ v, v ∉ us → ask nu g v = ask nu f v
  is : ∀ (k u x : Nat), us[k]? = some u → xs[k]? = some x → ask nu g u = x
  zero : ∀ (k u x : Nat), us[k]? = some u → xs[k]? = some x → ∀ i, fi nu + 8 * u ≤ i → i < fi nu + 8 * u + 8 * 2 ^ lv x → g i = 0
  keep : ∀ i, fi nu ≤ i → (∀ (k u x : Nat), us[k]? = some u → xs[k]? = some x → i < fi nu + 8 * u ∨ fi nu + 8 * u + 8 * 2 ^ lv x ≤ i) → g i = f i
  root : ∀ i, 2 ≤ i → i < 18 → g i = f i

theorem Tkf.not_mem {nu : Nat} {f g : Nat → Int} {us xs : List Nat} (t : Tkf nu f us xs g) (hx : ∀ x ∈ xs, 1 ≤ x) {u : Nat} (h : ask nu g u = 0) : u ∉ us := fun hm => by
  obtain ⟨k, hk⟩ := List.getElem?_of_mem hm
  have hl := (List.getElem?_eq_some_iff.1 hk).1
  obtain ⟨x, hxk⟩ : ∃ x, xs[k]? = some x := ⟨_, List.getElem?_eq_getElem (by rw [← t.len]; exact hl)⟩
  have := t.is k u x hk hxk
  have := hx x (List.mem_of_getElem? hxk)
  omega

theorem Takn.facts {nu : Nat} {f g : Nat → Int} {us xs : List Nat} (s : HpS nu f) (t : Takn nu f us xs g) (hx : ∀ x ∈ xs, 1 ≤ x) : Tkf nu f us xs g := by
  induction t using Takn.ind with
  | nil => exact ⟨rfl, s, by simp, by simp, fun _ _ => rfl, by simp, by simp, fun _ _ _ => rfl, fun _ _ _ => rfl⟩
  | snoc us xs g g' u x t tk ih =>
    have ih := ih (fun y hy => hx y (by simp [hy]))
    have hxs : ∀ y ∈ xs, 1 ≤ y := fun y hy => hx y (by simp [hy])
    have hx1 : 1 ≤ x := hx x (by simp)
    have hu : u ∉ us := ih.not_mem hxs tk.was
    have hne : ∀ {k v : Nat}, us[k]? = some v → v ≠ u := fun h e => hu (e ▸ List.mem_of_getElem? h)
    have akn : ∀ v, v ≠ u → ask nu g' v = ask nu g v := fun v hv => by rw [tk.ak]; simp [setK, hv]
    have aku : ask nu g' u = x := by rw [tk.ak]; simp [setK]
    have is' : ∀ (k v y : Nat), (us ++ [u])[k]? = some v → (xs ++ [x])[k]? = some y → (k < us.length ∧ us[k]? = some v ∧ xs[k]? = some y) ∨ (v = u ∧ y = x) := by
      intro k v y h1 h2
      rcases snoc_at h1 with ⟨a1, a2⟩ | ⟨a1, a2⟩
      · rcases snoc_at h2 with ⟨b1, b2⟩ | ⟨b1, b2⟩
        · exact .inl ⟨a1, a2, b2⟩
        · have := ih.len; omega
      · rcases snoc_at h2 with ⟨b1, b2⟩ | ⟨b1, b2⟩
        · have := ih.len; omega
        · exact .inr ⟨a2, b2⟩
    have isg : ∀ (k v y : Nat), (us ++ [u])[k]? = some v → (xs ++ [x])[k]? = some y → ask nu g' v = y := by
      intro k v y h1 h2
      rcases is' k v y h1 h2 with ⟨_, a, b⟩ | ⟨rfl, rfl⟩
      · rw [akn v (hne a)]; exact ih.is k v y a b
      · exact aku
    refine ⟨by simp [ih.len], tk.st, ?_, ?_, ?_, isg, ?_, ?_, ?_⟩
    · rw [List.nodup_append]
      refine ⟨ih.nd, by simp, fun a ha c hc => ?_⟩
      simp at hc
      subst hc
      exact fun e => hu (e ▸ ha)
    · intro v hv
      rcases List.mem_append.1 hv with hv | hv
      · exact ih.was v hv
      · simp at hv; subst hv
        rw [← ih.ak v hu]; exact tk.was
    · intro v hv
      simp only [List.mem_append, List.mem_singleton, not_or] at hv
      rw [akn v hv.2]; exact ih.ak v hv.1
    · intro k v y h1 h2 i i1 i2
      rcases is' k v y h1 h2 with ⟨_, a, c⟩ | ⟨rfl, rfl⟩
      · have av : ask nu g' v = y := isg k v y h1 h2
        have hy := hxs y (List.mem_of_getElem? c)
        rw [tk.keep i (by omega)]
        · exact ih.zero k v y a c i i1 i2
        · rcases Nat.lt_or_gt_of_ne (hne a) with h | h
          · have := tk.st.inv.apartB (u := v) (v := u) (by omega) (by omega) h
            rw [av] at this; left; omega
          · have := tk.st.inv.apartB (u := u) (v := v) (by omega) (by omega) h
            rw [aku] at this; right; omega
      · exact tk.zero i i1 i2
    · intro i hi ho
      have l1 : (us ++ [u])[us.length]? = some u := by simp
      have l2 : (xs ++ [x])[us.length]? = some x := by rw [ih.len]; simp
      rw [tk.keep i hi (ho us.length u x l1 l2)]
      refine ih.keep i hi fun k v y a c => ho k v y ?_ ?_
      · rw [List.getElem?_append_left (List.getElem?_eq_some_iff.1 a).1]; exact a
      · rw [List.getElem?_append_left (List.getElem?_eq_some_iff.1 c).1]; exact c
    · intro i i1 i2
      rw [tk.root i i1 i2]; exact ih.root i i1 i2
end

section
section
variable {nu sz : Nat} {w w' w0 : World} {hb sb b : Nat} {T : Tay} {A : Ab} {P : List (Int × Int)}

set_option maxRecDepth 20000 in
set_option maxHeartbeats 2000000 in
theorem r_beginning (h : Hp nu sz w hb sb b T A P) {p n q k : Nat} (pa : PtAt sz (says P A) p true n q) (hk : says P A (p + 1) = (k : Nat)) (k1 : 1 ≤ k) (k2 : k < 9223372036854775808) :
    Calls Tryz.prog 61 #[ptr sb, .int .i64 p] w fun e w' => e = .returned (ptV p true n (8 * q : Nat)) ∧ Still w w' := by
  obtain ⟨g1, g2, g3, g4, g5, g6⟩ := h.hp.geo.b
  have ss := sz_b true n
  have hs2 : 2 ≤ szN true n := by unfold szN ahd; simp; omega
  have hi := pa.hi
  obtain ⟨W, hW⟩ : ∃ W, w.alloc (.cells #[.int .i64 0, .int .u64 0, .int .i64 0, .int .i64 0] 101) = W := ⟨_, rfl⟩
  obtain ⟨g, hg⟩ : ∃ g, w.heap.size = g := ⟨_, rfl⟩
  have fW : Still w W := hW ▸ (Fr.refl _ w).alloc _
  have oR : W.heap[g]? = some (.cells #[.int .i64 0, .int .u64 0, .int .i64 0, .int .i64 0] 101 (0, 0)) := by
    have := heap_alloc_new w (.cells #[.int .i64 0, .int .u64 0, .int .i64 0, .int .i64 0] 101)
    rw [hW, hg] at this; exact this
  have ek : ((kdN true : Nat) : Int) = 1919247153 := by simp [kdN]
  have PA := r_partAt (h.still fW) pa
  unfold ptV at PA ⊢
  rw [ek] at PA ⊢
  obtain ⟨nx, hnx⟩ : ∃ nx, ((8 * q : Nat) : Int) = nx := ⟨_, rfl⟩
  rw [hnx] at PA ⊢
  have HPA := hide PA; have HH := hide h; have HW := hide hW; have HX := hide (And.intro fW oR); have HK := hide hk
  have hp4 : p + 2 ≤ sz := by omega
  clear PA h pa fW oR hW hk ek
  go_enter Tryz.func61, Tryz.ntmps61
  go_wp2_with fail
  rw [unhide HW]
  refine (unhide HPA).mono ?_
  clear HPA HW
  rintro e w1 ⟨rfl, f1⟩
  obtain ⟨fW, oR⟩ := unhide HX
  have f01 := fW.trans' f1 (fun _ x => x.elim)
  have oR1 := f1.obj oR (fun x => x)
  obtain ⟨W2, hW2⟩ : ∃ W2, w1.alloc (.cells #[.int .i64 p, .int .u64 1919247153, .int .i64 n, .int .i64 nx] 101) = W2 := ⟨_, rfl⟩
  have f2 : Still w1 W2 := hW2 ▸ (Fr.refl _ w1).alloc _
  have f02 := f01.trans' f2 (fun _ x => x.elim)
  have LD := ((unhide HH).still f02).load (p + 1) (by omega)
  rw [unhide HK] at LD
  have ep : ((p + 1 : Nat) : Int) = (p : Int) + 1 := by omega
  rw [ep] at LD
  have oB : W2.heap[w1.heap.size]? = some (.cells #[.int .i64 p, .int .u64 1919247153, .int .i64 n, .int .i64 nx] 101 (0, 0)) := hW2 ▸ heap_alloc_new w1 _
  have oR2 := f2.obj oR1 (fun x => x)
  have c0 : W2.cell? ⟨w1.heap.size, 0, none⟩ = some (.int .i64 p) := cell_of_obj oB 0
  have c1 : W2.cell? ⟨w1.heap.size, 1, none⟩ = some (.int .u64 1919247153) := cell_of_obj oB 1
  have c2 : W2.cell? ⟨w1.heap.size, 2, none⟩ = some (.int .i64 n) := cell_of_obj oB 2
  have c3 : W2.cell? ⟨w1.heap.size, 3, none⟩ = some (.int .i64 nx) := cell_of_obj oB 3
  have r0 : W2.cell? ⟨g, 0, none⟩ = some (.int .i64 0) := cell_of_obj oR2 0
  have r1 : W2.cell? ⟨g, 1, none⟩ = some (.int .u64 0) := cell_of_obj oR2 1
  have r2 : W2.cell? ⟨g, 2, none⟩ = some (.int .i64 0) := cell_of_obj oR2 2
  have r3 : W2.cell? ⟨g, 3, none⟩ = some (.int .i64 0) := cell_of_obj oR2 3
  have rz : ∀ o, W2.frozen? ⟨g, o, none⟩ = false := fun o => by simp [World.frozen?, oR2]
  have hkw := small_w64 (x := (k : Int)) (by omega)
  have hk1 : ((k : Int) < 1) = False := eq_false (by have := k1; clear k2 hkw; omega)
  have HLD := hide LD; have HW2 := hide hW2; have HF := hide (And.intro f02 (And.intro hg oR2))
  clear LD hW2 f02 f2 f01 f1 fW oR oR1 oR2 oB hg ep hs2 ss g1 g2 g3 g4
  go_wp2_with fail
  rw [unhide HW2]
  refine (unhide HLD).mono ?_
  clear HLD HW2
  rintro e w' ⟨rfl, hh⟩
  replace hh := hh.symm
  subst hh
  go_wp2
  obtain ⟨f04, hg, oR4⟩ := unhide HF
  have oF := heap_setCell_same _ g 3 _ _ (.int .i64 nx) (heap_setCell_same _ g 2 _ _ (.int .i64 n) (heap_setCell_same _ g 1 _ _ (.int .u64 1919247153) (heap_setCell_same W2 g 0 _ _ (.int .i64 p) oR4)))
  refine bodyPost_ret (results_cell_row Tryz.results61 _ _ g 101 #[.int .i64 p, .int .u64 1919247153, .int .i64 n, .int .i64 nx] (0, 0) _ (by rfl) oF Tryz.underlying101 rfl (by kernel_rfl)) rfl ?_
  refine ⟨rfl, ?_⟩
  have f5 : Fr (fun k => k = g) W2 ((((W2.setCell ⟨g, 0, none⟩ (.int .i64 p)).setCell ⟨g, 1, none⟩ (.int .u64 1919247153)).setCell ⟨g, 2, none⟩ (.int .i64 n)).setCell ⟨g, 3, none⟩ (.int .i64 nx)) := ((((Fr.refl (fun k => k = g) W2).setCell (.inl rfl) _).setCell (.inl rfl) _).setCell (.inl rfl) _).setCell (.inl rfl) _
  exact f04.trans' f5 (fun k hk => .inr (by omega))
end
end
end Go.Proofs.YtflnaiijdpihcaaGreatDoor
