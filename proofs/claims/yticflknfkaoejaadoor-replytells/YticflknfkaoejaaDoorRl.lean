/- Reply: texts are put together: a builder, a line, a value. -/
import Derived.Test.YticflknfkaoejaaDoorTa
namespace Go.Proofs.YticflknfkaoejaaDoor
open Go.RowKit

/-- A builder in memory that holds these bytes: its blocks lie from B on. -/
structure Bld (w : World) (B b : Nat) (l : List UInt8) : Prop where
  is : Lib.IsBuilder 67 5 B b (Lib.byteCells l) w
  le : B ≤ w.heap.size
theorem Bld.lt {w : World} {B b : Nat} {l : List UInt8} (h : Bld w B b l) : b < w.heap.size := by
  rcases h.is with k | k <;> exact k.lt
theorem Bld.still {w w' : World} {B b : Nat} {l : List UInt8} (h : Bld w B b l) (f : Still w w') : Bld w' B b l := by
  have key : ∀ p, Lib.BuilderAt 67 5 B b p (Lib.byteCells l) w → Lib.BuilderAt 67 5 B b p (Lib.byteCells l) w' := fun p k => by
    obtain ⟨h1, v, h2, h3, h4⟩ := k
    exact ⟨h1, v, f.obj h2 (fun x => x), owns_same h3 fun k hk => f.block k (h3.lt k hk).2 (fun x => x), h4⟩
  refine ⟨?_, Nat.le_trans h.le f.size⟩
  rcases h.is with k | k
  · exact .inl (key _ k)
  · exact .inr (key _ k)
theorem Bld.new (w : World) : Bld (w.alloc (.cells #[.pointer none, .slice none 0 0] 67)) w.heap.size w.heap.size [] :=
  ⟨Lib.fresh_isBuilder _ _ _, by simp⟩
theorem cells_app (a b : List UInt8) : Lib.byteCells a ++ Lib.byteCells b = Lib.byteCells (a ++ b) := by simp [Lib.byteCells]
/-- A block that a builder does not use: it is no row of bytes. -/
def Off (w : World) (b k : Nat) : Prop := k ≠ b ∧ ∃ cs t z, w.heap[k]? = some (.cells cs t z) ∧ t ≠ 5
theorem Off.lt {w : World} {b k : Nat} (h : Off w b k) : k < w.heap.size := by
  obtain ⟨_, cs, t, z, e, _⟩ := h
  exact (Array.getElem?_eq_some_iff.1 e).1
/-- What a builder's write leaves alone. -/
structure Apart (w : World) (b : Nat) (w' : World) : Prop where
  ok : ∀ k, Off w b k → w'.heap[k]? = w.heap[k]?
theorem Apart.off {w w' : World} {b k : Nat} (h : Apart w b w') (hk : Off w b k) : Off w' b k := by
  have e := h.ok k hk
  obtain ⟨h1, cs, t, z, h2, h3⟩ := hk
  exact ⟨h1, cs, t, z, e.trans h2, h3⟩
theorem Apart.trans {a b c : World} {n : Nat} (h : Apart a n b) (k : Apart b n c) : Apart a n c := ⟨fun j hj => (k.ok j (h.off hj)).trans (h.ok j hj)⟩
theorem Apart.of_still {w w' : World} {b : Nat} (f : Still w w') : Apart w b w' := ⟨fun k hk => f.block k hk.lt (fun x => x)⟩
theorem infoU : ∃ i, Tryd.prog.info? 5 = some i ∧ i.zero = some (.int .u8 0) ∧ i.size = 1 ∧ i.bytes = 1 := by
  obtain ⟨i, hi, hzz⟩ := Option.map_eq_some_iff.1 infoB
  simp only [Prod.mk.injEq] at hzz
  exact ⟨i, hi, hzz.1, hzz.2.1, hzz.2.2⟩
theorem copy_ok {w : World} {B b : Nat} {l : List UInt8} (h : Bld w B b l) : Calls Tryd.prog 46 #[ptr b] w fun e w' => e = .returned (.tuple #[]) ∧ (w' = w ∨ w' = w.setCell ⟨b, 0, none⟩ (ptr b)) ∧ Lib.BuilderAt 67 5 B b (ptr b) (Lib.byteCells l) w' := by
  rcases h.is with k | k
  · refine (Any.Builder_copyCheck_fresh (P := Tryd.prog) (ρ := Tryd.lays156_ren) { Tryd.lays156 with } Tryd.Builder_Extra_156.toX72 b w k.cell0 k.shape k.frozen0).mono ?_
    rintro e w' ⟨rfl, rfl⟩
    exact ⟨rfl, .inr rfl, k.used _⟩
  · refine (Any.Builder_copyCheck_used (P := Tryd.prog) (ρ := Tryd.lays156_ren) { Tryd.lays156 with } Tryd.Builder_Extra_156.toX72 b w k.cell0).mono ?_
    rintro e w' ⟨rfl, rfl⟩
    exact ⟨rfl, .inl rfl, k⟩
set_option maxRecDepth 100000 in
set_option maxHeartbeats 2000000 in
theorem bwrite_ok {w : World} {B b : Nat} {l : List UInt8} (h : Bld w B b l) (x : List UInt8) (hl : l.length + x.length ≤ 100000000) :
    Calls Tryd.prog 37 #[ptr b, .string (bs x)] w fun e w' => (∃ v, e = .returned (.tuple #[v, .nilIface])) ∧ Bld w' B b (l ++ x) ∧ Below B w w' ∧ Apart w b w' := by
  have hs := bs_size x
  have hlt := h.lt
  have HC := hide (copy_ok h)
  have HB := hide (And.intro h.le (And.intro hl hlt))
  obtain ⟨i, i1, i2, i3, i4⟩ := infoU
  clear h hl hlt
  go_enter Tryd.func37, Tryd.ntmps37
  go_wp2_with fail
  refine (unhide HC).mono ?_
  rintro e w1 ⟨rfl, hw1, hB, v, hbk, hown, hne⟩
  have hsz1 : w1.heap.size = w.heap.size := by rcases hw1 with rfl | rfl <;> simp [World.setCell]
  have ap1 : Apart w b w1 := by
    rcases hw1 with rfl | rfl
    · exact ⟨fun k _ => rfl⟩
    · exact ⟨fun k hk => Below.heap_setCell _ _ _ _ hk.1⟩
  have be1 : Below B w w1 := by
    rcases hw1 with rfl | rfl
    · exact Below.refl _ _
    · exact (Below.refl B w).setCell (p := ⟨b, 0, none⟩) hB _
  have c0 : w1.cell? ⟨b, 0, none⟩ = some (ptr b) := cell_of_obj hbk 0
  have c1 : w1.cell? ⟨b, 1, none⟩ = some v := cell_of_obj hbk 1
  have hlen : (Lib.byteCells l).length = l.length := Lib.byteCells_length l
  have HO := hide (And.intro hown (And.intro hne (And.intro hB (And.intro hbk (And.intro ap1 (And.intro be1 (And.intro hsz1 hlen)))))))
  rw [hlen] at hown
  clear hw1 ap1 be1 hB hne hlen hbk hsz1
  go_wp2_with (at_builtin; refine Lib.wpList_append_own_string _ rfl _ _ 22 9 rfl B 5 i Tryd.underlying22 Tryd.underlying9 i1 i2 i3 i4 _ _ _ rfl hown (bs x) rfl ?c3 ?c4 ?c5 ?_)
  case c3 => have := (unhide HB).2.1; rw [hs]; unfold maxLen; omega
  case c4 => have := (unhide HB).2.1; rw [hs]; omega
  case c5 => have := (unhide HO).2.2.2.2.2.2.1; have := (unhide HB).1; omega
  intro v' w2 hown' hgrow _
  obtain ⟨_, hne, hB, hbk, ap1, be1, hsz1, hlen⟩ := unhide HO
  have hlt : b < w1.heap.size := (Array.getElem?_eq_some_iff.1 hbk).1
  have hb2 : w2.heap[b]? = some (.cells #[ptr b, v] 67) := by
    rw [hgrow.block b hlt (fun e => hne e.symm)]; exact hbk
  have d0 : w2.cell? ⟨b, 0, none⟩ = some (ptr b) := cell_of_obj hb2 0
  have d1 : w2.cell? ⟨b, 1, none⟩ = some v := cell_of_obj hb2 1
  have f1 : w2.frozen? ⟨b, 1, none⟩ = false := frozen_of_obj hb2 1
  obtain ⟨ao, n', cap, rfl⟩ : ∃ ao n' cap, v' = .slice ao n' cap := by
    rcases hown'.2 with ⟨hv, _⟩ | ⟨g, cap, cur, hv, _⟩
    · exact ⟨_, _, _, hv⟩
    · exact ⟨_, _, _, hv⟩
  have e1 : Lib.byteCells l ++ Lib.strCells (bs x) = Lib.byteCells (l ++ x) := by simp [Lib.byteCells, Lib.strCells, bs]
  have hput : Lib.BuilderAt 67 5 B b (ptr b) (Lib.byteCells (l ++ x)) (w2.setCell ⟨b, 1, none⟩ (.slice ao n' cap)) := by
    rw [← e1]
    refine Lib.BuilderAt.put hB hb2 ?_ (by decide)
    have e2 : (Lib.byteCells l ++ Lib.strCells (bs x)).length = l.length + (bs x).size := by rw [List.length_append, hlen, Lib.strCells_length]
    rw [e2]; exact hown'
  have be2 : Below B w1 (w2.setCell ⟨b, 1, none⟩ (.slice ao n' cap)) := ((Below.refl B w1).grown hgrow (by have := (unhide HB).1; omega) (fun k hk => (hown.lt k hk).1)).setCell (p := ⟨b, 1, none⟩) hB _
  have ap2 : Apart w1 b (w2.setCell ⟨b, 1, none⟩ (.slice ao n' cap)) := by
    refine ⟨fun k hk => ?_⟩
    have hlk := hk.lt
    obtain ⟨hkb, cs, t, z, hk3, hk4⟩ := hk
    have hk2 : v.ownBlock ≠ some k := Lib.ownBlock_ne hown hk3 hk4
    exact (Below.heap_setCell _ _ _ _ hkb).trans (hgrow.block k hlk (fun e => hk2 e.symm))
  have HF := hide (And.intro hput (And.intro (be1.trans be2) (ap1.trans ap2)))
  clear hput be2 ap2 e1 hown' hgrow hown hb2 hlt hne hB hbk ap1 be1 hsz1 hlen HO
  go_wp2
  go_ret2
  exact ⟨⟨_, rfl⟩, ⟨.inr (unhide HF).1, Nat.le_trans (unhide HB).1 (unhide HF).2.1.size⟩, (unhide HF).2⟩
theorem bstring_ok {w : World} {B b : Nat} {l : List UInt8} (h : Bld w B b l) : Calls Tryd.prog 39 #[ptr b] w fun e w' => e = .returned (.string (bs l)) ∧ Below B w w' :=
  Tryd.Builder_String_any B b l w h.is h.le

/-- The words of a line, and its end. -/
def lineL (xs : List (List UInt8)) : List UInt8 := Lib.join xs [32] ++ [10]
/-- Texts that are read. -/
def Tx (w : World) (g o : Nat) (xs : List (List UInt8)) : Prop := ∀ j x, xs[j]? = some x → w.cell? ⟨g, o + j, none⟩ = some (.string (bs x))
theorem Tx.still {w w' : World} {g o : Nat} {xs : List (List UInt8)} (h : Tx w g o xs) (f : Still w w') : Tx w' g o xs := fun j x hx => f.cell' (h j x hx) fun k => k
theorem join_call (g o c : Nat) (xs : List (List UInt8)) {w : World} (h : Tx w g o xs) (hg : g < w.heap.size) (hn : xs.length ≤ 1000000) (hc : xs.length ≤ c) (hl : (Lib.join xs [32]).length ≤ 100000000) :
    Calls Tryd.prog 48 #[.slice (some ⟨g, o, none⟩) xs.length c, .string ⟨#[32]⟩] w fun e w' => e = .returned (.string (bs (Lib.join xs [32]))) ∧ Still w w' := by
  have hm : (xs.map bs).map (·.data.toList) = xs := by
    rw [List.map_map]
    conv => rhs; rw [← List.map_id xs]
    rfl
  have k := Tryd.strings_Join g o c (xs.map bs) ⟨#[32]⟩ w (fun j x hx => by
    rw [List.getElem?_map] at hx
    obtain ⟨y, hy, rfl⟩ := Option.map_eq_some_iff.1 hx
    exact h j y hy) hg (by rw [List.length_map]; omega) (by rw [List.length_map]; exact hc) (by rw [hm]; show (Lib.join xs [32]).length ≤ _; omega)
  rw [hm, List.length_map] at k
  exact k.mono fun e w' ⟨e1, e2⟩ => ⟨e1, Fr.ofBelow e2⟩

set_option maxRecDepth 100000 in
set_option maxHeartbeats 2000000 in
theorem putLine_ok {w : World} {B b : Nat} {l : List UInt8} (h : Bld w B b l) (g o c : Nat) (xs : List (List UInt8)) (hx : Tx w g o xs) (hg : g < w.heap.size) (hn : xs.length ≤ 1000000) (hc : xs.length ≤ c) (hl : l.length + (lineL xs).length ≤ 100000000) :
    Calls Tryd.prog 41 #[.func (.func 37) #[ptr b] #[], .slice (some ⟨g, o, none⟩) xs.length c] w fun e w' => e = .returned (.tuple #[]) ∧ Bld w' B b (l ++ lineL xs) ∧ Below B w w' ∧ Apart w b w' := by
  unfold lineL at hl ⊢
  rw [List.length_append] at hl
  have HJ := hide (join_call g o c xs hx hg hn hc (by omega))
  obtain ⟨m, hm⟩ : ∃ m, Lib.join xs [32] = m := ⟨_, rfl⟩
  rw [hm] at hl HJ ⊢
  have hen : ∀ args w, (callFunc 37 args).run Tryd.prog w = .ok (.enter 37 args) w := enters_of Tryd.func37 (by kernel_rfl) rfl
  have H := hide (And.intro h hl)
  clear h hx hg hn hc hl hm
  go_enter Tryd.func41, Tryd.ntmps41
  go_wp2_with fail
  refine (unhide HJ).mono ?_
  rintro e w1 ⟨rfl, s1⟩
  have K1 := hide ((unhide H).1.still s1)
  have S1 := hide s1
  have HW := hide (bwrite_ok (unhide K1) m (by have := (unhide H).2; omega))
  clear s1 HJ
  go_wp2_with fail
  refine (unhide HW).mono ?_
  rintro e w2 ⟨⟨v, rfl⟩, k2, b2⟩
  have HW2 := hide (bwrite_ok k2 [10] (by have := (unhide H).2; simp only [List.length_append, List.length_cons, List.length_nil] at *; omega))
  have B2 := hide b2
  clear k2 b2 HW
  go_wp2_with fail
  refine (unhide HW2).mono ?_
  rintro e w3 ⟨⟨v, rfl⟩, k3, b3⟩
  have K3 := hide (And.intro k3 b3)
  clear k3 b3 HW2
  go_wp2
  go_end0
  refine ⟨rfl, by rw [← List.append_assoc]; exact (unhide K3).1, ?_⟩
  exact ⟨((unhide S1).below (unhide H).1.le (fun _ x => x.elim)).trans ((unhide B2).1.trans (unhide K3).2.1), (Apart.of_still (unhide S1)).trans ((unhide B2).2.trans (unhide K3).2.2)⟩

set_option maxRecDepth 100000 in
set_option maxHeartbeats 2000000 in
theorem oneLine_ok {w : World} (g o c : Nat) (xs : List (List UInt8)) (hx : Tx w g o xs) (hg : g < w.heap.size) (hn : xs.length ≤ 1000000) (hc : xs.length ≤ c) (hl : (lineL xs).length ≤ 100000000) :
    Calls Tryd.prog 35 #[.slice (some ⟨g, o, none⟩) xs.length c] w fun e w' => e = .returned (.string (bs (lineL xs))) ∧ Still w w' := by
  have hb := Bld.new w
  have hs : Still w (w.alloc (.cells #[.pointer none, .slice none 0 0] 67)) := (Fr.refl _ w).alloc _
  have HP := hide (putLine_ok hb g o c xs (hx.still hs) (Nat.lt_of_lt_of_le hg hs.size) hn hc (by simpa using hl))
  have HS := hide hs
  clear hx hg hn hc hl hb hs
  go_enter Tryd.func35, Tryd.ntmps35
  go_wp2_with fail
  refine (unhide HP).mono ?_
  rintro e w1 ⟨rfl, k1, b1, -⟩
  rw [List.nil_append] at k1
  have HB := hide (bstring_ok k1)
  have B1 := hide b1
  clear k1 b1 HP
  go_wp2_with fail
  refine (unhide HB).mono ?_
  rintro e w2 ⟨rfl, b2⟩
  have B2 := hide b2
  clear b2 HB
  go_wp2
  go_ret
  exact ⟨rfl, Fr.ofBelow (((unhide HS).below (Nat.le_refl _) (fun _ x => x.elim)).trans ((unhide B1).trans (unhide B2)))⟩

/-- A value behind its word and its length. -/
def valueL (k b : List UInt8) : List UInt8 := lineL [k, Lib.decDigits b.length] ++ b ++ [10]
theorem Rd.below {w w' : World} {a : Option Addr} {l : List UInt8} {B : Nat} (h : Rd w a l) (f : Below B w w') (hB : ∀ b o, a = some ⟨b, o, none⟩ → 0 < l.length → b < B) : Rd w' a l := fun i hi => by
  obtain ⟨b, o, e, c⟩ := h i hi
  exact ⟨b, o, e, (f.cell (hB b o e (by omega))).trans c⟩
theorem Rd.lt {w : World} {a : Option Addr} {l : List UInt8} (h : Rd w a l) : ∀ b o, a = some ⟨b, o, none⟩ → 0 < l.length → b < w.heap.size := fun b o e h0 => by
  obtain ⟨b', o', e', c⟩ := h 0 h0
  rw [e] at e'
  cases e'
  exact World.block_lt_of_cell? w _ c
theorem line2_len (k d : List UInt8) : lineL [k, d] = k ++ 32 :: (d ++ [10]) := by
  simp [lineL, Lib.join]
theorem two_tx (w : World) (x y : List UInt8) : Tx (w.alloc (.cells #[.string (bs x), .string (bs y)] 9)) w.heap.size 0 [x, y] := fun j z hz => by
  rw [Nat.zero_add, cell_of_obj (heap_alloc_new w _) j]
  match j, hz with
  | 0, hz => cases hz; rfl
  | 1, hz => cases hz; rfl
theorem dec_small (n : Nat) (h : n ≤ 1000000) : (Lib.decDigits n).length ≤ 20 := by
  have := dec_length 19 n (by omega)
  omega
set_option maxRecDepth 100000 in
set_option maxHeartbeats 2000000 in
theorem putValue_ok {W w : World} (hK : Kn W w) {B b : Nat} {l : List UInt8} (h : Bld w B b l) (k x : List UInt8) (a : Option Addr) (c : Nat) (hx : Rd w a x) (ha : ∀ b o, a = some ⟨b, o, none⟩ → 0 < x.length → b < B) (hn : x.length ≤ 1000000) (hl : l.length + k.length ≤ 10000000) :
    Calls Tryd.prog 38 #[.func (.func 37) #[ptr b] #[], .string (bs k), .slice a x.length c] w fun e w' => e = .returned (.tuple #[]) ∧ Bld w' B b (l ++ valueL k x) ∧ Below B w w' := by
  have hit : Lib.itoa (x.length : Int) = Lib.decDigits x.length := by unfold Lib.itoa; rw [if_neg (by omega)]; rfl
  have hI := itoa_ok (x.length : Int) (by omega) (by omega) hK
  rw [hit] at hI
  have hd := dec_small x.length hn
  obtain ⟨d, hdd⟩ : ∃ d, Lib.decDigits x.length = d := ⟨_, rfl⟩
  have hv : valueL k x = lineL [k, d] ++ (x ++ [10]) := by unfold valueL; rw [hdd, List.append_assoc]
  rw [hv]
  rw [hdd] at hI hd
  have HI := hide hI
  have H := hide (And.intro h (And.intro hx (And.intro ha (And.intro hn (And.intro hl hd)))))
  have hen : ∀ args w, (callFunc 37 args).run Tryd.prog w = .ok (.enter 37 args) w := enters_of Tryd.func37 (by kernel_rfl) rfl
  clear h hx ha hn hl hd hit hI hdd hv hK
  go_enter Tryd.func38, Tryd.ntmps38
  go_wp2_with fail
  refine (unhide HI).mono ?_
  rintro e w1 ⟨rfl, s1⟩
  have k1 := (unhide H).1.still (s1.alloc (.cells #[.string (bs k), .string (bs d)] 9))
  have hle : l.length + (lineL [k, d]).length ≤ 20000000 := by
    have := (unhide H).2.2.2.2
    rw [line2_len]
    simp only [List.length_append, List.length_cons, List.length_nil]; omega
  have HP := hide (putLine_ok k1 w1.heap.size 0 2 [k, d] (two_tx w1 k d) (by simp) (by simp) (by simp) (by omega))
  have S1 := hide (s1.alloc (.cells #[.string (bs k), .string (bs d)] 9))
  have HL := hide hle
  clear k1 s1 HI hle
  go_wp2_with fail
  refine (unhide HP).mono ?_
  rintro e w2 ⟨rfl, k2, b2, -⟩
  have B2 := hide (((unhide S1).below (unhide H).1.le (fun _ x => x.elim)).trans b2)
  have hrd : Rd w2 a x := (unhide H).2.1.below (unhide B2) (unhide H).2.2.1
  have hcv := conv_rd w2 a x.length c x rfl hrd
  have HW := hide (bwrite_ok k2 x (by have := unhide HL; have := (unhide H).2.2.2.1; rw [List.length_append]; omega))
  clear k2 b2 HP hrd
  go_wp2_with fail
  refine (unhide HW).mono ?_
  rintro e w3 ⟨⟨v, rfl⟩, k3, b3, -⟩
  have B3 := hide ((unhide B2).trans b3)
  have HW2 := hide (bwrite_ok k3 [10] (by have := unhide HL; have := (unhide H).2.2.2.1; simp only [List.length_append, List.length_cons, List.length_nil] at *; omega))
  clear k3 b3 HW hcv
  go_wp2_with fail
  refine (unhide HW2).mono ?_
  rintro e w4 ⟨⟨v, rfl⟩, k4, b4, -⟩
  have K4 := hide (And.intro k4 ((unhide B3).trans b4))
  clear k4 b4 HW2
  go_wp2
  go_end0
  refine ⟨rfl, ?_, (unhide K4).2⟩
  have := (unhide K4).1
  rw [List.append_assoc, List.append_assoc] at this
  exact this

set_option maxRecDepth 100000 in
set_option maxHeartbeats 2000000 in
theorem rvalue_ok {W w : World} (hK : Kn W w) (x : List UInt8) (a : Option Addr) (c : Nat) (hx : Rd w a x) (hn : x.length ≤ 1000000) :
    Calls Tryd.prog 11 #[.slice a x.length c] w fun e w' => e = .returned (.string (bs (valueL [86, 65, 76, 85, 69] x))) ∧ Still w w' := by
  have hb := Bld.new w
  have hs : Still w (w.alloc (.cells #[.pointer none, .slice none 0 0] 67)) := (Fr.refl _ w).alloc _
  have HP := hide (putValue_ok (hK.still hs) hb [86, 65, 76, 85, 69] x a c (hx.still hs) hx.lt hn (by simp))
  have HS := hide hs
  clear hx hn hb hs hK
  go_enter Tryd.func11, Tryd.ntmps11
  go_wp2_with fail
  refine (unhide HP).mono ?_
  rintro e w1 ⟨rfl, k1, b1⟩
  rw [List.nil_append] at k1
  have HB := hide (bstring_ok k1)
  have B1 := hide b1
  clear k1 b1 HP
  go_wp2_with fail
  refine (unhide HB).mono ?_
  rintro e w2 ⟨rfl, b2⟩
  have B2 := hide b2
  clear b2 HB
  go_wp2
  go_ret
  exact ⟨rfl, Fr.ofBelow (((unhide HS).below (Nat.le_refl _) (fun _ x => x.elim)).trans ((unhide B1).trans (unhide B2)))⟩
end Go.Proofs.YticflknfkaoejaaDoor
