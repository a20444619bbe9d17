/- Joined: Yb Yc. -/
import Derived.Shelf.Small.Strs
import Derived.Sort.Walk0
import Derived.Lib.AppendZerosOnto
import Derived.Test.YtbpndmghlnadiaaGreatDoorR15
namespace Go.Proofs
open Go.Shelf
def Tryz.lays106_ren : Go.Shelf.Ren := ⟨fun | 106 => 92 | 213 => 140 | 265 => 176 | n => n, fun | 9 => 9 | 3 => 3 | n => n, fun | n => n⟩
theorem Tryz.lays106 : Go.Proofs.Lays.n106 Tryz.prog Tryz.lays106_ren := {
  mixed := by kernel_rfl
  f106 := Tryz.func92.trans (congrArg some (by kernel_rfl))
  f213 := Tryz.func140.trans (congrArg some (by kernel_rfl))
  f265 := Tryz.func176.trans (congrArg some (by kernel_rfl))
  t3 := Tryz.underlying3
  a3 := Tryz.isAgg3
  z3 := Tryz.sizeOf3
  v3 := Tryz.zeroValue3
  t9 := Tryz.underlying9
  a9 := Tryz.isAgg9
  z9 := Tryz.sizeOf9
  v9 := Tryz.zeroValue9 }
end Go.Proofs
namespace Go.Proofs.YtbpndmghlnadiaaGreatDoor
open Go.RowKit
set_option maxHeartbeats 4000000
abbrev ltK (a b : ByteArray) : Prop := a.data.toList < b.data.toList
theorem bytes_ext {a b : ByteArray} (h : a.data.toList = b.data.toList) : a = b := by
 cases a with | mk x => cases b with | mk y => cases x with | mk x => cases y with | mk y => exact congrArg (fun l => ByteArray.mk (Array.mk l)) h
theorem ltK_irr (a : ByteArray) : ¬ ltK a a := List.lt_irrefl _
theorem ltK_trans {a b c : ByteArray} (h : ltK a b) (g : ltK b c) : ltK a c := List.lt_trans h g
theorem ltK_tri {a b : ByteArray} (h : ¬ ltK a b) (g : ¬ ltK b a) : a = b := bytes_ext (List.le_antisymm (List.not_lt.1 g) (List.not_lt.1 h))
theorem ltK_asym {a b : ByteArray} (h : ltK a b) : ¬ ltK b a := fun g => ltK_irr a (ltK_trans h g)
theorem ltK_le_trans {a b c : ByteArray} (h : ¬ ltK b a) (g : ltK b c) : ltK a c := by
 by_cases x : ltK a b
 ·exact ltK_trans x g
 ·rw [ltK_tri x h]; exact g
theorem ltK_trans_le {a b c : ByteArray} (h : ltK a b) (g : ¬ ltK c b) : ltK a c := by
 by_cases x : ltK b c
 ·exact ltK_trans h x
 ·rw [<- ltK_tri x g]; exact h
theorem cmp_lt : ∀ (a b : List UInt8), (Lib.compareBytes a b < 0) = (a < b) /\ (Lib.compareBytes a b = 0) = (a = b)
 | [], [] => by simp [Lib.compareBytes]
 | [], _ :: _ => by simp [Lib.compareBytes]
 | _ :: _, [] => by simp [Lib.compareBytes]
 | x :: a, y :: b => by
  obtain ⟨i1, i2⟩ := cmp_lt a b
  unfold Lib.compareBytes
  by_cases h : x < y
  ·have hn : x ≠ y := fun e => by subst e; exact UInt8.lt_irrefl x h
   simp [h, hn, List.cons_lt_cons_iff]
  ·by_cases g : y < x
   ·have hn : x ≠ y := fun e => by subst e; exact UInt8.lt_irrefl x g
    simp [h, g, hn, List.cons_lt_cons_iff]
   ·have e : x = y := UInt8.le_antisymm (UInt8.not_lt.1 g) (UInt8.not_lt.1 h)
    subst e
    simp only [h, if_false, i1, i2, List.cons_lt_cons_iff, List.cons.injEq, true_and, false_or]
def cmpK (a b : ByteArray) : Int := Lib.compareBytes a.data.toList b.data.toList
theorem cmpK_lt (a b : ByteArray) : (cmpK a b < 0) = ltK a b := (cmp_lt _ _).1
theorem cmpK_eq (a b : ByteArray) : (cmpK a b = 0) = (a = b) := by
 unfold cmpK
 rw [(cmp_lt _ _).2]
 exact propext ⟨bytes_ext, fun h => h ▸ rfl⟩
theorem s_compare (a b : ByteArray) (w : World) : Calls Tryz.prog 92 #[.string a, .string b] w fun e w' => e = .returned (.int .i64 (cmpK a b)) /\ w' = w :=
 Any.strings_Compare Tryz.lays106 a b w
theorem c_nan (a : ByteArray) (w : World) : Calls Tryz.prog 175 #[.string a] w fun e w' => e = .returned (.bool false) /\ w' = w := by
 go_enter Tryz.func175, Tryz.ntmps175
 go_wp2
 go_ret
 exact ⟨by simp, rfl⟩
theorem s_nan (a : ByteArray) (w : World) : Calls Tryz.prog 139 #[.string a] w fun e w' => e = .returned (.bool false) /\ w' = w := by
 go_enter Tryz.func139, Tryz.ntmps139
 go_wp2
 go_ret
 exact ⟨by simp, rfl⟩
theorem less_eq (a b : ByteArray) : Op.bytesLess a.toList b.toList = decide (ltK a b) := by
 rw [bytesLess_eq, Lib.toList_data, Lib.toList_data]
theorem c_less (a b : ByteArray) (w : World) : Calls Tryz.prog 138 #[.string a, .string b] w fun e w' => e = .returned (.bool (decide (ltK a b))) /\ w' = w := by
 rw [<- less_eq]
 go_enter Tryz.func138, Tryz.ntmps138
 go_wp2_with (go_at_call 175; refine (c_nan _ _).mono ?_; rintro e w' ⟨rfl, rfl⟩)
 go_ret
 exact ⟨rfl, rfl⟩
def StrsAt (w : World) (a : Option Addr) (n : Nat) (S : Nat -> ByteArray) : Prop := ∀ i, i < n -> ∃ b o, a = some ⟨b, o, none⟩ /\ w.cell? ⟨b, o + i, none⟩ = some (.string (S i))
set_option maxRecDepth 100000 in
theorem s_search (a : Option Addr) (n cap : Nat) (S : Nat -> ByteArray) (x : ByteArray) (k : Nat) (w : World) (hS : StrsAt w a n S) (hn : n <= 100000) (hk : k <= n) (h1 : ∀ t, t < k -> ltK (S t) x) (h2 : ∀ t, k <= t -> t < n -> ¬ ltK (S t) x) :
  Calls Tryz.prog 89 #[.slice a n cap, .string x] w fun e w' => e = .returned (.tuple #[.int .i64 k, .bool (decide (k < n /\ S k = x))]) /\ w' = w := by
 obtain ⟨fd, hfd⟩ : ∃ fd, decide (k < n /\ S k = x) = fd := ⟨_, rfl⟩
 rw [hfd]
 go_enter Tryz.func89, Tryz.ntmps89
 go_wp2_with fail
 go_loop [7, 8] (fun s7 s8 => ∃ lo hi : Nat, s7 = .int .i64 lo /\ s8 = .int .i64 hi /\ lo <= k /\ k <= hi /\ hi <= n) (fun s7 s8 => (RowKit.intOf s8 - RowKit.intOf s7).toNat)
 case atStart => exact ⟨0, n, rfl, rfl, by omega, hk, by omega⟩
 case round =>
  obtain ⟨lo, hi, rfl, rfl, hlk, hkh, hin⟩ := hrel
  by_cases hlt : lo < hi
  ·obtain ⟨b, o, rfl, cm⟩ := hS ((lo + hi) / 2) (by omega)
   have em : ((lo : Int) + (hi : Int)) / 2 = (((lo + hi) / 2 : Nat) : Int) := by omega
   obtain ⟨m, hm⟩ : ∃ m, (lo + hi) / 2 = m := ⟨_, rfl⟩
   rw [hm] at cm em
   have hmb : lo <= m /\ m < hi := by omega
   have LT := c_less (S m) x
   by_cases hl : ltK (S m) x
   ·have hmk : m < k := Nat.lt_of_not_le fun h => h2 m h (by omega) hl
    rw [decide_eq_true hl] at LT
    have hlt' : (lo : Int) < hi := by omega
    clear hS h1 h2 hm
    go_wp2_with (first | (go_at_call 138; refine (LT _).mono ?_; rintro e w' ⟨rfl, rfl⟩))
    exact ⟨⟨m + 1, hi, by simp, rfl, by omega, hkh, hin⟩, by simp [RowKit.intOf]; omega⟩
   ·have hmk : k <= m := Nat.le_of_not_lt fun h => hl (h1 m h)
    rw [decide_eq_false hl] at LT
    have hlt' : (lo : Int) < hi := by omega
    clear hS h1 h2 hm
    go_wp2_with (first | (go_at_call 138; refine (LT _).mono ?_; rintro e w' ⟨rfl, rfl⟩))
    exact ⟨⟨lo, m, rfl, rfl, hlk, hmk, by omega⟩, by simp [RowKit.intOf]; omega⟩
  ·have e1 : hi = k := by omega
   have e2 : lo = k := by omega
   subst e1 e2
   by_cases hkn : lo < n
   ·obtain ⟨b, o, rfl, cm⟩ := hS lo hkn
    have hkn' : (lo : Int) < n := by omega
    clear hS h1 h2
    by_cases he : S lo = x
    ·have hf : fd = true := by rw [<- hfd, decide_eq_true (ai hkn he)]
     clear hfd
     rw [he] at cm
     go_wp2_with (first | (go_at_call 139; refine (s_nan _ _).mono ?_; rintro e w' ⟨rfl, rfl⟩))
     go_ret2
     exact ⟨by first | rfl | (rw [hf]; rfl), rfl⟩
    ·have hf : fd = false := by rw [<- hfd, decide_eq_false (fun h : lo < n /\ S lo = x => he h.2)]
     clear hfd
     have hne : ((S lo).toList == x.toList) = false := by
      rw [beq_eq_false_iff_ne, Lib.toList_data, Lib.toList_data]
      exact fun h => he (bytes_ext h)
     generalize S lo = y at *
     go_wp2_with (first | (go_at_call 139; refine (s_nan _ _).mono ?_; rintro e w' ⟨rfl, rfl⟩))
     go_ret2
     exact ⟨by first | rfl | (rw [hf]; rfl), rfl⟩
   ·have hf : fd = false := by rw [<- hfd, decide_eq_false (fun h : lo < n /\ S lo = x => hkn h.1)]
    have hkn' : ¬ (lo : Int) < n := by omega
    clear hS h1 h2
    go_wp2_with fail
    go_ret2
    exact ⟨by first | rfl | (rw [hf]; rfl), rfl⟩
abbrev prV (k : ByteArray) (v : Nat) : Value := .agg #[.string k, .int .u64 v]
theorem f_cmp (k x : ByteArray) (v : Nat) (w : World) : Calls Tryz.prog 91 #[prV k v, .string x] w fun e w' => e = .returned (.int .i64 (cmpK k x)) /\ St w w' := by
 have C := s_compare k x
 go_enter Tryz.func91, Tryz.ntmps91
 go_wp2_with (go_at_call 92; refine (C _).mono ?_; rintro e w' ⟨rfl, rfl⟩)
 go_ret
 exact ⟨rfl, (Fr.refl _ w).alloc _⟩
set_option maxRecDepth 100000 in
theorem s_searchF (a : Option Addr) (n cap : Nat) (S : Nat -> ByteArray) (v : Nat -> Nat) (x : ByteArray) (k : Nat) (w : World) (hS : ∀ i, i < n -> ∃ b o, a = some ⟨b, o, none⟩ /\ w.cell? ⟨b, o + i * 2, none⟩ = some (.string (S i)) /\ w.cell? ⟨b, o + i * 2 + 1, none⟩ = some (.int .u64 (v i))) (hn : n <= 100000) (hk : k <= n) (h1 : ∀ t, t < k -> ltK (S t) x) (h2 : ∀ t, k <= t -> t < n -> ¬ ltK (S t) x) :
  Calls Tryz.prog 90 #[.slice a n cap, .string x, .func (.func 91) #[] #[]] w fun e w' => e = .returned (.tuple #[.int .i64 k, .bool (decide (k < n /\ S k = x))]) /\ St w w' := by
 obtain ⟨fd, hfd⟩ : ∃ fd, decide (k < n /\ S k = x) = fd := ⟨_, rfl⟩
 rw [hfd]
 go_enter Tryz.func90, Tryz.ntmps90
 go_wp2_with fail
 go_loopw [9, 10] (fun s7 s8 wr => ∃ lo hi : Nat, s7 = .int .i64 lo /\ s8 = .int .i64 hi /\ lo <= k /\ k <= hi /\ hi <= n /\ St w wr) (fun s7 s8 wr => (RowKit.intOf s8 - RowKit.intOf s7).toNat)
 case atStart => exact ⟨0, n, rfl, rfl, by omega, hk, by omega, Fr.refl _ _⟩
 case round =>
  obtain ⟨lo, hi, rfl, rfl, hlk, hkh, hin, fr⟩ := hrel
  by_cases hlt : lo < hi
  ·obtain ⟨b, o, rfl, cm, cv⟩ := hS ((lo + hi) / 2) (by omega)
   have em : ((lo : Int) + (hi : Int)) / 2 = (((lo + hi) / 2 : Nat) : Int) := by omega
   obtain ⟨m, hm⟩ : ∃ m, (lo + hi) / 2 = m := ⟨_, rfl⟩
   rw [hm] at cm em cv
   replace cm := fr.cell' cm id
   replace cv := fr.cell' cv id
   have hmb : lo <= m /\ m < hi := by omega
   have LT := f_cmp (S m) x (v m)
   have HC := cmpK_lt (S m) x
   have hlt' : (lo : Int) < hi := by omega
   by_cases hl : ltK (S m) x
   ·have hmk : m < k := Nat.lt_of_not_le fun h => h2 m h (by omega) hl
    have hc0 : cmpK (S m) x < 0 := HC ▸ hl
    clear hS h1 h2 hm HC
    generalize cmpK (S m) x = c at *
    go_wp2_with (first | (go_at_call 91; refine (LT _).mono ?_; rintro e w' ⟨rfl, f1⟩))
    exact ⟨⟨m + 1, hi, by simp, rfl, by omega, hkh, hin, fr.trans' f1 nE⟩, by simp [RowKit.intOf]; omega⟩
   ·have hmk : k <= m := Nat.le_of_not_lt fun h => hl (h1 m h)
    have hc0 : ¬ cmpK (S m) x < 0 := HC ▸ hl
    clear hS h1 h2 hm HC
    generalize cmpK (S m) x = c at *
    go_wp2_with (first | (go_at_call 91; refine (LT _).mono ?_; rintro e w' ⟨rfl, f1⟩))
    exact ⟨⟨lo, m, rfl, rfl, hlk, hmk, by omega, fr.trans' f1 nE⟩, by simp [RowKit.intOf]; omega⟩
  ·have e1 : hi = k := by omega
   have e2 : lo = k := by omega
   subst e1 e2
   by_cases hkn : lo < n
   ·obtain ⟨b, o, rfl, cm, cv⟩ := hS lo hkn
    have hkn' : (lo : Int) < n := by omega
    replace cm := fr.cell' cm id
    replace cv := fr.cell' cv id
    have LT := f_cmp (S lo) x (v lo)
    have HC := cmpK_eq (S lo) x
    have hfd' : fd = (cmpK (S lo) x == 0) := by
     rw [<- hfd, Bool.eq_iff_iff, beq_iff_eq, HC, decide_eq_true_eq]
     exact ⟨fun h => h.2, fun h => ⟨hkn, h⟩⟩
    clear hS h1 h2 HC hfd
    generalize cmpK (S lo) x = c at *
    go_wp2_with (first | (go_at_call 91; refine (LT _).mono ?_; rintro e w' ⟨rfl, f1⟩))
    go_ret2
    refine ⟨?_, fr.trans' f1 nE⟩
    rw [hfd']
    rfl
   ·have hf : fd = false := by rw [<- hfd, decide_eq_false (fun h : lo < n /\ S lo = x => hkn h.1)]
    have hkn' : ¬ (lo : Int) < n := by omega
    clear hS h1 h2
    go_wp2_with fail
    go_ret2
    exact ⟨by first | rfl | (rw [hf]; rfl), fr⟩
theorem l_find (a : Option Addr) (n cap : Nat) (S : Nat -> ByteArray) (v : Nat -> Nat) (x : ByteArray) (k : Nat) (w : World) (hS : ∀ i, i < n -> ∃ b o, a = some ⟨b, o, none⟩ /\ w.cell? ⟨b, o + i * 2, none⟩ = some (.string (S i)) /\ w.cell? ⟨b, o + i * 2 + 1, none⟩ = some (.int .u64 (v i))) (hn : n <= 100000) (hk : k <= n) (h1 : ∀ t, t < k -> ltK (S t) x) (h2 : ∀ t, k <= t -> t < n -> ¬ ltK (S t) x) :
  Calls Tryz.prog 44 #[.slice a n cap, .string x] w fun e w' => e = .returned (.tuple #[.int .i64 k, .bool (decide (k < n /\ S k = x))]) /\ St w w' := by
 have K := s_searchF a n cap S v x k w hS hn hk h1 h2
 generalize decide (k < n /\ S k = x) = fd at *
 clear hS h1 h2
 go_enter Tryz.func44, Tryz.ntmps44
 go_wp2_with (go_at_call 90; refine K.mono ?_; rintro e w' ⟨rfl, f1⟩)
 go_ret2
 exact ⟨rfl, f1⟩
def ElT (et st : TypeId) (sz : Nat) : Prop := Tryz.prog.underlying st = some (.slice et) /\ 0 < sz /\ ∃ i z, Tryz.prog.info? et = some i /\ i.zero = some z /\ i.size = sz /\ i.bytes <= 32 /\ z.cells.size = sz
theorem elt_of {et st : TypeId} {sz bytes : Nat} {z : Value} (hinfo : (Tryz.prog.info? et).map (fun i => (i.zero, i.size, i.bytes)) = some (some z, sz, bytes)) (hb : bytes <= 32) (hz : z.cells.size = sz) (h0 : 0 < sz) (hu : Tryz.prog.underlying st = some (.slice et)) : ElT et st sz := by
 obtain ⟨i, hi, hzz⟩ := Option.map_eq_some_iff.1 hinfo
 simp only [Prod.mk.injEq] at hzz
 exact ⟨hu, h0, i, z, hi, hzz.1, hzz.2.1, by rw [hzz.2.2]; exact hb, hz⟩
structure Sl (w : World) (sz : Nat) (a : Option Addr) (n c : Nat) (xs : List Value) : Prop where
 len : xs.length = n * sz
 cap : n <= c
 nil : a = none -> n = 0 /\ c = 0
 one : ∀ u ∈ xs, u.oneCell' = true
 cells : ∀ j u, xs[j]? = some u -> ∃ b o, a = some ⟨b, o, none⟩ /\ w.cell? ⟨b, o + j, none⟩ = some u
 flat : ∀ x, a = some x -> x.spot = none
theorem Sl.kept {w w' : World} {sz n c : Nat} {a : Option Addr} {xs : List Value} (h : Sl w sz a n c xs) {F : Nat -> Prop} (f : Fr F w w') (hn : ∀ x, a = some x -> ¬ F x.block) : Sl w' sz a n c xs :=
 ⟨h.len, h.cap, h.nil, h.one, fun j u hu => by
  obtain ⟨b, o, e, c1⟩ := h.cells j u hu
  exact ⟨b, o, e, f.cell' c1 (hn ⟨b, o, none⟩ e)⟩, h.flat⟩
theorem Sl.still {w w' : World} {sz n c : Nat} {a : Option Addr} {xs : List Value} (h : Sl w sz a n c xs) (f : St w w') : Sl w' sz a n c xs := h.kept f (fun _ _ x => x)
theorem sl_of_row {w : World} {sz n c lo : Nat} {et : TypeId} {a : Option Addr} {xs : List Value} (h : w.ownsRow lo et sz (.slice a n c) n xs) (h1 : ∀ u ∈ xs, u.oneCell' = true) : Sl w sz a n c xs := by
 rcases h.2 with ⟨hv, hn⟩ | ⟨g, cap, cur, hv, _, hg, hc, _, hs, hcur⟩
 ·cases hv
  have e : xs = [] := List.length_eq_zero_iff.1 (by rw [h.1]; simp)
  subst e
  exact ⟨by simp, Nat.le_refl _, fun _ => ⟨rfl, rfl⟩, h1, fun j u hu => by simp at hu, fun _ e => by cases e⟩
 ·cases hv
  refine ⟨h.1, hc, (fun e => by cases e), h1, fun j u hu => ⟨g, 0, rfl, ?_⟩, (fun x e => by cases e; rfl)⟩
  rw [Nat.zero_add, cOo hg j]
  have hj : j < n * sz := by rw [<- h.1]; exact (List.getElem?_eq_some_iff.1 hu).1
  rw [<- hcur, List.getElem?_take_of_lt hj, Array.getElem?_toList] at hu
  exact hu
theorem run_more {et st : TypeId} {sz : Nat} (E : ElT et st sz) {w : World} {lo : Nat} (ty : TypeId) {v : Value} {n : Nat} {xs : List Value} (hown : w.ownsRow lo et sz v n xs) {a : Option Addr} {m c : Nat} {ys : List Value} (S : Sl w sz a m c ys) (hl : n + m <= 1000000) (hlo : lo <= w.heap.size) :
  ∃ v' w', (Builtin.append_ #[st, st] ty #[v, .slice a m c]).run Tryz.prog w = .ok v' w' /\ w'.ownsRow lo et sz v' (n + m) (xs ++ ys) /\ w.grownBy w' v.ownBlock /\ (v'.ownBlock = v.ownBlock \/ v'.ownBlock = some w.heap.size) := by
 obtain ⟨hu, h0, i, z, hi, hz, hsize, hby, hzs⟩ := E
 cases a with
 | none =>
  obtain ⟨rfl, rfl⟩ := S.nil rfl
  have e : ys = [] := List.length_eq_zero_iff.1 (by rw [S.len]; simp)
  subst e
  exact ⟨v, w, run_append_owned_none (P := Tryz.prog) (w := w) lo st ty et i sz hu hi v _ _ hown, by simpa using hown, ⟨rfl, rfl, rfl, Nat.le_refl _, fun _ _ _ => rfl⟩, .inl rfl⟩
 | some ad =>
  have hs := S.flat ad rfl
  obtain ⟨ab, ao, asp⟩ := ad
  cases hs
  obtain ⟨v', w', hr, h2, h3, _, h5⟩ := run_append_own_at (P := Tryz.prog) w lo st ty et i z sz i.bytes hu hi hz hsize rfl hzs h0 v n xs hown ⟨ab, ao, none⟩ m c ys S.len (fun j u hu => by
   obtain ⟨b, o, e, c1⟩ := S.cells j u hu
   cases e
   rw [show (⟨ab, ao, none⟩ : Addr).add j = ⟨ab, ao + j, none⟩ by simp [Addr.add]]
   exact c1) S.one (by unfold maxLen; omega) (by have : (n + m) * i.bytes <= 1000000 * 32 := Nat.mul_le_mul hl hby; omega) hlo
  exact ⟨v', w', hr, h2, h3, h5⟩
def offN (N : Nat -> Nat) : Nat -> Nat
 | 0 => 0
 | t + 1 => offN N t + N t
def catX (X : Nat -> List Value) : Nat -> List Value
 | 0 => []
 | t + 1 => catX X t ++ X t
theorem offN_le (N : Nat -> Nat) {i j : Nat} (h : i <= j) : offN N i <= offN N j := by
 induction j with
 | zero => rw [Nat.le_zero.1 h]; exact Nat.le_refl _
 | succ j ih =>
  rcases Nat.lt_or_eq_of_le h with h | rfl
  ·exact Nat.le_trans (ih (by omega)) (by show offN N j <= offN N j + N j; omega)
  ·exact Nat.le_refl _
def RowsAt (w : World) (sz : Nat) (a : Option Addr) (k : Nat) (A : Nat -> Option Addr) (N C : Nat -> Nat) (X : Nat -> List Value) : Prop :=
 ∀ i, i < k -> (∃ b o, a = some ⟨b, o, none⟩ /\ w.cell? ⟨b, o + i, none⟩ = some (.slice (A i) (N i) (C i))) /\ Sl w sz (A i) (N i) (C i) (X i)
theorem RowsAt.still {w w' : World} {sz k : Nat} {a : Option Addr} {A : Nat -> Option Addr} {N C : Nat -> Nat} {X : Nat -> List Value} (h : RowsAt w sz a k A N C X) (f : St w w') : RowsAt w' sz a k A N C X := fun i hi => by
 obtain ⟨⟨b, o, e, c⟩, s⟩ := h i hi
 exact ⟨⟨b, o, e, f.cell' c id⟩, s.still f⟩
theorem elt_W : ElT 27 128 1 := elt_of (z := .int .u64 0) (bytes := 8) (by kernel_rfl) (by decide) (by decide) (by decide) Tryz.underlying128
set_option maxRecDepth 100000 in
theorem grow_W (n : Nat) (hn : n <= 1000000) (w : World) : Calls Tryz.prog 184 #[.slice none 0 0, .int .i64 n] w fun e w' => ∃ v, e = .returned v /\ w'.ownsRow w.heap.size 27 1 v 0 [] /\ St w w' := by
 by_cases h0 : n = 0
 ·subst h0
  go_enter Tryz.func184, Tryz.ntmps184
  go_wp2
  go_ret
  exact ⟨_, rfl, World.ownsRow_nil _ _ _ _, Fr.refl _ _⟩
 ·obtain ⟨hu, hs0, i, z, hi, hz, hsize, hby, hzs⟩ := elt_W
  have hold : (Builtin.firstCells i.size 0 (.slice none 0 0)).run Tryz.prog w.drew = .ok ([] : List Value).toArray w.drew := run_firstCells_none (P := Tryz.prog) (w := w.drew) i.size 0 0 0
  have hr := Lib.run_append_grow_zeros (P := Tryz.prog) w 128 3 128 27 i z .i64 .i64 hu Tryz.underlying3 hi hz none 0 0 [] hold n (by omega) (by omega) (by omega) (by omega)
   (by have : n * i.bytes <= 1000000 * 32 := Nat.mul_le_mul hn hby; omega) (growslice_fits (by omega) (by have : (0 + n) * i.bytes <= 1000000 * 32 := Nat.mul_le_mul (by omega) hby; omega))
  have hge := grownCap_ge w (0 + n) 0 27
  have hcm : grownCap w (0 + n) 0 27 <= maxLen := grownCap_le_maxLen w (0 + n) 0 27 (by unfold maxLen; omega)
  rw [Nat.zero_add] at hr hge hcm
  generalize grownCap w n 0 27 = G at *
  have hG : G <= 9223372036854775807 := by unfold maxLen at hcm; omega
  have hsz : (([] : List Value).toArray ++ Builtin.zeroCells z.cells n ++ Builtin.zeroCells z.cells (G - n)).size = G * 1 := by
   simp only [Array.size_append, List.size_toArray, size_zeroCells, hzs, List.length_nil, Nat.zero_add, <- Nat.add_mul]
   rw [show n + (G - n) = G by omega]
  generalize ([] : List Value).toArray ++ Builtin.zeroCells z.cells n ++ Builtin.zeroCells z.cells (G - n) = Z at *
  have h0' : (0 : Int) < n := by omega
  have hn' : ¬ (n : Int) < 0 := by omega
  have w1 : IntKind.i64.wrap ((n : Int) - 0) = n := by rw [IntKind.wrap_i64]; omega
  have HC := Hd (ai hcm hsz)
  clear hold hcm hsz hu hs0 hi hz hsize hby hzs
  go_enter Tryz.func184, Tryz.ntmps184
  go_wp2_with (at_builtin; refine Lib.wpList_append_run _ rfl _ _ _ _ rfl _ _ rfl rfl _ _ hr ?_)
  go_ret
  obtain ⟨hcm, hsz⟩ := uh HC
  exact ⟨_, rfl, ⟨rfl, .inr ⟨w.heap.size, G, Z, rfl, Nat.le_refl _, heap_alloc_new w.drew _, Nat.zero_le _, hcm, hsz, by simp⟩⟩, ((Fr.refl (fun _ => False) w).drewN 1).alloc _⟩
set_option maxRecDepth 100000 in
theorem cat_W (a : Option Addr) (k cp : Nat) (A : Nat -> Option Addr) (N C : Nat -> Nat) (X : Nat -> List Value) (w : World) (hR : RowsAt w 1 a k A N C X) (hk : k <= 100) (hl : offN N k <= 1000000) :
  Calls Tryz.prog 157 #[.slice a k cp] w fun e w' => ∃ v, e = .returned v /\ w'.ownsRow w.heap.size 27 1 v (offN N k) (catX X k) /\ St w w' := by
 have GR := grow_W (offN N k) hl w
 go_enter Tryz.func157, Tryz.ntmps157
 go_wp2_with fail
 go_loop [3, 11] (fun s i => ∃ t : Nat, t <= k /\ i = .int .i64 t /\ s = .int .i64 (offN N t)) (fun _ i => k - (RowKit.intOf i).toNat)
 case atStart => exact ⟨0, by omega, rfl, rfl⟩
 case round =>
  obtain ⟨t, htk, rfl, rfl⟩ := hrel
  by_cases hlt : t < k
  ·obtain ⟨⟨b, o, rfl, c1⟩, s⟩ := hR t hlt
   have hlt' : (t : Int) < k := by omega
   have ho := offN_le N (show t + 1 <= k by omega)
   have hs : offN N (t + 1) = offN N t + N t := rfl
   have w1 : IntKind.i64.wrap ((offN N t : Int) + N t) = ((offN N (t + 1) : Nat) : Int) := by rw [IntKind.wrap_i64]; omega
   have hp : ¬ ((offN N (t + 1) : Nat) : Int) < 0 := by omega
   clear hR GR s
   go_wp2_with fail
   exact ⟨⟨t + 1, by omega, by simp, by first | rfl | simp⟩, by simp [RowKit.intOf]; omega⟩
  ·have e : t = k := by omega
   subst e
   have hlt' : ¬ (t : Int) < t := by omega
   go_wp2_with (first | (go_at_call 184; refine GR.mono ?_; rintro e w' ⟨v, rfl, hv, fv⟩) | fail)
   clear GR
   go_loopw [6, 27] (fun v i wr => ∃ r : Nat, r <= t /\ i = .int .i64 r /\ wr.ownsRow w.heap.size 27 1 v (offN N r) (catX X r) /\ St w wr) (fun _ i _ => t - (RowKit.intOf i).toNat)
   case atStart => exact ⟨0, by omega, rfl, hv, fv⟩
   case round =>
    obtain ⟨r, hrt, rfl, hrow, fr⟩ := hrel
    by_cases hlr : r < t
    ·obtain ⟨⟨b, o, rfl, c1⟩, s⟩ := hR r hlr
     have hlr' : (r : Int) < t := by omega
     have ho := offN_le N (show r + 1 <= t by omega)
     obtain ⟨v', w2, hap, hw2, hgr, hloc⟩ := run_more elt_W 128 hrow (s.still fr) (by have : offN N (r + 1) = offN N r + N r := rfl; omega) fr.size
     replace c1 := fr.cell' c1 id
     have f2 : St w w2 := fr.grown hgr (fun k hk => .inr (hrow.lt k hk).1)
     have HX := Hd (ai hw2 f2)
     have HAP := Hd hap
     clear hR s ho hap hw2 hgr hloc f2 hrow hv fv
     go_wp2_with (first | (at_builtin; refine wpList_append_run rfl (.tmp 31) (.tmp 32) 128 rfl _ _ rfl rfl v' w2 (uh HAP) ?_) | fail)
     obtain ⟨hw2, f2⟩ := uh HX
     exact ⟨⟨r + 1, by omega, by simp, hw2, f2⟩, by simp [RowKit.intOf]; omega⟩
    ·have e : r = t := by omega
     subst e
     clear hR
     have hlr' : ¬ (r : Int) < r := by omega
     go_wp2_with fail
     go_ret
     exact ⟨_, rfl, hrow, fr⟩
theorem elt_S : ElT 9 89 1 := elt_of (z := .string ⟨#[]⟩) (bytes := 16) (by kernel_rfl) (by decide) (by decide) (by decide) Tryz.underlying89
set_option maxRecDepth 100000 in
theorem grow_S (n : Nat) (hn : n <= 1000000) (w : World) : Calls Tryz.prog 188 #[.slice none 0 0, .int .i64 n] w fun e w' => ∃ v, e = .returned v /\ w'.ownsRow w.heap.size 9 1 v 0 [] /\ St w w' := by
 by_cases h0 : n = 0
 ·subst h0
  go_enter Tryz.func188, Tryz.ntmps188
  go_wp2
  go_ret
  exact ⟨_, rfl, World.ownsRow_nil _ _ _ _, Fr.refl _ _⟩
 ·obtain ⟨hu, hs0, i, z, hi, hz, hsize, hby, hzs⟩ := elt_S
  have hold : (Builtin.firstCells i.size 0 (.slice none 0 0)).run Tryz.prog w.drew = .ok ([] : List Value).toArray w.drew := run_firstCells_none (P := Tryz.prog) (w := w.drew) i.size 0 0 0
  have hr := Lib.run_append_grow_zeros (P := Tryz.prog) w 89 3 89 9 i z .i64 .i64 hu Tryz.underlying3 hi hz none 0 0 [] hold n (by omega) (by omega) (by omega) (by omega)
   (by have : n * i.bytes <= 1000000 * 32 := Nat.mul_le_mul hn hby; omega) (growslice_fits (by omega) (by have : (0 + n) * i.bytes <= 1000000 * 32 := Nat.mul_le_mul (by omega) hby; omega))
  have hge := grownCap_ge w (0 + n) 0 9
  have hcm : grownCap w (0 + n) 0 9 <= maxLen := grownCap_le_maxLen w (0 + n) 0 9 (by unfold maxLen; omega)
  rw [Nat.zero_add] at hr hge hcm
  generalize grownCap w n 0 9 = G at *
  have hG : G <= 9223372036854775807 := by unfold maxLen at hcm; omega
  have hsz : (([] : List Value).toArray ++ Builtin.zeroCells z.cells n ++ Builtin.zeroCells z.cells (G - n)).size = G * 1 := by
   simp only [Array.size_append, List.size_toArray, size_zeroCells, hzs, List.length_nil, Nat.zero_add, <- Nat.add_mul]
   rw [show n + (G - n) = G by omega]
  generalize ([] : List Value).toArray ++ Builtin.zeroCells z.cells n ++ Builtin.zeroCells z.cells (G - n) = Z at *
  have h0' : (0 : Int) < n := by omega
  have hn' : ¬ (n : Int) < 0 := by omega
  have w1 : IntKind.i64.wrap ((n : Int) - 0) = n := by rw [IntKind.wrap_i64]; omega
  have HC := Hd (ai hcm hsz)
  clear hold hcm hsz hu hs0 hi hz hsize hby hzs
  go_enter Tryz.func188, Tryz.ntmps188
  go_wp2_with (at_builtin; refine Lib.wpList_append_run _ rfl _ _ _ _ rfl _ _ rfl rfl _ _ hr ?_)
  go_ret
  obtain ⟨hcm, hsz⟩ := uh HC
  exact ⟨_, rfl, ⟨rfl, .inr ⟨w.heap.size, G, Z, rfl, Nat.le_refl _, heap_alloc_new w.drew _, Nat.zero_le _, hcm, hsz, by simp⟩⟩, ((Fr.refl (fun _ => False) w).drewN 1).alloc _⟩
set_option maxRecDepth 100000 in
theorem cat_S (a : Option Addr) (k cp : Nat) (A : Nat -> Option Addr) (N C : Nat -> Nat) (X : Nat -> List Value) (w : World) (hR : RowsAt w 1 a k A N C X) (hk : k <= 100) (hl : offN N k <= 1000000) :
  Calls Tryz.prog 162 #[.slice a k cp] w fun e w' => ∃ v, e = .returned v /\ w'.ownsRow w.heap.size 9 1 v (offN N k) (catX X k) /\ St w w' := by
 have GR := grow_S (offN N k) hl w
 go_enter Tryz.func162, Tryz.ntmps162
 go_wp2_with fail
 go_loop [3, 11] (fun s i => ∃ t : Nat, t <= k /\ i = .int .i64 t /\ s = .int .i64 (offN N t)) (fun _ i => k - (RowKit.intOf i).toNat)
 case atStart => exact ⟨0, by omega, rfl, rfl⟩
 case round =>
  obtain ⟨t, htk, rfl, rfl⟩ := hrel
  by_cases hlt : t < k
  ·obtain ⟨⟨b, o, rfl, c1⟩, s⟩ := hR t hlt
   have hlt' : (t : Int) < k := by omega
   have ho := offN_le N (show t + 1 <= k by omega)
   have hs : offN N (t + 1) = offN N t + N t := rfl
   have w1 : IntKind.i64.wrap ((offN N t : Int) + N t) = ((offN N (t + 1) : Nat) : Int) := by rw [IntKind.wrap_i64]; omega
   have hp : ¬ ((offN N (t + 1) : Nat) : Int) < 0 := by omega
   clear hR GR s
   go_wp2_with fail
   exact ⟨⟨t + 1, by omega, by simp, by first | rfl | simp⟩, by simp [RowKit.intOf]; omega⟩
  ·have e : t = k := by omega
   subst e
   have hlt' : ¬ (t : Int) < t := by omega
   go_wp2_with (first | (go_at_call 188; refine GR.mono ?_; rintro e w' ⟨v, rfl, hv, fv⟩) | fail)
   clear GR
   go_loopw [6, 27] (fun v i wr => ∃ r : Nat, r <= t /\ i = .int .i64 r /\ wr.ownsRow w.heap.size 9 1 v (offN N r) (catX X r) /\ St w wr) (fun _ i _ => t - (RowKit.intOf i).toNat)
   case atStart => exact ⟨0, by omega, rfl, hv, fv⟩
   case round =>
    obtain ⟨r, hrt, rfl, hrow, fr⟩ := hrel
    by_cases hlr : r < t
    ·obtain ⟨⟨b, o, rfl, c1⟩, s⟩ := hR r hlr
     have hlr' : (r : Int) < t := by omega
     have ho := offN_le N (show r + 1 <= t by omega)
     obtain ⟨v', w2, hap, hw2, hgr, hloc⟩ := run_more elt_S 89 hrow (s.still fr) (by have : offN N (r + 1) = offN N r + N r := rfl; omega) fr.size
     replace c1 := fr.cell' c1 id
     have f2 : St w w2 := fr.grown hgr (fun k hk => .inr (hrow.lt k hk).1)
     have HX := Hd (ai hw2 f2)
     have HAP := Hd hap
     clear hR s ho hap hw2 hgr hloc f2 hrow hv fv
     go_wp2_with (first | (at_builtin; refine wpList_append_run rfl (.tmp 31) (.tmp 32) 89 rfl _ _ rfl rfl v' w2 (uh HAP) ?_) | fail)
     obtain ⟨hw2, f2⟩ := uh HX
     exact ⟨⟨r + 1, by omega, by simp, hw2, f2⟩, by simp [RowKit.intOf]; omega⟩
    ·have e : r = t := by omega
     subst e
     clear hR
     have hlr' : ¬ (r : Int) < r := by omega
     go_wp2_with fail
     go_ret
     exact ⟨_, rfl, hrow, fr⟩
theorem elt_P : ElT 43 96 2 := elt_of (z := .agg #[.string ⟨#[]⟩, .int .u64 0]) (bytes := 24) (by kernel_rfl) (by decide) (by decide) (by decide) Tryz.underlying96
set_option maxRecDepth 100000 in
theorem grow_P (n : Nat) (hn : n <= 1000000) (w : World) : Calls Tryz.prog 161 #[.slice none 0 0, .int .i64 n] w fun e w' => ∃ v, e = .returned v /\ w'.ownsRow w.heap.size 43 2 v 0 [] /\ St w w' := by
 by_cases h0 : n = 0
 ·subst h0
  go_enter Tryz.func161, Tryz.ntmps161
  go_wp2
  go_ret
  exact ⟨_, rfl, World.ownsRow_nil _ _ _ _, Fr.refl _ _⟩
 ·obtain ⟨hu, hs0, i, z, hi, hz, hsize, hby, hzs⟩ := elt_P
  have hold : (Builtin.firstCells i.size 0 (.slice none 0 0)).run Tryz.prog w.drew = .ok ([] : List Value).toArray w.drew := run_firstCells_none (P := Tryz.prog) (w := w.drew) i.size 0 0 0
  have hr := Lib.run_append_grow_zeros (P := Tryz.prog) w 96 3 96 43 i z .i64 .i64 hu Tryz.underlying3 hi hz none 0 0 [] hold n (by omega) (by omega) (by omega) (by omega)
   (by have : n * i.bytes <= 1000000 * 32 := Nat.mul_le_mul hn hby; omega) (growslice_fits (by omega) (by have : (0 + n) * i.bytes <= 1000000 * 32 := Nat.mul_le_mul (by omega) hby; omega))
  have hge := grownCap_ge w (0 + n) 0 43
  have hcm : grownCap w (0 + n) 0 43 <= maxLen := grownCap_le_maxLen w (0 + n) 0 43 (by unfold maxLen; omega)
  rw [Nat.zero_add] at hr hge hcm
  generalize grownCap w n 0 43 = G at *
  have hG : G <= 9223372036854775807 := by unfold maxLen at hcm; omega
  have hsz : (([] : List Value).toArray ++ Builtin.zeroCells z.cells n ++ Builtin.zeroCells z.cells (G - n)).size = G * 2 := by
   simp only [Array.size_append, List.size_toArray, size_zeroCells, hzs, List.length_nil, Nat.zero_add, <- Nat.add_mul]
   rw [show n + (G - n) = G by omega]
  generalize ([] : List Value).toArray ++ Builtin.zeroCells z.cells n ++ Builtin.zeroCells z.cells (G - n) = Z at *
  have h0' : (0 : Int) < n := by omega
  have hn' : ¬ (n : Int) < 0 := by omega
  have w1 : IntKind.i64.wrap ((n : Int) - 0) = n := by rw [IntKind.wrap_i64]; omega
  have HC := Hd (ai hcm hsz)
  clear hold hcm hsz hu hs0 hi hz hsize hby hzs
  go_enter Tryz.func161, Tryz.ntmps161
  go_wp2_with (at_builtin; refine Lib.wpList_append_run _ rfl _ _ _ _ rfl _ _ rfl rfl _ _ hr ?_)
  go_ret
  obtain ⟨hcm, hsz⟩ := uh HC
  exact ⟨_, rfl, ⟨rfl, .inr ⟨w.heap.size, G, Z, rfl, Nat.le_refl _, heap_alloc_new w.drew _, Nat.zero_le _, hcm, hsz, by simp⟩⟩, ((Fr.refl (fun _ => False) w).drewN 1).alloc _⟩
set_option maxRecDepth 100000 in
theorem cat_P (a : Option Addr) (k cp : Nat) (A : Nat -> Option Addr) (N C : Nat -> Nat) (X : Nat -> List Value) (w : World) (hR : RowsAt w 2 a k A N C X) (hk : k <= 100) (hl : offN N k <= 1000000) :
  Calls Tryz.prog 129 #[.slice a k cp] w fun e w' => ∃ v, e = .returned v /\ w'.ownsRow w.heap.size 43 2 v (offN N k) (catX X k) /\ St w w' := by
 have GR := grow_P (offN N k) hl w
 go_enter Tryz.func129, Tryz.ntmps129
 go_wp2_with fail
 go_loop [3, 11] (fun s i => ∃ t : Nat, t <= k /\ i = .int .i64 t /\ s = .int .i64 (offN N t)) (fun _ i => k - (RowKit.intOf i).toNat)
 case atStart => exact ⟨0, by omega, rfl, rfl⟩
 case round =>
  obtain ⟨t, htk, rfl, rfl⟩ := hrel
  by_cases hlt : t < k
  ·obtain ⟨⟨b, o, rfl, c1⟩, s⟩ := hR t hlt
   have hlt' : (t : Int) < k := by omega
   have ho := offN_le N (show t + 1 <= k by omega)
   have hs : offN N (t + 1) = offN N t + N t := rfl
   have w1 : IntKind.i64.wrap ((offN N t : Int) + N t) = ((offN N (t + 1) : Nat) : Int) := by rw [IntKind.wrap_i64]; omega
   have hp : ¬ ((offN N (t + 1) : Nat) : Int) < 0 := by omega
   clear hR GR s
   go_wp2_with fail
   exact ⟨⟨t + 1, by omega, by simp, by first | rfl | simp⟩, by simp [RowKit.intOf]; omega⟩
  ·have e : t = k := by omega
   subst e
   have hlt' : ¬ (t : Int) < t := by omega
   go_wp2_with (first | (go_at_call 161; refine GR.mono ?_; rintro e w' ⟨v, rfl, hv, fv⟩) | fail)
   clear GR
   go_loopw [6, 27] (fun v i wr => ∃ r : Nat, r <= t /\ i = .int .i64 r /\ wr.ownsRow w.heap.size 43 2 v (offN N r) (catX X r) /\ St w wr) (fun _ i _ => t - (RowKit.intOf i).toNat)
   case atStart => exact ⟨0, by omega, rfl, hv, fv⟩
   case round =>
    obtain ⟨r, hrt, rfl, hrow, fr⟩ := hrel
    by_cases hlr : r < t
    ·obtain ⟨⟨b, o, rfl, c1⟩, s⟩ := hR r hlr
     have hlr' : (r : Int) < t := by omega
     have ho := offN_le N (show r + 1 <= t by omega)
     obtain ⟨v', w2, hap, hw2, hgr, hloc⟩ := run_more elt_P 96 hrow (s.still fr) (by have : offN N (r + 1) = offN N r + N r := rfl; omega) fr.size
     replace c1 := fr.cell' c1 id
     have f2 : St w w2 := fr.grown hgr (fun k hk => .inr (hrow.lt k hk).1)
     have HX := Hd (ai hw2 f2)
     have HAP := Hd hap
     clear hR s ho hap hw2 hgr hloc f2 hrow hv fv
     go_wp2_with (first | (at_builtin; refine wpList_append_run rfl (.tmp 31) (.tmp 32) 96 rfl _ _ rfl rfl v' w2 (uh HAP) ?_) | fail)
     obtain ⟨hw2, f2⟩ := uh HX
     exact ⟨⟨r + 1, by omega, by simp, hw2, f2⟩, by simp [RowKit.intOf]; omega⟩
    ·have e : r = t := by omega
     subst e
     clear hR
     have hlr' : ¬ (r : Int) < r := by omega
     go_wp2_with fail
     go_ret
     exact ⟨_, rfl, hrow, fr⟩
theorem elt_K : ElT 131 90 2 := elt_of (z := .agg #[.int .u64 0, .int .i64 0]) (bytes := 16) (by kernel_rfl) (by decide) (by decide) (by decide) Tryz.underlying90
set_option maxRecDepth 100000 in
theorem grow_K (n : Nat) (hn : n <= 1000000) (w : World) : Calls Tryz.prog 189 #[.slice none 0 0, .int .i64 n] w fun e w' => ∃ v, e = .returned v /\ w'.ownsRow w.heap.size 131 2 v 0 [] /\ St w w' := by
 by_cases h0 : n = 0
 ·subst h0
  go_enter Tryz.func189, Tryz.ntmps189
  go_wp2
  go_ret
  exact ⟨_, rfl, World.ownsRow_nil _ _ _ _, Fr.refl _ _⟩
 ·obtain ⟨hu, hs0, i, z, hi, hz, hsize, hby, hzs⟩ := elt_K
  have hold : (Builtin.firstCells i.size 0 (.slice none 0 0)).run Tryz.prog w.drew = .ok ([] : List Value).toArray w.drew := run_firstCells_none (P := Tryz.prog) (w := w.drew) i.size 0 0 0
  have hr := Lib.run_append_grow_zeros (P := Tryz.prog) w 90 3 90 131 i z .i64 .i64 hu Tryz.underlying3 hi hz none 0 0 [] hold n (by omega) (by omega) (by omega) (by omega)
   (by have : n * i.bytes <= 1000000 * 32 := Nat.mul_le_mul hn hby; omega) (growslice_fits (by omega) (by have : (0 + n) * i.bytes <= 1000000 * 32 := Nat.mul_le_mul (by omega) hby; omega))
  have hge := grownCap_ge w (0 + n) 0 131
  have hcm : grownCap w (0 + n) 0 131 <= maxLen := grownCap_le_maxLen w (0 + n) 0 131 (by unfold maxLen; omega)
  rw [Nat.zero_add] at hr hge hcm
  generalize grownCap w n 0 131 = G at *
  have hG : G <= 9223372036854775807 := by unfold maxLen at hcm; omega
  have hsz : (([] : List Value).toArray ++ Builtin.zeroCells z.cells n ++ Builtin.zeroCells z.cells (G - n)).size = G * 2 := by
   simp only [Array.size_append, List.size_toArray, size_zeroCells, hzs, List.length_nil, Nat.zero_add, <- Nat.add_mul]
   rw [show n + (G - n) = G by omega]
  generalize ([] : List Value).toArray ++ Builtin.zeroCells z.cells n ++ Builtin.zeroCells z.cells (G - n) = Z at *
  have h0' : (0 : Int) < n := by omega
  have hn' : ¬ (n : Int) < 0 := by omega
  have w1 : IntKind.i64.wrap ((n : Int) - 0) = n := by rw [IntKind.wrap_i64]; omega
  have HC := Hd (ai hcm hsz)
  clear hold hcm hsz hu hs0 hi hz hsize hby hzs
  go_enter Tryz.func189, Tryz.ntmps189
  go_wp2_with (at_builtin; refine Lib.wpList_append_run _ rfl _ _ _ _ rfl _ _ rfl rfl _ _ hr ?_)
  go_ret
  obtain ⟨hcm, hsz⟩ := uh HC
  exact ⟨_, rfl, ⟨rfl, .inr ⟨w.heap.size, G, Z, rfl, Nat.le_refl _, heap_alloc_new w.drew _, Nat.zero_le _, hcm, hsz, by simp⟩⟩, ((Fr.refl (fun _ => False) w).drewN 1).alloc _⟩
set_option maxRecDepth 100000 in
theorem cat_K (a : Option Addr) (k cp : Nat) (A : Nat -> Option Addr) (N C : Nat -> Nat) (X : Nat -> List Value) (w : World) (hR : RowsAt w 2 a k A N C X) (hk : k <= 100) (hl : offN N k <= 1000000) :
  Calls Tryz.prog 163 #[.slice a k cp] w fun e w' => ∃ v, e = .returned v /\ w'.ownsRow w.heap.size 131 2 v (offN N k) (catX X k) /\ St w w' := by
 have GR := grow_K (offN N k) hl w
 go_enter Tryz.func163, Tryz.ntmps163
 go_wp2_with fail
 go_loop [3, 11] (fun s i => ∃ t : Nat, t <= k /\ i = .int .i64 t /\ s = .int .i64 (offN N t)) (fun _ i => k - (RowKit.intOf i).toNat)
 case atStart => exact ⟨0, by omega, rfl, rfl⟩
 case round =>
  obtain ⟨t, htk, rfl, rfl⟩ := hrel
  by_cases hlt : t < k
  ·obtain ⟨⟨b, o, rfl, c1⟩, s⟩ := hR t hlt
   have hlt' : (t : Int) < k := by omega
   have ho := offN_le N (show t + 1 <= k by omega)
   have hs : offN N (t + 1) = offN N t + N t := rfl
   have w1 : IntKind.i64.wrap ((offN N t : Int) + N t) = ((offN N (t + 1) : Nat) : Int) := by rw [IntKind.wrap_i64]; omega
   have hp : ¬ ((offN N (t + 1) : Nat) : Int) < 0 := by omega
   clear hR GR s
   go_wp2_with fail
   exact ⟨⟨t + 1, by omega, by simp, by first | rfl | simp⟩, by simp [RowKit.intOf]; omega⟩
  ·have e : t = k := by omega
   subst e
   have hlt' : ¬ (t : Int) < t := by omega
   go_wp2_with (first | (go_at_call 189; refine GR.mono ?_; rintro e w' ⟨v, rfl, hv, fv⟩) | fail)
   clear GR
   go_loopw [6, 27] (fun v i wr => ∃ r : Nat, r <= t /\ i = .int .i64 r /\ wr.ownsRow w.heap.size 131 2 v (offN N r) (catX X r) /\ St w wr) (fun _ i _ => t - (RowKit.intOf i).toNat)
   case atStart => exact ⟨0, by omega, rfl, hv, fv⟩
   case round =>
    obtain ⟨r, hrt, rfl, hrow, fr⟩ := hrel
    by_cases hlr : r < t
    ·obtain ⟨⟨b, o, rfl, c1⟩, s⟩ := hR r hlr
     have hlr' : (r : Int) < t := by omega
     have ho := offN_le N (show r + 1 <= t by omega)
     obtain ⟨v', w2, hap, hw2, hgr, hloc⟩ := run_more elt_K 90 hrow (s.still fr) (by have : offN N (r + 1) = offN N r + N r := rfl; omega) fr.size
     replace c1 := fr.cell' c1 id
     have f2 : St w w2 := fr.grown hgr (fun k hk => .inr (hrow.lt k hk).1)
     have HX := Hd (ai hw2 f2)
     have HAP := Hd hap
     clear hR s ho hap hw2 hgr hloc f2 hrow hv fv
     go_wp2_with (first | (at_builtin; refine wpList_append_run rfl (.tmp 31) (.tmp 32) 90 rfl _ _ rfl rfl v' w2 (uh HAP) ?_) | fail)
     obtain ⟨hw2, f2⟩ := uh HX
     exact ⟨⟨r + 1, by omega, by simp, hw2, f2⟩, by simp [RowKit.intOf]; omega⟩
    ·have e : r = t := by omega
     subst e
     clear hR
     have hlr' : ¬ (r : Int) < r := by omega
     go_wp2_with fail
     go_ret
     exact ⟨_, rfl, hrow, fr⟩
end Go.Proofs.YtbpndmghlnadiaaGreatDoor
