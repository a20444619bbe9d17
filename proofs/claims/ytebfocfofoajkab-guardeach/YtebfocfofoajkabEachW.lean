/- GuardEach, walked. -/
import Derived.Test.YtebfocfofoajkabEachW0
import Derived.Test.YtebfocfofoajkabEnds
import Derived.OwnWalk
import Derived.Laws.OwnMore
import Derived.Laws.EntriesVeiled
namespace Go.Proofs.Ytebfocfofoajkab
open Go.RowKit

/-- The acts that came in: element k lies at o + k * 3 of its block. -/
def ActsAt (w : World) (a : Option Addr) (len : Nat) (ds : Nat → Deed) : Prop :=
  ∀ k, k < len → ∃ b o, a = some ⟨b, o, none⟩ ∧ b < w.heap.size ∧ w.cell? ⟨b, o + k * 3, none⟩ = some (.int .i64 (ds k).kind) ∧ w.cell? ⟨b, o + k * 3 + 1, none⟩ = some (.int .i64 (ds k).n) ∧ w.cell? ⟨b, o + k * 3 + 2, none⟩ = some (.string (ds k).s)

/-- The first bad one among the first k; k where there is none. -/
def firstBad (ds : Nat → Deed) : Nat → Nat
  | 0 => 0
  | k + 1 => if firstBad ds k < k then firstBad ds k else if (ds k).bad then k else k + 1

theorem firstBad_le (ds : Nat → Deed) : ∀ k, firstBad ds k ≤ k
  | 0 => Nat.le_refl _
  | k + 1 => by have := firstBad_le ds k; simp only [firstBad]; split <;> (try split) <;> omega
theorem firstBad_good (ds : Nat → Deed) : ∀ k j, j < firstBad ds k → (ds j).bad = false
  | 0, j, h => absurd h (Nat.not_lt_zero _)
  | k + 1, j, h => by
    have ih := firstBad_good ds k j
    have le := firstBad_le ds k
    simp only [firstBad] at h
    split at h
    · exact ih h
    · split at h
      · exact ih (by omega)
      · rcases Nat.lt_or_ge j k with hj | hj
        · exact ih (by omega)
        · obtain rfl : j = k := by omega
          simpa using ‹¬ (ds j).bad = true›
theorem firstBad_bad (ds : Nat → Deed) : ∀ k, firstBad ds k < k → (ds (firstBad ds k)).bad = true
  | 0, h => absurd h (Nat.not_lt_zero _)
  | k + 1, h => by
    have ih := firstBad_bad ds k
    simp only [firstBad] at h ⊢
    split
    · rename_i h1; exact ih h1
    · split
      · assumption
      · rename_i h1 h2; simp only [if_neg h1, if_neg h2] at h; omega

/-- Nothing at all: what stop is at first. -/
def noDeed : Deed := ⟨0, 0, ByteArray.empty⟩
/-- What stop is behind k. -/
def stopAt (ds : Nat → Deed) (k : Nat) : Deed := if firstBad ds k < k then ds (firstBad ds k) else noDeed

theorem owns_fr {w w' : World} {base size n : Nat} {e : TypeId} {v : Value} {xs : List Value} {F : Nat → Prop} (h : w.ownsRow base e size v n xs) (f : Fr F w w') (hF : ∀ g, v.ownBlock = some g → ¬ F g) : w'.ownsRow base e size v n xs := by
  refine ⟨h.1, ?_⟩
  rcases h.2 with h | ⟨g, cap, cur, hv, hb, hg, rest⟩
  · exact .inl h
  · exact .inr ⟨g, cap, cur, hv, hb, f.obj hg (hF g (by rw [hv]; rfl)), rest⟩

theorem info1 : (Try.prog.info? 1).map (fun i => (i.zero, i.size, i.bytes)) = some (some .nilFunc, 1, 8) := by kernel_rfl

/-- The function values, one an act. -/
def fvals (pn pa : Nat → Nat) (k : Nat) : List Value := (List.range k).map fun j => deedF (pn j) (pa j)

theorem fvals_push (pn pa : Nat → Nat) (k x y : Nat) : fvals (fun j => if j = k then x else pn j) (fun j => if j = k then y else pa j) (k + 1) = fvals pn pa k ++ [deedF x y] := by
  simp only [fvals, List.range_succ, List.map_append, List.map_cons, List.map_nil, if_true]
  congr 1
  refine List.map_congr_left fun j hj => ?_
  have : j ≠ k := by have := List.mem_range.1 hj; omega
  simp [this]

/-- What the law's loop has laid behind k acts: the counter at s, stop at s + 1, the row of function values. -/
structure ESt (w : World) (ds : Nat → Deed) (k : Nat) (q : Deed) (sv : Value) (pn pa : Nat → Nat) (wr : World) : Prop where
  fr : Still w wr
  sz : w.heap.size + 2 ≤ wr.heap.size
  oc : wr.heap[w.heap.size]? = some (.cells #[.int .i64 0] 3)
  os : wr.heap[w.heap.size + 1]? = some q.obj
  own : wr.ownsRow (w.heap.size + 2) 1 1 sv k (fvals pn pa k)
  lies : ∀ j, j < k → Lies (ds j) (pn j) (pa j) w.heap.size 0 wr ∧ w.heap.size + 2 ≤ pn j ∧ w.heap.size + 2 ≤ pa j

section
variable {w : World} {ds : Nat → Deed} {k : Nat} {q : Deed} {sv : Value} {pn pa : Nat → Nat} {wr w' : World}
theorem ESt.keep (h : ESt w ds k q sv pn pa wr) (f : Still wr w') : ESt w ds k q sv pn pa w' :=
  ⟨h.fr.trans f, Nat.le_trans h.sz f.size, f.obj h.oc (fun h => h), f.obj h.os (fun h => h), owns_fr h.own f (fun _ _ h => h), fun j hj => ⟨(h.lies j hj).1.keep f (fun h => h) (fun h => h) (fun h => h), (h.lies j hj).2⟩⟩

/-- An act stored over another one. -/
abbrev set3 (w : World) (q : Nat) (b : Deed) : World := ((w.setCell ⟨q, 0, none⟩ (.int .i64 b.kind)).setCell ⟨q, 1, none⟩ (.int .i64 b.n)).setCell ⟨q, 2, none⟩ (.string b.s)
theorem set_deed {w : World} {q : Nat} {a : Deed} (b : Deed) (h : w.heap[q]? = some a.obj) : (set3 w q b).heap[q]? = some b.obj := by
  have h1 := heap_setCell_same w q 0 _ 25 (.int .i64 b.kind) h
  have h2 := heap_setCell_same _ q 1 _ 25 (.int .i64 b.n) h1
  have h3 := heap_setCell_same _ q 2 _ 25 (.string b.s) h2
  simpa using h3
theorem set_fr (w : World) (q : Nat) (b : Deed) : Fr (fun k => k = q) w (set3 w q b) := (((Fr.refl (fun k => k = q) w).setCell (.inl rfl) _).setCell (.inl rfl) _).setCell (.inl rfl) _

theorem ESt.stop (h : ESt w ds k q sv pn pa wr) (q' : Deed) : ESt w ds k q' sv pn pa (set3 wr (w.heap.size + 1) q') := by
  have f := set_fr wr (w.heap.size + 1) q'
  refine ⟨h.fr.trans' f (fun k e => .inr (by omega)), Nat.le_trans h.sz f.size, f.obj h.oc (by omega), set_deed q' h.os, owns_fr h.own f (fun g hg e => ?_), fun j hj => ?_⟩
  · have := (h.own.lt g hg).1; omega
  · obtain ⟨l, h1, h2⟩ := h.lies j hj
    exact ⟨l.keep f (by omega) (by omega) (by omega), h1, h2⟩

theorem ESt.push (h : ESt w ds k q sv pn pa wr) {x y : Nat} {sv' : Value} (l : Lies (ds k) x y w.heap.size 0 wr) (hx : w.heap.size + 2 ≤ x) (hy : w.heap.size + 2 ≤ y)
    (own : w'.ownsRow (w.heap.size + 2) 1 1 sv' (k + 1) (fvals pn pa k ++ [deedF x y])) (gr : wr.grownBy w' sv.ownBlock) :
    ESt w ds (k + 1) q sv' (fun j => if j = k then x else pn j) (fun j => if j = k then y else pa j) w' := by
  have f : Fr (fun j => some j = sv.ownBlock) wr w' := ⟨gr.os, gr.tape, gr.output, gr.size, fun j hj hn => gr.block j hj hn⟩
  have ge : ∀ j, some j = sv.ownBlock → w.heap.size + 2 ≤ j := fun j e => (h.own.lt j e.symm).1
  have kind : ∀ j, some j = sv.ownBlock → ∃ cur, wr.heap[j]? = some (.cells cur 1) := by
    intro j e
    rcases h.own.2 with ⟨hv, _⟩ | ⟨g, cap, cur, hv, _, hg, _⟩
    · rw [hv] at e; cases e
    · rw [hv] at e; cases e; exact ⟨cur, hg⟩
  have keep : ∀ {d : Deed} {x y : Nat}, Lies d x y w.heap.size 0 wr → Lies d x y w.heap.size 0 w' := fun {d x y} l =>
    l.keep f (fun e => by obtain ⟨cur, hc⟩ := kind _ e; rw [l.ha] at hc; simp at hc) (fun e => by obtain ⟨cur, hc⟩ := kind _ e; rw [l.hn] at hc; simp at hc) (fun e => by have := ge _ e; omega)
  refine ⟨h.fr.trans' f (fun j e => .inr (by have := ge j e; omega)), Nat.le_trans h.sz f.size, f.obj h.oc (fun e => by have := ge _ e; omega), f.obj h.os (fun e => by have := ge _ e; omega), ?_, fun j hj => ?_⟩
  · rw [fvals_push]; exact own
  · by_cases e : j = k
    · subst e; simp only [if_true]; exact ⟨keep l, hx, hy⟩
    · simp only [if_neg e]
      obtain ⟨l', h1, h2⟩ := h.lies j (by omega)
      exact ⟨keep l', h1, h2⟩
end

theorem laid_each (ds : Nat → Deed) (w : World) : ESt w ds 0 noDeed (.slice none 0 0) (fun _ => 0) (fun _ => 0) ((w.alloc (.cells #[.int .i64 0] 3)).alloc noDeed.obj) := by
  have f2 : Still (w.alloc (.cells #[.int .i64 0] 3)) ((w.alloc (.cells #[.int .i64 0] 3)).alloc noDeed.obj) := (Fr.refl _ _).alloc _
  refine ⟨((Fr.refl _ w).alloc _).trans f2, by simp, f2.obj (obj_alloc_new w _) (fun h => h), ?_, World.ownsRow_nil _ _ _ _, fun j hj => absurd hj (Nat.not_lt_zero _)⟩
  have := obj_alloc_new (w.alloc (.cells #[.int .i64 0] 3)) noDeed.obj
  rwa [World.size_alloc] at this

theorem firstBad_next (ds : Nat → Deed) (k : Nat) (h : firstBad ds k < k) : firstBad ds (k + 1) = firstBad ds k ∧ stopAt ds (k + 1) = stopAt ds k := by
  have e : firstBad ds (k + 1) = firstBad ds k := by simp only [firstBad, if_pos h]
  refine ⟨e, ?_⟩
  simp only [stopAt, e, if_pos h, if_pos (show firstBad ds k < k + 1 by omega)]
theorem firstBad_here (ds : Nat → Deed) (k : Nat) (h : ¬ firstBad ds k < k) (hb : (ds k).bad = true) : firstBad ds (k + 1) = k ∧ stopAt ds (k + 1) = ds k := by
  have e : firstBad ds (k + 1) = k := by simp only [firstBad, if_neg h, if_pos hb]
  refine ⟨e, ?_⟩
  simp only [stopAt, e, if_pos (show k < k + 1 by omega)]
theorem firstBad_none (ds : Nat → Deed) (k : Nat) (h : ¬ firstBad ds k < k) (hb : (ds k).bad = false) : firstBad ds (k + 1) = k + 1 ∧ stopAt ds (k + 1) = noDeed := by
  have e : firstBad ds (k + 1) = k + 1 := by simp [firstBad, if_neg h, hb]
  refine ⟨e, ?_⟩
  simp only [stopAt, e, if_neg (show ¬ k + 1 < k + 1 by omega)]
theorem stop_bad (ds : Nat → Deed) (k : Nat) : (stopAt ds k).bad = decide (firstBad ds k < k) := by
  by_cases h : firstBad ds k < k
  · simp [stopAt, h, firstBad_bad ds k h]
  · simp [stopAt, h, noDeed, Deed.bad]

theorem fvals_get (pn pa : Nat → Nat) (k j : Nat) (h : j < k) : (fvals pn pa k)[j]? = some (deedF (pn j) (pa j)) := by
  simp [fvals, h]

theorem firstBad_is (ds : Nat → Deed) (k j : Nat) (hj : j ≤ k) (h1 : ∀ i, i < j → (ds i).bad = false) (h2 : j = k ∨ (ds j).bad = true) : firstBad ds k = j := by
  have le := firstBad_le ds k
  rcases Nat.lt_trichotomy (firstBad ds k) j with h | h | h
  · have := firstBad_bad ds k (by omega)
    rw [h1 _ h] at this; cases this
  · exact h
  · rcases h2 with rfl | h2
    · omega
    · have := firstBad_good ds k j h
      rw [h2] at this; cases this

/-- What Each told: how the first bad act panicked; nothing, where there is none. -/
def Told (ds : Nat → Deed) (k : Nat) (h : How) (w : World) : Prop := (firstBad ds k < k ∧ (ds (firstBad ds k)).tells 0 h w) ∨ (firstBad ds k = k ∧ h = .well)
/-- How many were called. -/
def calledN (ds : Nat → Deed) (k : Nat) : Nat := if firstBad ds k < k then firstBad ds k + 1 else firstBad ds k

theorem each_deeds {w : World} {ds : Nat → Deed} {k : Nat} {q : Deed} {sv : Value} {pn pa : Nat → Nat} {wr : World} (h : ESt w ds k q sv pn pa wr) (hk : k ≤ 30) :
    Calls Try.prog 8 #[sv] wr fun e w' => ∃ g : How, e = .returned (.tuple #[.int .i64 (firstBad ds k), g.v]) ∧ Still w w' ∧ w'.heap[w.heap.size + 1]? = some q.obj ∧ w'.heap[w.heap.size]? = some (.cells #[.int .i64 (calledN ds k)] 3) ∧ Told ds k g w' := by
  rcases h.own.2 with ⟨rfl, rfl⟩ | ⟨g, cap, cur, rfl, hg, hb, hc, hm, hs, ht⟩
  · refine (each_nil wr).mono ?_
    rintro e w' ⟨rfl, rfl⟩
    exact ⟨.well, rfl, h.fr, h.os, h.oc, .inr ⟨rfl, rfl⟩⟩
  · have cells : ∀ j, j < k → wr.cell? ⟨g, 0 + j, none⟩ = some (deedF (pn j) (pa j)) := by
      intro j hj
      rw [Nat.zero_add, h.own.cellAt j (by omega)]
      exact fvals_get pn pa k j hj
    have sz := h.sz
    refine (each_ok (fs := fun j => deedF (pn j) (pa j)) (cap := cap)
      (I := fun j w' => Fr (fun b => b = w.heap.size) wr w' ∧ w'.heap[w.heap.size]? = some (.cells #[.int .i64 j] 3) ∧ ∀ i, i < j → (ds i).bad = false)
      (S := fun j g w' => Fr (fun b => b = w.heap.size) wr w' ∧ w'.heap[w.heap.size]? = some (.cells #[.int .i64 ((j : Int) + 1)] 3) ∧ (∀ i, i < j → (ds i).bad = false) ∧ (ds j).bad = true ∧ (ds j).tells 0 g w')
      (by omega) (fun j w' hj ⟨f, _, _⟩ => f.cell' (cells j hj) (by show g ≠ _; omega)) ?_ ⟨Fr.refl _ _, h.oc, fun i hi => absurd hi (Nat.not_lt_zero _)⟩).mono ?_
    · rintro j w' hj ⟨f, hcj, hgood⟩
      obtain ⟨l, h1, h2⟩ := h.lies j hj
      have l' : Lies (ds j) (pn j) (pa j) w.heap.size j w' := ⟨f.obj l.ha l.ac, f.obj l.hn l.nc, hcj, by omega, l.ac, l.nc⟩
      refine (try_deed l').mono ?_
      rintro e w2 ⟨g2, rfl, f2, c2, t2⟩
      refine ⟨g2, rfl, ?_⟩
      have hi := t2.is
      cases hbj : (ds j).bad
      · rw [hbj] at hi
        cases g2 using How.byCases with
        | bad t x => cases hi
        | well =>
          refine .inl ⟨rfl, f.trans f2, by rw [c2]; simp, fun i hi => ?_⟩
          rcases Nat.lt_succ_iff_lt_or_eq.1 hi with hi | rfl
          · exact hgood i hi
          · exact hbj
      · rw [hbj] at hi
        exact .inr ⟨hi, f.trans f2, c2, hgood, rfl, t2.mono (Nat.zero_le _)⟩
    · rintro e w' (⟨rfl, f, hck, hgood⟩ | ⟨j, g2, hj, rfl, f, hcj, hgood, hbad, ht⟩)
      · have e1 : firstBad ds k = k := firstBad_is ds k k (Nat.le_refl _) hgood (.inl rfl)
        refine ⟨.well, by rw [e1]; rfl, h.fr.trans' f (fun b e => .inr (by omega)), f.obj h.os (by omega), ?_, .inr ⟨e1, rfl⟩⟩
        rw [hck]; simp [calledN, e1]
      · have e1 : firstBad ds k = j := firstBad_is ds k j (by omega) hgood (.inr hbad)
        refine ⟨g2, by rw [e1], h.fr.trans' f (fun b e => .inr (by omega)), f.obj h.os (by omega), ?_, .inl ⟨by omega, by rw [e1]; exact ht⟩⟩
        rw [hcj]; simp [calledN, e1, hj]

set_option maxHeartbeats 8000000 in
theorem each_walk (a0 : Option Addr) (len cap : Nat) (ds : Nat → Deed) (w : World) (hA : ActsAt w a0 len ds) (hlen : len ≤ maxLen) :
    Calls Try.prog 3 #[.slice a0 len cap] w fun e w' => e = .returned (.bool true) ∧ Still w w' := by
  have hi := info1
  obtain ⟨i0, hi0⟩ : ∃ i, Try.prog.info? 1 = some i := by
    cases h : Try.prog.info? 1 with
    | none => rw [h] at hi; simp at hi
    | some i => exact ⟨i, rfl⟩
  rw [hi0] at hi
  simp only [Option.map_some, Option.some.injEq, Prod.mk.injEq] at hi
  have HI := hide (And.intro hi0 hi)
  have HA := hide hA
  have E0 := hide (laid_each ds w)
  have hlen' : (len : Int) ≤ 9223372036854775807 := by simp only [maxLen] at hlen; omega
  clear hi hi0 hA hlen
  go_enter Try.func3, Try.ntmps3
  go_wp2
  go_loopw [3, 5, 7] (fun f wt i wr => ∃ (k : Nat) (pn pa : Nat → Nat), k ≤ len ∧ k ≤ 30 ∧ i = .int .i64 k ∧ wt = .int .i64 (firstBad ds k) ∧ ESt w ds k (stopAt ds k) f pn pa wr) (fun f wt i wr => 30 - (intOf i).toNat)
  case atStart => exact ⟨0, _, _, Nat.zero_le _, Nat.zero_le _, rfl, rfl, unhide E0⟩
  case round =>
    obtain ⟨k, pn, pa, hk, hk30, rfl, rfl, hE⟩ := hrel
    by_cases hlt : k < len ∧ k < 30
    · obtain ⟨hl1, hl2⟩ := hlt
      have hl1' : (k : Int) < len := by omega
      have hl2' : (k : Int) < 30 := by omega
      obtain ⟨b, o, rfl, hb, x0, x1, x2⟩ := unhide HA k hl1
      have y0 := hE.fr.cell' x0 (fun h => h); have y1 := hE.fr.cell' x1 (fun h => h); have y2 := hE.fr.cell' x2 (fun h => h)
      have K1 := hide (does_lies (ds k) hE.oc (by omega))
      have HE := hide hE
      clear hE
      go_wp2_with fail
      refine (unhide K1).mono ?_
      rintro e w1 ⟨x, y, rfl, f1, l1, hx, hy⟩
      have hE := unhide HE
      have sz := hE.sz
      have f2 : Still w1 (w1.alloc (.cells #[deedF x y] 1)) := (Fr.refl _ w1).alloc _
      have hE2 := hE.keep (f1.trans f2)
      have l2 := l1.keep f2 (fun h => h) (fun h => h) (fun h => h)
      have OWN := hide hE2.own
      have HE2 := hide hE2; have L2 := hide l2
      have fl : (fvals pn pa k).length = k := by simp [fvals]
      generalize hfv : fvals pn pa k = vals at OWN fl
      have HFV := hide hfv
      have s1 := f1.size
      clear K1 HE hE hE2 l1 l2 f1 f2 hfv y0 y1 y2
      go_wp2_with (at_builtin; refine wpList_append_own _ rfl _ _ 23 rfl (w.heap.size + 2) 1 i0 .nilFunc 1 8 Try.underlying23 (unhide HI).1 (unhide HI).2.1 (unhide HI).2.2.1 (unhide HI).2.2.2 rfl (by decide) _ k vals rfl (unhide OWN) _ 1 1 [deedF x y] rfl rfl ?c1 ?c2 ?c3 ?c4 ?c5 ?_)
      case c1 => exact cell_one_new _ _ _
      case c2 => intro u hu; simp at hu; subst hu; rfl
      case c3 => unfold maxLen; omega
      case c4 => omega
      case c5 => simp; omega
      intro v' w2 hown' hgrow' _
      have E3 := (unhide HE2).push (unhide L2) (by omega) (by omega) (by rw [unhide HFV]; exact hown') hgrow'
      have z2 := deed_cells E3.os
      obtain ⟨z0, z1, z2⟩ := z2
      have hE3 := hide E3
      generalize (fun j => if j = k then x else pn j) = pn' at hE3
      generalize (fun j => if j = k then y else pa j) = pa' at hE3
      have K2 := bad_ok (stopAt ds k) w2
      rw [stop_bad] at K2
      have y0 := E3.fr.cell' x0 (fun h => h); have y1 := E3.fr.cell' x1 (fun h => h); have y2 := E3.fr.cell' x2 (fun h => h)
      clear E3 hown' hgrow' OWN HE2 L2 HFV
      by_cases hfb : firstBad ds k < k
      · rw [decide_eq_true hfb] at K2
        have HK2 := hide K2; have HFB := hide hfb
        clear K2 hfb
        go_wp2_with fail
        refine (unhide HK2).mono ?_
        rintro e w3 ⟨rfl, f3⟩
        have E4 := hide ((unhide hE3).keep f3)
        clear HK2 hE3 f3 z0 z1 z2 y0 y1 y2
        go_wp2
        go_roundw
        case rel =>
          obtain ⟨q1, q2⟩ := firstBad_next ds k (unhide HFB)
          exact ⟨k + 1, pn', pa', by omega, by omega, by go_num, by rw [q1], by rw [q2]; exact unhide E4⟩
        case measure => simp [intOf]; omega
      · rw [decide_eq_false hfb] at K2
        have HK2 := hide K2; have HFB := hide hfb
        have hfk : firstBad ds k = k := by have := firstBad_le ds k; omega
        clear K2 hfb
        go_wp2_with fail
        refine (unhide HK2).mono ?_
        rintro e w3 ⟨rfl, f3⟩
        have E4 := (unhide hE3).keep f3
        have u0 := E4.fr.cell' x0 (fun h => h); have u1 := E4.fr.cell' x1 (fun h => h); have u2 := E4.fr.cell' x2 (fun h => h)
        have HE4 := hide E4
        have K3 := bad_ok (ds k) w3
        clear HK2 hE3 f3 z0 z1 z2 y0 y1 y2 E4
        cases hb : (ds k).bad
        · rw [hb] at K3
          have HK3 := hide K3; have HB := hide hb
          clear K3 hb
          go_wp2_with fail
          refine (unhide HK3).mono ?_
          rintro e w4 ⟨rfl, f4⟩
          have E5 := hide ((unhide HE4).keep f4)
          clear HK3 HE4 f4 u0 u1 u2
          go_wp2
          go_roundw
          case rel =>
            obtain ⟨q1, q2⟩ := firstBad_none ds k (unhide HFB) (unhide HB)
            have e := unhide E5
            have q3 : stopAt ds k = noDeed := by simp [stopAt, unhide HFB]
            rw [q3] at e
            exact ⟨k + 1, pn', pa', by omega, by omega, by go_num, by rw [q1]; go_num, by rw [q2]; exact e⟩
          case measure => simp [intOf]; omega
        · rw [hb] at K3
          have HK3 := hide K3; have HB := hide hb
          clear K3 hb
          go_wp2_with fail
          refine (unhide HK3).mono ?_
          rintro e w4 ⟨rfl, f4⟩
          have E5 := (unhide HE4).keep f4
          have t0 := E5.fr.cell' x0 (fun h => h); have t1 := E5.fr.cell' x1 (fun h => h); have t2 := E5.fr.cell' x2 (fun h => h)
          obtain ⟨z0, z1, z2⟩ := deed_cells E5.os
          have fz := frozen_of_obj E5.os
          have fz0 := fz 0; have fz1 := fz 1; have fz2 := fz 2
          have E6 := hide (E5.stop (ds k))
          clear HK3 HE4 f4 u0 u1 u2 E5 fz
          go_wp2
          go_roundw
          case rel =>
            obtain ⟨q1, q2⟩ := firstBad_here ds k (unhide HFB) (unhide HB)
            exact ⟨k + 1, pn', pa', by omega, by omega, by go_num, by rw [q1], by rw [q2]; exact unhide E6⟩
          case measure => simp [intOf]; omega
    · have K1 := hide (each_deeds hE hk30)
      have HE := hide hE
      clear hE
      rcases (show (¬ (k : Int) < len) ∨ ((k : Int) < len ∧ ¬ (k : Int) < 30) by omega) with hx | ⟨hx, hx2⟩
      all_goals
        go_wp2_with fail
        refine (unhide K1).mono ?_
        rintro e w1 ⟨g, rfl, f1, o1, c1, t1⟩
        have hbk := stop_bad ds k
        have O1 := hide o1; have C1 := hide c1; have FR1 := hide f1
        clear K1 HE o1 c1 f1
        rcases t1 with ⟨hf, t1⟩ | ⟨hf, rfl⟩
        · rw [decide_eq_true hf] at hbk
          have hst : stopAt ds k = ds (firstBad ds k) := by simp [stopAt, hf]
          have hcn : calledN ds k = firstBad ds k + 1 := by simp [calledN, hf]
          rw [hcn] at C1
          rw [← hst] at t1
          have T1 := hide t1
          have fle : firstBad ds k ≤ 30 := by omega
          generalize hv : g.v = v
          have BD : ∀ w, Hid (Calls Try.prog 7 #[(stopAt ds k).val] w fun e w' => e = .returned (.bool true) ∧ Still w w') := fun w => hide (by have := bad_ok (stopAt ds k) w; rw [hbk] at this; exact this)
          have IS : ∀ w, (stopAt ds k).tells 0 g w → Hid (Calls Try.prog 9 #[(stopAt ds k).val, v] w fun e w' => e = .returned (.bool true) ∧ Still w w') := fun w t => hide (by have := is_ok t; rw [hv] at this; exact this)
          have HBD := hide BD; have HIS := hide IS
          generalize firstBad ds k = fb at C1 fle
          generalize stopAt ds k = q at O1 T1 HBD HIS
          clear t1 hf hbk hst hcn hv BD IS
          obtain ⟨z1a, z1b, z1c⟩ := deed_cells (unhide O1)
          have c1c := cell_of_obj (unhide C1) 0
          have J1 := hide (unhide (unhide HBD w1))
          go_wp2_with fail
          refine (unhide J1).mono ?_
          rintro e w2 ⟨rfl, f1⟩
          have O2 := hide (f1.obj (unhide O1) (fun h => h)); have C2 := hide (f1.obj (unhide C1) (fun h => h)); have FR2 := hide ((unhide FR1).trans f1)
          have T2 := hide ((unhide T1).keep f1 (fun _ h => h.elim))
          clear J1 O1 C1 FR1 f1 z1a z1b z1c c1c T1
          obtain ⟨z2a, z2b, z2c⟩ := deed_cells (unhide O2)
          have c2c := cell_of_obj (unhide C2) 0
          have J2 := hide (unhide (unhide HBD w2))
          go_wp2_with fail
          refine (unhide J2).mono ?_
          rintro e w3 ⟨rfl, f2⟩
          have O3 := hide (f2.obj (unhide O2) (fun h => h)); have C3 := hide (f2.obj (unhide C2) (fun h => h)); have FR3 := hide ((unhide FR2).trans f2)
          have T3 := hide ((unhide T2).keep f2 (fun _ h => h.elim))
          clear J2 O2 C2 FR2 f2 z2a z2b z2c c2c T2
          obtain ⟨z3a, z3b, z3c⟩ := deed_cells (unhide O3)
          have c3c := cell_of_obj (unhide C3) 0
          have J3 := hide (unhide (unhide HIS w3 (unhide T3)))
          go_wp2_with fail
          refine (unhide J3).mono ?_
          rintro e w4 ⟨rfl, f3⟩
          have O4 := hide (f3.obj (unhide O3) (fun h => h)); have C4 := hide (f3.obj (unhide C3) (fun h => h)); have FR4 := hide ((unhide FR3).trans f3)
          have T4 := hide ((unhide T3).keep f3 (fun _ h => h.elim))
          clear J3 O3 C3 FR3 f3 z3a z3b z3c c3c T3
          obtain ⟨z4a, z4b, z4c⟩ := deed_cells (unhide O4)
          have c4c := cell_of_obj (unhide C4) 0
          have J4 := hide (awake_ok w4)
          go_wp2_with fail
          refine (unhide J4).mono ?_
          rintro e w5 ⟨rfl, f4⟩
          have O5 := hide (f4.obj (unhide O4) (fun h => h)); have C5 := hide (f4.obj (unhide C4) (fun h => h)); have FR5 := hide ((unhide FR4).trans f4)
          have T5 := hide ((unhide T4).keep f4 (fun _ h => h.elim))
          clear J4 O4 C4 FR4 f4 z4a z4b z4c c4c T4
          go_wp2
          go_ret
          exact ⟨rfl, unhide FR5⟩
        · have hlt' : ¬ firstBad ds k < k := by omega
          rw [decide_eq_false hlt'] at hbk
          have hcn : calledN ds k = firstBad ds k := by simp [calledN, hlt']
          rw [hcn] at C1
          have fle : firstBad ds k ≤ 30 := by omega
          simp only [How.v]
          have b2 := nil_nil
          have BD : ∀ w, Hid (Calls Try.prog 7 #[(stopAt ds k).val] w fun e w' => e = .returned (.bool false) ∧ Still w w') := fun w => hide (by have := bad_ok (stopAt ds k) w; rw [hbk] at this; exact this)
          have HBD := hide BD
          generalize firstBad ds k = fb at C1 fle
          generalize stopAt ds k = q at O1 HBD
          clear hf hbk hcn BD hlt'
          obtain ⟨z1a, z1b, z1c⟩ := deed_cells (unhide O1)
          have c1c := cell_of_obj (unhide C1) 0
          have J1 := hide (unhide (unhide HBD w1))
          go_wp2_with fail
          refine (unhide J1).mono ?_
          rintro e w2 ⟨rfl, f1⟩
          have O2 := hide (f1.obj (unhide O1) (fun h => h)); have C2 := hide (f1.obj (unhide C1) (fun h => h)); have FR2 := hide ((unhide FR1).trans f1)
          clear J1 O1 C1 FR1 f1 z1a z1b z1c c1c
          obtain ⟨z2a, z2b, z2c⟩ := deed_cells (unhide O2)
          have c2c := cell_of_obj (unhide C2) 0
          have J2 := hide (unhide (unhide HBD w2))
          go_wp2_with fail
          refine (unhide J2).mono ?_
          rintro e w3 ⟨rfl, f2⟩
          have O3 := hide (f2.obj (unhide O2) (fun h => h)); have C3 := hide (f2.obj (unhide C2) (fun h => h)); have FR3 := hide ((unhide FR2).trans f2)
          clear J2 O2 C2 FR2 f2 z2a z2b z2c c2c
          obtain ⟨z3a, z3b, z3c⟩ := deed_cells (unhide O3)
          have c3c := cell_of_obj (unhide C3) 0
          have J3 := hide (unhide (unhide HBD w3))
          go_wp2_with fail
          refine (unhide J3).mono ?_
          rintro e w4 ⟨rfl, f3⟩
          have O4 := hide (f3.obj (unhide O3) (fun h => h)); have C4 := hide (f3.obj (unhide C3) (fun h => h)); have FR4 := hide ((unhide FR3).trans f3)
          clear J3 O3 C3 FR3 f3 z3a z3b z3c c3c
          obtain ⟨z4a, z4b, z4c⟩ := deed_cells (unhide O4)
          have c4c := cell_of_obj (unhide C4) 0
          have J4 := hide (awake_ok w4)
          go_wp2_with fail
          refine (unhide J4).mono ?_
          rintro e w5 ⟨rfl, f4⟩
          have O5 := hide (f4.obj (unhide O4) (fun h => h)); have C5 := hide (f4.obj (unhide C4) (fun h => h)); have FR5 := hide ((unhide FR4).trans f4)
          clear J4 O4 C4 FR4 f4 z4a z4b z4c c4c
          go_wp2
          go_ret
          exact ⟨rfl, unhide FR5⟩
end Go.Proofs.Ytebfocfofoajkab
