/- The document's without and Split. -/
import Derived.Test.YtkdehhmmcchgfaaBb
namespace Go.Proofs.Ytkdehhmmcchgfaa
open Go.RowKit

/-- What l has and m has not. -/
def wo (l m : List Int) : List Int := l.filter fun x => !m.contains x
theorem getD_mem {l : List Int} {k : Nat} (h : k < l.length) : l.getD k 0 ∈ l := by
  rw [show l.getD k 0 = l[k] by simp [h]]; exact List.getElem_mem _
theorem take_one (l : List Int) {k : Nat} (h : k < l.length) : l.take (k + 1) = l.take k ++ [l.getD k 0] := by
  rw [show l.getD k 0 = l[k] by simp [h], List.take_succ_eq_append_getElem h]
theorem wo_step (l m : List Int) {k : Nat} (h : k < l.length) : wo (l.take (k + 1)) m = if l.getD k 0 ∈ m then wo (l.take k) m else wo (l.take k) m ++ [l.getD k 0] := by
  unfold wo
  rw [take_one l h, List.filter_append]
  by_cases e : l.getD k 0 ∈ m
  · rw [if_pos e]; simp only [List.filter_cons, List.contains_iff_mem.2 e, Bool.not_true, List.filter_nil]; simp
  · rw [if_neg e]; simp only [List.filter_cons, show m.contains (l.getD k 0) = false by simpa using e, Bool.not_false, List.filter_nil]; simp
theorem wo_len (l m : List Int) : (wo l m).length ≤ l.length := List.length_filter_le _ _
/-- How long a slice is. -/
def lenOf : Value → Nat
  | .slice _ n _ => n
  | _ => 0
/-- How far the others are gone through. -/
structure Wo (l m m1 m2 : List Int) (k : Nat) : Prop where
  cut : m = m1 ++ m2
  low : ∀ x ∈ m1, ∀ j, k ≤ j → j < l.length → x < l.getD j 0
theorem Wo.next {l m m1 m2 : List Int} {k : Nat} (h : Wo l m m1 m2 k) : Wo l m m1 m2 (k + 1) := ⟨h.cut, fun x hx j hj => h.low x hx j (by omega)⟩
theorem rise_get {l : List Int} (h : l.Pairwise (· < ·)) {i j : Nat} (hij : i ≤ j) (hj : j < l.length) : l.getD i 0 ≤ l.getD j 0 := by
  rcases Nat.eq_or_lt_of_le hij with rfl | hlt
  · exact Int.le_refl _
  · have := List.pairwise_iff_getElem.1 h i j (by omega) hj hlt
    have e1 : l.getD i 0 = l[i]'(by omega) := by simp [show i < l.length by omega]
    have e2 : l.getD j 0 = l[j] := by simp [hj]
    rw [e1, e2]; omega
theorem Wo.drop {l m m1 m2 : List Int} {k : Nat} {x : Int} (h : Wo l m m1 (x :: m2) k) (hl : l.Pairwise (· < ·)) (_hk : k < l.length) (hx : x < l.getD k 0) : Wo l m (m1 ++ [x]) m2 k :=
  ⟨by rw [h.cut]; simp, fun y hy j hj hj2 => by
    rcases List.mem_append.1 hy with hy | hy
    · exact h.low y hy j hj hj2
    · simp at hy; subst hy; have := rise_get hl hj hj2; omega⟩
theorem Wo.gone {l m m1 : List Int} {k : Nat} (h : Wo l m m1 [] k) (hk : k < l.length) : l.getD k 0 ∉ m := fun hm => by
  rw [h.cut] at hm
  simp at hm
  have := h.low _ hm k (Nat.le_refl _) hk
  simp only [List.getD_eq_getElem?_getD] at this
  omega
theorem Wo.here {l m m1 m2 : List Int} {k : Nat} {x : Int} (h : Wo l m m1 (x :: m2) k) (hm : m.Pairwise (· < ·)) (hk : k < l.length) (hx : ¬ x < l.getD k 0) : l.getD k 0 ∈ m ↔ x = l.getD k 0 := by
  constructor
  · intro hin
    rw [h.cut] at hin hm
    rcases List.mem_append.1 hin with hin | hin
    · have := h.low _ hin k (Nat.le_refl _) hk; omega
    · rcases List.mem_cons.1 hin with e | hin
      · exact e.symm
      · have := (List.pairwise_cons.1 (List.pairwise_append.1 hm).2.1).1 _ hin; omega
  · intro e
    rw [h.cut, ← e]; simp

set_option maxRecDepth 100000 in
set_option maxHeartbeats 2000000 in
theorem without_ok (a b : Option Addr) (la ca lb cb : Nat) (l m : List Int) (w : World) (hl : Rd w a l) (hm : Rd w b m) (hla : la = l.length) (hlb : lb = m.length) (hn : la ≤ 1000) (_hn2 : lb ≤ 1000) (hcb : lb ≤ cb)
    (rl : l.Pairwise (· < ·)) (rm : m.Pairwise (· < ·)) :
    Calls Try.prog 27 #[.slice a la ca, .slice b lb cb] w fun e w' => ∃ v, e = .returned v ∧ Own w' w.heap.size v (wo l m) ∧ Still w w' := by
  have HA := hide hl; have HM := hide (And.intro hm (And.intro hlb hcb)); have HL := hide hla; have HR := hide (And.intro rl rm)
  clear hl hm hla hlb hcb rl rm
  go_enter Try.func27, Try.ntmps27
  go_wp2
  go_loopw [1, 5, 10] (fun o v i wr => ∃ (k : Nat) (m1 m2 : List Int) (ob : Option Addr) (on oc : Nat) (sa : Option Addr) (sn sc : Nat), i = iv k ∧ o = .slice ob on oc ∧ v = .slice sa sn sc ∧ Hid (k ≤ la ∧ on = m2.length ∧ on ≤ oc ∧ Rd w ob m2 ∧ Wo l m m1 m2 k ∧ (Own wr w.heap.size (.slice sa sn sc) (wo (l.take k) m) ∧ sn = (wo (l.take k) m).length) ∧ Still w wr)) (fun o v i wr => la - (RowKit.intOf i).toNat)
  case atStart =>
    obtain ⟨h1, h2, h3⟩ := unhide HM
    exact ⟨0, [], m, b, lb, cb, none, 0, 0, rfl, rfl, rfl, hide ⟨Nat.zero_le _, h2, h3, h1, ⟨rfl, fun x hx => by simp at hx⟩, ⟨by simpa [wo] using Own.nil _ _, by simp [wo]⟩, Fr.refl _ _⟩⟩
  case round =>
    obtain ⟨k, m1, m2, ob, on, oc, sa, sn, sc, rfl, rfl, rfl, HI⟩ := hrel
    have hsn := (unhide HI).2.2.2.2.2.1.2
    have HSN := hide hsn
    clear hsn
    have hk := (unhide HI).1
    by_cases hlt : k < la
    · obtain ⟨xb, xo, rfl, c⟩ := unhide HA k (unhide HL ▸ hlt)
      have c := (unhide HI).2.2.2.2.2.2.cell' c (fun x => x)
      have hlt' : (k : Int) < la := by omega
      obtain ⟨x, hx⟩ : ∃ x, l.getD k 0 = x := ⟨_, rfl⟩
      rw [hx] at c
      have HX := hide hx
      clear hx
      go_wp2_with fail
      go_wp2
      go_loopw [1] (fun o w2 => w2 = wr ∧ ∃ (m1 m2 : List Int) (ob : Option Addr) (on oc : Nat), o = .slice ob on oc ∧ Hid (on = m2.length ∧ on ≤ oc ∧ Rd w ob m2 ∧ Wo l m m1 m2 k)) (fun o w2 => lenOf o)
      case atStart => exact ⟨rfl, m1, m2, ob, on, oc, rfl, hide ⟨(unhide HI).2.1, (unhide HI).2.2.1, (unhide HI).2.2.2.1, (unhide HI).2.2.2.2.1⟩⟩
      case round =>
        obtain ⟨rfl, n1, n2, pb, pn, pc, rfl, HJ⟩ := hrel
        obtain ⟨j1, j2, j3, j4⟩ := unhide HJ
        cases n2 with
        | nil =>
          obtain rfl : pn = 0 := j1
          have HG := hide (Wo.gone j4 (unhide HL ▸ hlt))
          have HJ2 := hide (And.intro j2 (And.intro j3 j4))
          clear j2 j3 j4
          have hnot : l.getD k 0 ∉ m := unhide HG
          have hst := wo_step l m (k := k) (unhide HL ▸ hlt)
          rw [if_neg hnot, unhide HX] at hst
          have hwl : (wo (l.take k) m).length ≤ 1000 := Nat.le_trans (wo_len _ _) (by have := unhide HL; simp only [List.length_take]; omega)
          obtain ⟨pa, pq, w2, hap, o2, f2, hb2, hnn⟩ := Own.more Try.underlying22 wr w.heap.size _ _ sn (unhide HI).2.2.2.2.2.1.1 (unhide HSN) x (unhide HSN ▸ hwl) (unhide HI).2.2.2.2.2.2.size
          rw [← hst] at o2 hnn
          have HE := hide (And.intro o2 f2); have HNN := hide hnn; have HAP := hide hap
          clear o2 f2 hb2 hst hnot hwl hnn hap
          go_wp2_with (first | (at_builtin; refine wpList_append_run rfl (.tmp 36) (.tmp 38) 22 rfl _ _ rfl rfl _ w2 (unhide HAP) ?_) | fail)
          obtain ⟨o2, f2⟩ := unhide HE
          obtain ⟨i1, i2, i3, i4, i5, i6, i7⟩ := unhide HI
          have f3 : Still w w2 := i7.trans' f2 (fun g hg => .inr (i6.1.lt g hg).1)
          exact ⟨⟨k + 1, n1, [], pb, 0, pc, _, _, _, by go_num, rfl, rfl, hide ⟨by omega, rfl, Nat.zero_le _, Rd.nil _ _, (unhide HJ2).2.2.next, ⟨o2, unhide HNN⟩, f3⟩⟩, by simp [RowKit.intOf]; omega⟩
        | cons y n2 =>
          obtain ⟨yb, yo, rfl, d⟩ := j3 0 (by simp)
          have d := (unhide HI).2.2.2.2.2.2.cell' d (fun x => x)
          simp only [Nat.add_zero, List.getD_cons_zero] at d
          obtain ⟨yo', hsl, hyo⟩ := slice_tail yb yo pn pc (by simp at j1; omega)
          have hp : 0 < pn := by simp at j1; omega
          have hp' : (0 : Int) < pn := by omega
          have hp2 : ((pn : Int) == 0) = false := by simp; omega
          have hr := unhide HR
          have hh := Wo.here j4 hr.2 (unhide HL ▸ hlt)
          have hdr := fun hx => Wo.drop j4 hr.1 (unhide HL ▸ hlt) hx
          have HJ2 := hide (And.intro j1 (And.intro j2 (And.intro j3 (And.intro j4 (And.intro hyo (And.intro hh hdr))))))
          clear j1 j2 j3 j4 hyo hr hh hdr
          by_cases hyx : y < x
          · have HY := hide hyx
            have hyx' : decide (y < x) = true := by simp [hyx]
            have hyx'' : (y < x) = True := by simp [hyx]
            clear hyx
            go_wp2
            obtain ⟨j1, j2, j3, j4, hyo, hh, hdr⟩ := unhide HJ2
            simp only [List.length_cons] at j1
            refine ⟨⟨trivial, n1 ++ [y], n2, _, _, _, rfl, hide ⟨by omega, by omega, ?_, hdr (by rw [unhide HX]; exact unhide HY)⟩⟩, by simp [lenOf]; omega⟩
            by_cases h1 : pc = 1
            · have : n2 = [] := List.eq_nil_of_length_eq_zero (by omega)
              subst this
              exact Rd.nil _ _
            · rw [hyo (by omega)]; exact j3.tail
          · have HY := hide hyx
            have hyx' : decide (y < x) = false := by simp [hyx]
            have hyx'' : (y < x) = False := by simp [hyx]
            clear hyx
            by_cases he : y = x
            · have HE0 := hide he
              have he' : (y != x) = false := by simp [he]
              have hin : l.getD k 0 ∈ m := by
                have := (unhide HJ2).2.2.2.2.2.1 (by rw [unhide HX]; exact unhide HY)
                rw [this, unhide HX]; exact he
              have hst := wo_step l m (k := k) (unhide HL ▸ hlt)
              rw [if_pos hin] at hst
              have HS := hide hst
              clear he hin hst
              go_wp2
              obtain ⟨j1, j2, j3, j4, hyo, hh, hdr⟩ := unhide HJ2
              obtain ⟨i1, i2, i3, i4, i5, i6, i7⟩ := unhide HI
              exact ⟨⟨k + 1, n1, y :: n2, _, _, _, _, _, _, by go_num, rfl, rfl, hide ⟨by omega, j1, j2, j3, j4.next, by rw [unhide HS]; exact i6, i7⟩⟩, by simp [RowKit.intOf]; omega⟩
            · have HG := hide (show l.getD k 0 ∉ m from fun hin => he (((unhide HJ2).2.2.2.2.2.1 (by rw [unhide HX]; exact unhide HY)).1 hin ▸ unhide HX))
              have he' : (y != x) = true := by simp [he]
              clear he
              have hnot : l.getD k 0 ∉ m := unhide HG
              have hst := wo_step l m (k := k) (unhide HL ▸ hlt)
              rw [if_neg hnot, unhide HX] at hst
              have hwl : (wo (l.take k) m).length ≤ 1000 := Nat.le_trans (wo_len _ _) (by have := unhide HL; simp only [List.length_take]; omega)
              obtain ⟨pa, pq, w2, hap, o2, f2, hb2, hnn⟩ := Own.more Try.underlying22 wr w.heap.size _ _ sn (unhide HI).2.2.2.2.2.1.1 (unhide HSN) x (unhide HSN ▸ hwl) (unhide HI).2.2.2.2.2.2.size
              rw [← hst] at o2 hnn
              have HE := hide (And.intro o2 f2); have HNN := hide hnn; have HAP := hide hap
              clear o2 f2 hb2 hst hnot hwl hnn hap
              go_wp2_with (first | (at_builtin; refine wpList_append_run rfl (.tmp 36) (.tmp 38) 22 rfl _ _ rfl rfl _ w2 (unhide HAP) ?_) | fail)
              obtain ⟨o2, f2⟩ := unhide HE
              obtain ⟨i1, i2, i3, i4, i5, i6, i7⟩ := unhide HI
              have f3 : Still w w2 := i7.trans' f2 (fun g hg => .inr (i6.1.lt g hg).1)
              exact ⟨⟨k + 1, n1, y :: n2, _, _, _, _, _, _, by go_num, rfl, rfl, hide ⟨by omega, (unhide HJ2).1, (unhide HJ2).2.1, (unhide HJ2).2.2.1, (unhide HJ2).2.2.2.1.next, ⟨o2, unhide HNN⟩, f3⟩⟩, by simp [RowKit.intOf]; omega⟩
    · have hlt' : ¬ (k : Int) < la := by omega
      have HL' := hide (unhide HL)
      go_wp2
      go_ret
      obtain ⟨i1, i2, i3, i4, i5, i6, i7⟩ := unhide HI
      refine ⟨_, rfl, ?_, i7⟩
      have := unhide HL
      rw [List.take_of_length_le (by omega)] at i6
      exact i6.1
/-- What Split tells. -/
theorem split_ok (a b : Option Addr) (la ca lb cb : Nat) (l m : List Int) (w : World) (hl : Rd w a l) (hm : Rd w b m) (hla : la = l.length) (hlb : lb = m.length) (hn : la ≤ 1000) (hn2 : lb ≤ 1000) (hca : la ≤ ca) (hcb : lb ≤ cb)
    (rl : l.Pairwise (· < ·)) (rm : m.Pairwise (· < ·)) :
    Calls Try.prog 11 #[.slice a la ca, .slice b lb cb] w fun e w' => ∃ p q, e = .returned (.tuple #[p, q]) ∧ Own w' w.heap.size p (wo l m) ∧ Own w' w.heap.size q (wo m l) ∧ Still w w' := by
  have WO := fun w (hl : Rd w a l) (hm : Rd w b m) => without_ok a b la ca lb cb l m w hl hm hla hlb hn hn2 hcb rl rm
  have WP := fun w (hl : Rd w a l) (hm : Rd w b m) => without_ok b a lb cb la ca m l w hm hl hlb hla hn2 hn hca rm rl
  have HW := @hide _ WO; have HP := @hide _ WP; have HL := hide hl; have HM := hide hm
  clear WO WP hl hm hla hlb rl rm
  go_enter Try.func11, Try.ntmps11
  go_wp2_with fail
  refine (unhide HW w (unhide HL) (unhide HM)).mono ?_
  rintro e w1 ⟨v1, rfl, o1, f1⟩
  have O1 := hide o1; have F1 := hide f1
  clear o1 f1
  go_wp2_with fail
  refine (unhide HP w1 ((unhide HL).still (unhide F1)) ((unhide HM).still (unhide F1))).mono ?_
  rintro e w2 ⟨v2, rfl, o2, f2⟩
  have O2 := hide o2; have F2 := hide f2
  clear o2 f2
  go_wp2
  go_ret2
  exact ⟨_, _, rfl, (unhide O1).still (unhide F2) (fun _ _ x => x), (unhide O2).from (unhide F1).size, (unhide F1).trans' (unhide F2) (fun _ x => x.elim)⟩
end Go.Proofs.Ytkdehhmmcchgfaa
