/- The law's own rising. -/
import Derived.Test.YtkdehhmmcchgfaaPs
import Derived.Test.YtkdehhmmcchgfaaLv
import Derived.Test.YtkdehhmmcchgfaaIn
namespace Go.Proofs.Ytkdehhmmcchgfaa
open Go.RowKit

theorem rise_nil : rise [] = [] := rise_eq (by simp) (fun x => by simp)
theorem rise_len (l : List Int) : (rise l).length ≤ l.length := nodup_len _ _ (lt_nodup (rise_lt l)) fun x hx => ((rise_mem l x).1 hx).1
theorem rise_same (l : List Int) {k : Nat} (hk : k < l.length) (h : l.getD k 0 = 0 ∨ l.getD k 0 ∈ rise (l.take k)) : rise (l.take (k + 1)) = rise (l.take k) :=
  rise_eq (rise_lt _) fun x => by
    rw [rise_mem, take_one l hk, List.mem_append]
    rw [rise_mem] at h
    constructor
    · exact fun e => ⟨.inl e.1, e.2⟩
    · rintro ⟨e | e, e2⟩
      · exact ⟨e, e2⟩
      · rw [List.mem_singleton] at e
        rw [← e] at h
        rcases h with h | h
        · exact absurd h e2
        · exact h
theorem rise_more (l : List Int) {k : Nat} (hk : k < l.length) (m : List Int) (hm : m.Pairwise (· < ·)) (h : ∀ y, y ∈ m ↔ y ∈ rise (l.take k) ∨ y = l.getD k 0) (h0 : l.getD k 0 ≠ 0) : rise (l.take (k + 1)) = m :=
  rise_eq hm fun x => by
    rw [h, rise_mem, take_one l hk, List.mem_append, List.mem_singleton]
    constructor
    · rintro (e | e)
      · exact ⟨.inl e.1, e.2⟩
      · exact ⟨.inr e, by rw [e]; exact h0⟩
    · rintro ⟨e | e, e2⟩
      · exact .inl ⟨e, e2⟩
      · exact .inr e

set_option maxRecDepth 100000 in
set_option maxHeartbeats 4000000 in
theorem rising_ok (a : Option Addr) (la ca : Nat) (l : List Int) (w : World) (hr : Rd w a l) (hla : la = l.length) (hn : la ≤ 900) :
    Calls Try.prog 16 #[.slice a la ca] w fun e w' => ∃ v, e = .returned v ∧ Own w' w.heap.size v (rise l) ∧ Still w w' := by
  have HR := hide hr; have HL := hide hla
  clear hr hla
  go_enter Try.func16, Try.ntmps16
  go_wp2
  go_loopw [3, 4] (fun v i wr => ∃ (k : Nat) (sa : Option Addr) (sn sc : Nat), i = iv k ∧ v = .slice sa sn sc ∧ Hid (k ≤ la ∧ Own wr w.heap.size (.slice sa sn sc) (rise (l.take k)) ∧ sn = (rise (l.take k)).length ∧ Still w wr)) (fun v i wr => la - (RowKit.intOf i).toNat)
  case atStart => exact ⟨0, none, 0, 0, rfl, rfl, hide ⟨Nat.zero_le _, by rw [show l.take 0 = [] from rfl, rise_nil]; exact Own.nil _ _, by rw [show l.take 0 = [] from rfl, rise_nil]; rfl, Fr.refl _ _⟩⟩
  case round =>
    obtain ⟨k, sa, sn, sc, rfl, rfl, HI⟩ := hrel
    have hk := (unhide HI).1
    by_cases hlt : k < la
    · have hlt' : (k : Int) < la := by omega
      have hkl : k < l.length := by have := unhide HL; omega
      obtain ⟨xb, xo, rfl, c0⟩ := unhide HR k hkl
      have cw := (unhide HI).2.2.2.cell' c0 (fun x => x)
      have hxb : xb < w.heap.size := World.block_lt_of_cell? w _ c0
      have hsame := rise_same l hkl
      have hmore := rise_more l hkl
      have hlen : (rise (l.take k)).length ≤ 900 := Nat.le_trans (rise_len _) (by simp; omega)
      obtain ⟨i1, i2, i3, i4⟩ := unhide HI
      have HI2 := hide (And.intro i2 (And.intro i3 (And.intro i4 (And.intro (rise_lt (l.take k)) c0))))
      have rv := i2.rv
      generalize hA : rise (l.take k) = A at *
      generalize hX : l.getD k 0 = x at *
      clear hA hX i1 i2 i4 c0 HI
      have HS := hide (And.intro hsame hmore); have HSN := hide i3
      have hAl : A.length ≤ 1000000 := by omega
      clear hsame hmore i3
      by_cases hz : x = 0
      · have HZ := hide hz
        have hz' : (x == 0) = true := by simp [hz]
        clear hz
        go_wp2
        obtain ⟨i2, i3, i4, _⟩ := unhide HI2
        have e := (unhide HS).1 (.inl (unhide HZ))
        exact ⟨⟨k + 1, sa, sn, sc, by go_num, rfl, hide ⟨by omega, by rw [e]; exact i2, by rw [e]; exact i3, i4⟩⟩, by simp [RowKit.intOf]; omega⟩
      have HZ := hide hz
      have hz' : (x == 0) = false := by simp [hz]
      clear hz
      by_cases hin : x ∈ A
      · have hb : A.contains x = true := by simpa using hin
        have HIN := hide hin
        clear hin
        go_wp2_with (first | (go_at_call 10; refine (has_vb _ _ _ _ _ (by assumption) (by assumption) (by assumption)).mono ?_; rintro e w9 ⟨rfl, he⟩; replace he := he.symm; subst he) | fail)
        obtain ⟨i2, i3, i4, _⟩ := unhide HI2
        have e := (unhide HS).1 (.inr (unhide HIN))
        exact ⟨⟨k + 1, sa, sn, sc, by go_num, rfl, hide ⟨by omega, by rw [e]; exact i2, by rw [e]; exact i3, i4⟩⟩, by simp [RowKit.intOf]; omega⟩
      · have hb : A.contains x = false := by simpa using hin
        have HIN := hide hin
        clear hin
        obtain ⟨pa, pq, w2, hap, o2, f2, hb2, hnn⟩ := Own.more Try.underlying22 wr w.heap.size _ A sn (unhide HI2).1 (unhide HSN) x (by have := unhide HSN; omega) (unhide HI2).2.2.1.size
        obtain ⟨g, cap, hv⟩ : ∃ g cap, Value.slice pa (sn + 1) pq = .slice (some ⟨g, 0, none⟩) (sn + 1) cap := by
          rcases o2.form with ⟨_, h0⟩ | ⟨g, cap, hv, _⟩
          · simp at h0
          · exact ⟨g, cap, by rw [hv, ← hnn]⟩
        rw [hv] at hap o2
        have hgb : w.heap.size ≤ g := (o2.lt g rfl).1
        have D2 : Dat w2 w.heap.size g cap (ins A A.length x) w2 := by
          rw [ins_end]
          refine ⟨?_, Fr.refl _ _⟩
          rw [← hnn]; exact o2
        have f02 : Still w w2 := (unhide HI2).2.2.1.trans' f2 (fun g hg => .inr ((unhide HI2).1.lt g hg).1)
        have cx2 := f02.cell' (unhide HI2).2.2.2.2 (fun x => x)
        have HAP := hide hap; have HD := hide (And.intro D2 (And.intro f02 (And.intro hgb hnn))); have HC2 := hide cx2
        clear hap hv o2 f2 hb2 hnn hgb D2 f02 cx2
        go_wp2_with (first | (go_at_call 10; refine (has_vb _ _ _ _ _ (by assumption) (by assumption) (by assumption)).mono ?_; rintro e w9 ⟨rfl, he⟩; replace he := he.symm; subst he) | (at_builtin; refine wpList_append_run rfl (.tmp 27) (.tmp 32) 22 rfl _ _ rfl rfl _ w2 (unhide HAP) ?_) | fail)
        go_loopw [5] (fun v wi => ∃ (j : Nat) (h : Int), v = iv j ∧ Hid (j ≤ A.length ∧ Dat w2 w.heap.size g cap (ins A j h) wi ∧ ∀ t, j ≤ t → t < A.length → x < A.getD t 0)) (fun v wi => (RowKit.intOf v).toNat)
        case atStart => exact ⟨A.length, x, by rw [← unhide HSN], hide ⟨Nat.le_refl _, (unhide HD).1, fun t h1 h2 => by omega⟩⟩
        case round =>
          obtain ⟨j, h, rfl, HJ⟩ := hrel
          have HGX := hide (show ¬ xb = g by have := (unhide HD).2.2.1; omega)
          have hjs : j < sn + 1 := by have := unhide HSN; have := (unhide HJ).1; omega
          by_cases hj0 : 0 < j
          · obtain ⟨p, rfl⟩ : ∃ p, j = p + 1 := ⟨j - 1, by omega⟩
            have hps : p < sn + 1 := by omega
            have hps' : (p : Int) < sn + 1 := by omega
            have hjs' : (p : Int) + 1 < sn + 1 := by omega
            have hjp : (0 : Int) < (p : Int) + 1 := by omega
            have cp : wr.cell? ⟨g, p, none⟩ = some (iv (A.getD p 0)) := by
              have := (unhide HJ).2.1.cell p (by rw [ins_len]; have := (unhide HJ).1; omega)
              rwa [ins_get_lt A (p + 1) p h (unhide HJ).1 (by omega)] at this
            have cl := (unhide HJ).2.1.fr.cell' (unhide HC2) (unhide HGX)
            obtain ⟨os, hos⟩ : ∃ os, wr.cell? ⟨g, p + 1, none⟩ = some (iv os) := ⟨_, (unhide HJ).2.1.cell (p + 1) (by rw [ins_len]; have := (unhide HJ).1; omega)⟩
            have co : ∀ nq, (wr.drewN nq).cell? ⟨g, p + 1, none⟩ = some (iv os) := fun _ => hos
            have hpA : p < A.length := (unhide HJ).1
            by_cases hy : x < A.getD p 0
            · have HY := hide hy
              have hy' : decide (x < A.getD p 0) = true := by simp only [hy, decide_true]
              have HDN := hide (fun nq => Dat.set ((unhide HJ).2.1.drewN nq) (p + 1) (A.getD p 0))
              have HIS := hide (ins_down A (p + 1) h (by omega) (unhide HJ).1)
              have zz : ∀ nq, (wr.drewN nq).frozen? ⟨g, p + 1, none⟩ = false := fun nq => ((unhide HJ).2.1.drewN nq).fz _
              have cc : ∀ nq, (wr.drewN nq).cell? ⟨g, p, none⟩ = some (iv (A.getD p 0)) := fun _ => cp
              clear hy
              simp only [Nat.add_sub_cancel] at HIS
              generalize hyy : A.getD p 0 = y at *
              have HYY := hide hyy
              clear hyy
              go_wp2_with fail
              go_quiet (fail)
              have zq := zz nq; have cq := cc nq; have oq := co nq
              have HDQ := hide (unhide HDN nq)
              clear zz cc cp cl HDN co hos
              generalize wr.drewN nq = wq at *
              go_wp2
              refine ⟨⟨p, y, rfl, hide ⟨by omega, by rw [← unhide HIS]; exact unhide HDQ, fun t h1 h2 => ?_⟩⟩, by simp [RowKit.intOf]⟩
              rcases Nat.eq_or_lt_of_le h1 with e | e
              · rw [← e, unhide HYY]; exact unhide HY
              · exact (unhide HJ).2.2 t e h2
            · have HY := hide hy
              have hy' : decide (x < A.getD p 0) = false := by simp only [hy, decide_false]
              have HDN := hide (fun nq => Dat.set ((unhide HJ).2.1.drewN nq) (p + 1) x)
              have HIS := hide (ins_set A (p + 1) h x (unhide HJ).1)
              have zz : ∀ nq, (wr.drewN nq).frozen? ⟨g, p + 1, none⟩ = false := fun nq => ((unhide HJ).2.1.drewN nq).fz _
              have cc : ∀ nq, (wr.drewN nq).cell? ⟨xb, xo + k, none⟩ = some (iv x) := fun _ => cl
              have HLO := hide (ins_lt A (p + 1) x (unhide HI2).2.2.2.1 (unhide HJ).1 (unhide HIN) (unhide HJ).2.2 (.inr (by simpa using hy)))
              clear hy
              generalize A.getD p 0 = y at *
              go_wp2_with fail
              go_quiet (fail)
              have zq := zz nq; have cq := cc nq; have oq := co nq
              have HDQ := hide (unhide HDN nq)
              clear zz cc cp cl HDN co hos
              generalize wr.drewN nq = wq at *
              go_wp2
              have hD := unhide HDQ
              rw [unhide HIS] at hD
              have e := (unhide HS).2 (ins A (p + 1) x) (unhide HLO) (fun y => ins_mem A (p + 1) x y) (unhide HZ)
              obtain ⟨D2, f02, hgb, hnn⟩ := unhide HD
              have oo := hD.own
              rw [ins_len, ← unhide HSN] at oo
              exact ⟨⟨k + 1, _, _, _, by go_num, rfl, hide ⟨by omega, by rw [e]; exact oo, by rw [e, ins_len, unhide HSN], f02.trans' hD.fr (fun t e => .inr (by omega))⟩⟩, by simp [RowKit.intOf]; omega⟩
          · obtain rfl : j = 0 := by omega
            have hjp : ¬ (0 : Int) < ((0 : Nat) : Int) := by omega
            have hs1 : (0 : Int) < sn + 1 := by omega
            have cl := (unhide HJ).2.1.fr.cell' (unhide HC2) (unhide HGX)
            obtain ⟨os, hos⟩ : ∃ os, wr.cell? ⟨g, 0, none⟩ = some (iv os) := ⟨_, (unhide HJ).2.1.cell 0 (by rw [ins_len]; omega)⟩
            have co : ∀ nq, (wr.drewN nq).cell? ⟨g, 0, none⟩ = some (iv os) := fun _ => hos
            have HDN := hide (fun nq => Dat.set ((unhide HJ).2.1.drewN nq) 0 x)
            have HIS := hide (ins_set A 0 h x (unhide HJ).1)
            have zz : ∀ nq, (wr.drewN nq).frozen? ⟨g, 0, none⟩ = false := fun nq => ((unhide HJ).2.1.drewN nq).fz _
            have cc : ∀ nq, (wr.drewN nq).cell? ⟨xb, xo + k, none⟩ = some (iv x) := fun _ => cl
            have HLO := hide (ins_lt A 0 x (unhide HI2).2.2.2.1 (unhide HJ).1 (unhide HIN) (unhide HJ).2.2 (.inl rfl))
            go_wp2_with fail
            go_quiet (fail)
            have zq := zz nq; have cq := cc nq; have oq := co nq
            have HDQ := hide (unhide HDN nq)
            clear zz cc cl HDN co hos
            generalize wr.drewN nq = wq at *
            go_wp2
            have hD := unhide HDQ
            rw [unhide HIS] at hD
            have e := (unhide HS).2 (ins A 0 x) (unhide HLO) (fun y => ins_mem A 0 x y) (unhide HZ)
            obtain ⟨D2, f02, hgb, hnn⟩ := unhide HD
            have oo := hD.own
            rw [ins_len, ← unhide HSN] at oo
            exact ⟨⟨k + 1, _, _, _, by go_num, rfl, hide ⟨by omega, by rw [e]; exact oo, by rw [e, ins_len, unhide HSN], f02.trans' hD.fr (fun t e => .inr (by omega))⟩⟩, by simp [RowKit.intOf]; omega⟩
    · have hlt' : ¬ (k : Int) < la := by omega
      go_wp2
      go_ret
      obtain ⟨i1, i2, i3, i4⟩ := unhide HI
      rw [List.take_of_length_le (by have := unhide HL; omega)] at i2
      exact ⟨_, rfl, i2, i4⟩
end Go.Proofs.Ytkdehhmmcchgfaa
