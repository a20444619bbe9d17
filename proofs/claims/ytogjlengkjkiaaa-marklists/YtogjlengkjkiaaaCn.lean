/- Count. -/
import Derived.Test.YtogjlengkjkiaaaOc
namespace Go.Proofs.Ytogjlengkjkiaaa
open Go.RowKit

theorem cz_bd (s : List Int) : ∀ k, ∀ x ∈ cz s k, 0 ≤ x ∧ x ≤ k
  | 0, x, h => by simp [cz] at h
  | k + 1, x, h => by
    have ih := cz_bd s k
    have hc : ∀ y ∈ (if k = 0 ∨ s.getD k 0 ≠ s.getD (k - 1) 0 then cz s k ++ [0] else cz s k), 0 ≤ y ∧ y ≤ k := fun y hy => by
      split at hy
      · rcases List.mem_append.1 hy with hy | hy
        · exact ih y hy
        · simp at hy; subst hy; omega
      · exact ih y hy
    have h' : x ∈ (if k = 0 ∨ s.getD k 0 ≠ s.getD (k - 1) 0 then cz s k ++ [0] else cz s k).set ((if k = 0 ∨ s.getD k 0 ≠ s.getD (k - 1) 0 then cz s k ++ [0] else cz s k).length - 1) ((if k = 0 ∨ s.getD k 0 ≠ s.getD (k - 1) 0 then cz s k ++ [0] else cz s k).getD ((if k = 0 ∨ s.getD k 0 ≠ s.getD (k - 1) 0 then cz s k ++ [0] else cz s k).length - 1) 0 + 1) := h
    generalize (if k = 0 ∨ s.getD k 0 ≠ s.getD (k - 1) 0 then cz s k ++ [0] else cz s k) = c at *
    rcases List.mem_or_eq_of_mem_set h' with e | e
    · have := hc x e; omega
    · by_cases hl : c.length - 1 < c.length
      · have := hc _ (getD_mem hl); omega
      · have : c = [] := List.eq_nil_of_length_eq_zero (by omega)
        subst this
        simp at e; omega

set_option maxRecDepth 100000 in
set_option maxHeartbeats 4000000 in
theorem count_ok (a : Option Addr) (n c : Nat) (zs : List Int) (w : World) (hn : n = zs.length) (hl : n ≤ 900) (hr : Rd w a zs) :
    Calls Try.prog 19 #[.slice a n c] w fun e w' => ∃ v, e = .returned v ∧ Own w' w.heap.size v ((asc zs).map fun x => (zs.count x : Int)) ∧ Still w w' := by
  have MS := msorted_ok n c a zs w hn (by omega) hr
  rw [← cz_all]
  have hsl : (srt zs).length = n := by rw [srt_len, hn]
  clear hr hn
  generalize srt zs = s at *
  rw [hsl]
  have HS := hide hsl
  go_enter Try.func19, Try.ntmps19
  go_wp2_with fail
  refine MS.mono ?_
  rintro e w1 ⟨v1, rfl, o1, f1⟩
  obtain ⟨ra, rc, rfl⟩ := rows_form o1
  obtain ⟨ra', rc', e1, -, hrd, -⟩ := o1.rd
  cases e1
  have HR := hide (And.intro hrd f1)
  clear MS o1 f1 hrd
  rw [hsl]
  clear hsl
  go_wp2
  go_loopw [3, 11] (fun v i wr => ∃ (k : Nat) (oa : Option Addr) (on oc : Nat), i = iv k ∧ v = .slice oa on oc ∧ Hid (k ≤ n ∧ Own wr w1.heap.size (.slice oa on oc) (cz s k) ∧ on = (cz s k).length ∧ Still w1 wr)) (fun v i wr => n - (RowKit.intOf i).toNat)
  case atStart => exact ⟨0, none, 0, 0, rfl, rfl, hide ⟨Nat.zero_le _, Own.nil _ _, rfl, Fr.refl _ _⟩⟩
  case round =>
    obtain ⟨k, oa, on, oc, rfl, rfl, HI⟩ := hrel
    have hk := (unhide HI).1
    by_cases hlt : k < n
    · have hlt' : (k : Int) < n := by omega
      have hks : k < s.length := by have := unhide HS; omega
      obtain ⟨xb, xo, rfl, c0⟩ := (unhide HR).1 k hks
      have ck := (unhide HI).2.2.2.cell' c0 (fun x => x)
      clear c0
      by_cases hkp : k = 0 ∨ s.getD k 0 ≠ s.getD (k - 1) 0
      · have hst : cz s (k + 1) = (cz s k ++ [0]).set on 1 := by
          show (if k = 0 ∨ s.getD k 0 ≠ s.getD (k - 1) 0 then cz s k ++ [0] else cz s k).set _ _ = _
          rw [if_pos hkp, (unhide HI).2.2.1]
          have hb := bump_last (cz s k) 0
          simp only [List.length_append, List.length_singleton, Nat.add_sub_cancel]
          rw [hb, List.set_append_right _ _ (by simp)]
          simp
        obtain ⟨pa, pq, w2, hap, o2, f2, hb2, hnn⟩ := Own.more Try.underlying22 wr w1.heap.size _ _ on (unhide HI).2.1 (unhide HI).2.2.1 0 (by have := cz_len s k; have := (unhide HI).2.2.1; omega) (unhide HI).2.2.2.size
        obtain ⟨g, cap, hv⟩ : ∃ g cap, Value.slice pa (on + 1) pq = .slice (some ⟨g, 0, none⟩) (on + 1) cap := by
          rcases o2.form with ⟨_, h0⟩ | ⟨g, cap, hv, _⟩
          · simp at h0
          · exact ⟨g, cap, by rw [hv, ← hnn]⟩
        rw [hv] at hap o2
        have hgb : w1.heap.size ≤ g := (o2.lt g rfl).1
        have D2 : Dat w2 w1.heap.size g cap (cz s k ++ [0]) w2 := ⟨by rw [← hnn]; exact o2, Fr.refl _ _⟩
        have co : w2.cell? ⟨g, on, none⟩ = some (iv 0) := by
          have := D2.cell on (by omega)
          rw [this, (unhide HI).2.2.1, List.getD_eq_getElem?_getD, List.getElem?_append_right (Nat.le_refl _)]
          simp
        have zo := D2.fz on
        have D3 := D2.set on 1
        rw [← hst] at D3
        have f12 : Still w1 w2 := (unhide HI).2.2.2.trans' f2 (fun j hj => .inr ((unhide HI).2.1.lt j hj).1)
        have HD := hide (And.intro D3 (And.intro f12 (And.intro hgb (show on + 1 = (cz s (k + 1)).length by rw [hst, List.length_set]; exact hnn)))); have HAP := hide hap
        have h8 : (on : Int) < on + 1 := by omega
        have hwo : wrap64 (on : Int) = on := by have := cz_len s k; have := (unhide HI).2.2.1; unfold wrap64; omega
        clear hap hv o2 f2 hb2 hnn hgb D2 D3 hst f12
        rcases Nat.eq_zero_or_pos k with h0 | h0
        · have HK := hide hkp
          subst h0
          clear hkp
          simp only [Nat.add_zero] at ck
          generalize s.getD 0 0 = x at *
          go_wp2_with (first | (at_builtin; refine wpList_append_run rfl (.tmp 27) (.tmp 28) 22 rfl _ _ rfl rfl _ w2 (unhide HAP) ?_) | fail)
          obtain ⟨D3, f12, hgb, hnn⟩ := unhide HD
          have oo := D3.own
          rw [← hnn] at oo
          exact ⟨⟨1, _, _, _, by go_num, rfl, hide ⟨by omega, oo, hnn, f12.trans' D3.fr (fun t e => .inr (by omega))⟩⟩, by simp [RowKit.intOf]; omega⟩
        · obtain ⟨j, rfl⟩ : ∃ j, k = j + 1 := ⟨k - 1, by omega⟩
          obtain ⟨yb, yo, e2, d0⟩ := (unhide HR).1 j (by omega)
          cases e2
          have cj := (unhide HI).2.2.2.cell' d0 (fun x => x)
          have hxy : ¬ s.getD (j + 1) 0 = s.getD j 0 := by
            rcases hkp with e | e
            · omega
            · exact e
          have hxy' : (s.getD (j + 1) 0 != s.getD j 0) = true := by simp only [bne_iff_ne]; exact hxy
          have HXY := hide hxy
          have hj1 : ((j : Int) + 1 == 0) = false := by simp; omega
          have hjn : j < n := by omega
          have hjn' : (j : Int) < n := by omega
          have HK := hide hkp
          clear hkp hxy d0
          generalize s.getD (j + 1) 0 = x at *
          generalize s.getD j 0 = y at *
          go_wp2_with (first | (at_builtin; refine wpList_append_run rfl (.tmp 27) (.tmp 28) 22 rfl _ _ rfl rfl _ w2 (unhide HAP) ?_) | fail)
          obtain ⟨D3, f12, hgb, hnn⟩ := unhide HD
          have oo := D3.own
          rw [← hnn] at oo
          exact ⟨⟨j + 1 + 1, _, _, _, by go_num, rfl, hide ⟨by omega, oo, hnn, f12.trans' D3.fr (fun t e => .inr (by omega))⟩⟩, by simp [RowKit.intOf]; omega⟩
      · have h0 : 0 < k := by omega
        obtain ⟨j, rfl⟩ : ∃ j, k = j + 1 := ⟨k - 1, by omega⟩
        have hxy : s.getD (j + 1) 0 = s.getD j 0 := by
          by_cases e : s.getD (j + 1) 0 = s.getD j 0
          · exact e
          · exact absurd (.inr e) hkp
        have hpos := cz_pos s (j + 1) (by omega)
        obtain ⟨p, hp⟩ : ∃ p, (cz s (j + 1)).length = p + 1 := ⟨(cz s (j + 1)).length - 1, by omega⟩
        obtain ⟨b0, hb0⟩ : ∃ b, (cz s (j + 1)).getD p 0 = b := ⟨_, rfl⟩
        have hbd := cz_bd s (j + 1) b0 (by rw [← hb0]; exact getD_mem (by omega))
        have hst : cz s (j + 1 + 1) = (cz s (j + 1)).set p (b0 + 1) := by
          show (if j + 1 = 0 ∨ s.getD (j + 1) 0 ≠ s.getD (j + 1 - 1) 0 then cz s (j + 1) ++ [0] else cz s (j + 1)).set _ _ = _
          rw [if_neg hkp, hp, Nat.add_sub_cancel, hb0]
        obtain rfl : on = p + 1 := by rw [(unhide HI).2.2.1, hp]
        obtain ⟨g, rfl⟩ : ∃ g, oa = some ⟨g, 0, none⟩ := by
          rcases (unhide HI).2.1.form with ⟨_, h0⟩ | ⟨g, cap, hv, _⟩
          · rw [h0] at hp; simp at hp
          · injection hv with h1 h2 h3
            exact ⟨g, h1⟩
        have D2 : Dat wr w1.heap.size g oc (cz s (j + 1)) wr := ⟨by rw [hp]; exact (unhide HI).2.1, Fr.refl _ _⟩
        have hgb : w1.heap.size ≤ g := ((unhide HI).2.1.lt g rfl).1
        have co : wr.cell? ⟨g, p, none⟩ = some (iv b0) := by
          have := D2.cell p (by omega)
          rwa [hb0] at this
        have zo := D2.fz p
        have D3 := D2.set p (b0 + 1)
        rw [← hst] at D3
        have HD := hide (And.intro D3 (And.intro (unhide HI).2.2.2 (And.intro hgb (show p + 1 = (cz s (j + 1 + 1)).length by rw [hst, List.length_set]; exact hp.symm))))
        have hp8 : (p : Int) < p + 1 := by omega
        have hwo : wrap64 (p : Int) = p := by have := cz_len s (j + 1); unfold wrap64; omega
        have hw : wrap64 (b0 + 1) = b0 + 1 := by unfold wrap64; omega
        obtain ⟨yb, yo, e2, d0⟩ := (unhide HR).1 j (by omega)
        cases e2
        have cj := (unhide HI).2.2.2.cell' d0 (fun x => x)
        have hxy' : (s.getD (j + 1) 0 != s.getD j 0) = false := by rw [hxy]; simp
        have hj1 : ((j : Int) + 1 == 0) = false := by simp; omega
        have hjn : j < n := by omega
        have hjn' : (j : Int) < n := by omega
        have HK := hide hkp
        clear hkp hxy d0 hst D2 D3 hb0 hp hpos hbd hgb
        generalize s.getD (j + 1) 0 = x at *
        generalize s.getD j 0 = y at *
        go_wp2
        obtain ⟨D3, f12, hgb, hnn⟩ := unhide HD
        have oo := D3.own
        rw [← hnn] at oo
        exact ⟨⟨j + 1 + 1, _, _, _, by go_num, rfl, hide ⟨by omega, oo, hnn, f12.trans' D3.fr (fun t e => .inr (by omega))⟩⟩, by simp [RowKit.intOf]; omega⟩
    · have hlt' : ¬ (k : Int) < n := by omega
      go_wp2
      go_ret
      obtain ⟨i1, i2, i3, i4⟩ := unhide HI
      obtain rfl : k = n := by omega
      exact ⟨_, rfl, i2.from (unhide HR).2.size, (unhide HR).2.trans' i4 (fun _ x => x.elim)⟩
end Go.Proofs.Ytogjlengkjkiaaa
