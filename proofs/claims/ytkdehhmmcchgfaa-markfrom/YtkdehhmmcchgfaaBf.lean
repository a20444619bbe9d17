/- The queue: add and takeLeast. -/
import Derived.Test.YtkdehhmmcchgfaaBe
namespace Go.Proofs.Ytkdehhmmcchgfaa
open Go.RowKit

/-- A queue in memory: its variable, its row. -/
structure Qu (W : World) (bW base : Nat) (v : Value) (q : List Int) : Prop where
  box : W.heap[bW]? = some (.cells #[v] 43 (0, 0))
  own : Own W base v q
  heap : IsHeap q
  ne : ∀ k, v.ownBlock = some k → k ≠ bW
/-- Which blocks a change of it may turn. -/
def qf (bW : Nat) (v : Value) (k : Nat) : Prop := k = bW ∨ v.ownBlock = some k

theorem Dat.drewN1 {W wr : World} {base g cap : Nat} {l : List Int} (h : Dat W base g cap l wr) : Dat W base g cap l wr.drew := h.drewN 1
set_option maxRecDepth 100000 in
set_option maxHeartbeats 2000000 in
theorem add_ok (W : World) (bW base : Nat) (v : Value) (q : List Int) (x : Int) (h : Qu W bW base v q) (hq : q.length ≤ 900) (hb : base ≤ W.heap.size) :
    Calls Try.prog 22 #[ptr bW, iv x] W fun e W' => e = .returned (.tuple #[]) ∧ ∃ v' q', Qu W' bW base v' q' ∧ q'.Perm (q ++ [x]) ∧ Fr (qf bW v) W W' ∧ (v'.ownBlock = v.ownBlock ∨ ∃ g, v'.ownBlock = some g ∧ W.heap.size ≤ g) := by
  obtain ⟨sa, sc, rfl⟩ := rows_form h.own
  have c0 : W.cell? ⟨bW, 0, none⟩ = some (.slice sa q.length sc) := cell_of_obj h.box 0
  obtain ⟨va, vc, w2, hap, o2, f2, hb2, hnn⟩ := Own.more Try.underlying43 W base _ q q.length h.own rfl x (by omega) hb
  obtain ⟨g, cap, hv⟩ : ∃ g cap, Value.slice va (q.length + 1) vc = .slice (some ⟨g, 0, none⟩) (q ++ [x]).length cap := by
    rcases o2.form with ⟨_, h0⟩ | ⟨g, cap, hv, _⟩
    · simp at h0
    · exact ⟨g, cap, hv⟩
  have hap2 := hap
  rw [hv] at o2 hb2 hap2
  have D2 : Dat w2 base g cap (q ++ [x]) w2 := ⟨o2, Fr.refl _ _⟩
  have U2 := Up.start h.heap x
  have ggb : g ≠ bW := by
    rcases hb2 with e | e
    · exact h.ne g (by rw [← e]; rfl)
    · have : g = W.heap.size + 1 := by simpa [Value.ownBlock] using e
      have := (Array.getElem?_eq_some_iff.1 h.box).1
      omega
  have HC := hide (And.intro h (And.intro f2 (And.intro hb2 ggb))); have HAP := hide hap2; have HD := hide D2; have HU := hide U2; have HNN := hide hnn
  obtain ⟨n, hn⟩ : ∃ n, q.length = n := ⟨_, rfl⟩
  have HQ := hide hn
  rw [← hnn, hn] at HAP
  rw [hn] at c0 hq
  clear h o2 f2 hb2 hap hap2 hv D2 U2 hnn ggb hn
  go_enter Try.func22, Try.ntmps22
  go_wp2_with (first | (at_builtin; refine wpList_append_run rfl (.tmp 9) (.tmp 11) 43 rfl _ _ rfl rfl _ w2 (unhide HAP) ?_) | fail)
  go_loopw [5] (fun i wr => ∃ (k : Nat) (l : List Int), i = iv k ∧ Hid (Up l k ∧ l.Perm (q ++ [x]) ∧ Dat w2 base g cap l wr)) (fun i wr => (RowKit.intOf i).toNat)
  case atStart => exact ⟨n, q ++ [x], rfl, hide ⟨unhide HQ ▸ unhide HU, List.Perm.refl _, unhide HD⟩⟩
  case round =>
    obtain ⟨k, l, rfl, HI⟩ := hrel
    by_cases h0 : 0 < k
    · obtain ⟨hU, hP, hDt⟩ := unhide HI
      have hl : l.length = n + 1 := by rw [hP.length_eq, ← unhide HNN, unhide HQ]
      have hkn : k < n + 1 := hl ▸ hU.lt
      have c1 : wr.cell? ⟨g, k, none⟩ = some (iv (l.getD k 0)) := hDt.cell k (by omega)
      obtain ⟨p, hp⟩ : ∃ p, (k - 1) / 2 = p := ⟨_, rfl⟩
      have c2 : wr.cell? ⟨g, p, none⟩ = some (iv (l.getD p 0)) := hDt.cell p (by omega)
      have z1 := hDt.fz k
      have z2 := hDt.fz p
      have hk1 : (k : Int) < n + 1 := by omega
      have hp1 : (p : Int) < n + 1 := by omega
      have hpk : ¬ p = k := by omega
      have h0' : (0 : Int) < k := by omega
      have hpe : ((k : Int) - 1) / 2 = p := by omega
      have HP := hide hp
      clear hU hP hDt hp
      by_cases hx : l.getD p 0 ≤ l.getD k 0
      · have HX := hide hx
        have hx' : decide (l.getD p 0 ≤ l.getD k 0) = true := by simp only [hx, decide_true]
        clear hx
        generalize hy1 : l.getD k 0 = y1 at *
        generalize hy2 : l.getD p 0 = y2 at *
        have HY := hide (And.intro hy1 hy2)
        clear hy1 hy2
        go_wp2_with fail
        try rw [hpe]
        go_quiet (fail)
        obtain ⟨hU, hP, hDt⟩ := unhide HI
        have hD3 := hDt.drewN nq
        have hH : IsHeap l := hU.stop (by rw [unhide HP, (unhide HY).1, (unhide HY).2]; exact unhide HX)
        clear hU hDt
        generalize wr.drewN nq = wq at *
        have hx := unhide HC
        obtain ⟨hQu, f2, hb2, ggb⟩ := hx
        have bl := (Array.getElem?_eq_some_iff.1 hQu.box).1
        have fw : Fr (fun j => Value.ownBlock (.slice sa q.length sc) = some j) W wq := f2.trans' hD3.fr (fun j hj => by
          subst hj
          rcases hb2 with e | e
          · exact .inl (by rw [← e]; rfl)
          · have e2 : j = W.heap.size + 1 := by simpa [Value.ownBlock] using e
            exact .inr (by omega))
        have bx := fw.obj hQu.box (fun e => hQu.ne _ e rfl)
        have cW : wq.cell? ⟨bW, 0, none⟩ = some (.slice sa q.length sc) := cell_of_obj bx 0
        have zW := frozen_of_obj bx 0
        have HB := hide (And.intro fw bx)
        rw [unhide HQ] at cW
        clear hQu f2 hb2 bl fw bx
        go_wp2
        go_end0
        obtain ⟨hQu, f2, hb2, ggb⟩ := unhide HC
        obtain ⟨fw, bx⟩ := unhide HB
        have oo := hD3.own
        rw [hl] at oo
        refine ⟨rfl, _, l, ⟨setCell0 bx _, oo.still (F := fun j => j = bW) (Fr.setCell (F := fun j => j = bW) (Fr.refl _ wq) (p := ⟨bW, 0, none⟩) (.inl rfl) _) (fun j hj => by cases hj; exact ggb), hH, fun j hj => by cases hj; exact ggb⟩, hP, (fw.mono (G := qf bW (.slice sa q.length sc)) (fun j hj => .inl (.inr hj))).setCell (.inl (.inl rfl)) _, ?_⟩
        rcases hb2 with e | e
        · exact .inl e
        · exact .inr ⟨_, e, by omega⟩
      · have HX := hide hx
        have hx' : decide (l.getD p 0 ≤ l.getD k 0) = false := by simp only [hx, decide_false]
        have HS := hide (show Up (sw l p k) p from unhide HP ▸ (unhide HI).1.step h0 (by rw [unhide HP]; exact unhide HX))
        clear hx
        have HDS := hide (fun nq => ((unhide HI).2.2.drewN nq).swap p k)
        have HPS := hide ((sw_perm l p k (by omega) (by omega)).trans (unhide HI).2.1)
        have c1' : ∀ nq, (wr.drewN nq).cell? ⟨g, k, none⟩ = some (iv (l.getD k 0)) := fun _ => c1
        have c2' : ∀ nq, (wr.drewN nq).cell? ⟨g, p, none⟩ = some (iv (l.getD p 0)) := fun _ => c2
        have z1' : ∀ nq, (wr.drewN nq).frozen? ⟨g, k, none⟩ = false := fun _ => z1
        have z2' : ∀ nq, (wr.drewN nq).frozen? ⟨g, p, none⟩ = false := fun _ => z2
        generalize hy1 : l.getD k 0 = y1 at *
        generalize hy2 : l.getD p 0 = y2 at *
        clear hy1 hy2
        go_wp2_with fail
        try rw [hpe]
        go_quiet (fail)
        have c1q := c1' nq; have c2q := c2' nq; have z1q := z1' nq; have z2q := z2' nq
        have HDQ := hide (unhide HDS nq).drewN1
        clear c1' c2' z1' z2' c1 c2 z1 z2 HDS
        generalize wr.drewN nq = wq at *
        go_wp2_with fail
        go_region
        go_wp2
        exact ⟨⟨p, sw l p k, rfl, hide ⟨unhide HS, unhide HPS, unhide HDQ⟩⟩, by simp [RowKit.intOf]; omega⟩
    · obtain rfl : k = 0 := by omega
      have h0' : ¬ (0 : Int) < ((0 : Nat) : Int) := by omega
      obtain ⟨hU, hP, hDt⟩ := unhide HI
      have hl : l.length = n + 1 := by rw [hP.length_eq, ← unhide HNN, unhide HQ]
      have hH : IsHeap l := hU.top
      clear hU
      have hx := unhide HC
      obtain ⟨hQu, f2, hb2, ggb⟩ := hx
      have bl := (Array.getElem?_eq_some_iff.1 hQu.box).1
      have fw : Fr (fun j => Value.ownBlock (.slice sa q.length sc) = some j) W wr := f2.trans' hDt.fr (fun j hj => by
        subst hj
        rcases hb2 with e | e
        · exact .inl (by rw [← e]; rfl)
        · have e2 : j = W.heap.size + 1 := by simpa [Value.ownBlock] using e
          exact .inr (by omega))
      have bx := fw.obj hQu.box (fun e => hQu.ne _ e rfl)
      have cW : wr.cell? ⟨bW, 0, none⟩ = some (.slice sa q.length sc) := cell_of_obj bx 0
      have zW := frozen_of_obj bx 0
      have HB := hide (And.intro fw bx)
      rw [unhide HQ] at cW
      clear hQu f2 hb2 bl fw bx
      go_wp2
      go_end0
      obtain ⟨hQu, f2, hb2, ggb⟩ := unhide HC
      obtain ⟨fw, bx⟩ := unhide HB
      have oo := hDt.own
      rw [hl] at oo
      refine ⟨rfl, _, l, ⟨setCell0 bx _, oo.still (F := fun j => j = bW) (Fr.setCell (F := fun j => j = bW) (Fr.refl _ wr) (p := ⟨bW, 0, none⟩) (.inl rfl) _) (fun j hj => by cases hj; exact ggb), hH, fun j hj => by cases hj; exact ggb⟩, hP, (fw.mono (G := qf bW (.slice sa q.length sc)) (fun j hj => .inl (.inr hj))).setCell (.inl (.inl rfl)) _, ?_⟩
      rcases hb2 with e | e
      · exact .inl e
      · exact .inr ⟨_, e, by omega⟩
end Go.Proofs.Ytkdehhmmcchgfaa
