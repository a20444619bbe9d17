/- The queue: takeLeast. -/
import Derived.Test.YtkdehhmmcchgfaaBf
namespace Go.Proofs.Ytkdehhmmcchgfaa
open Go.RowKit

theorem slice_head (a : Addr) (len cap n : Nat) (hn : n ≤ cap) (_hs0 : a.spot = none) (w : World) : (Instr.slice 43 (.slice (some a) len cap) none (some (.int .i64 n)) none).run Try.prog w = .ok (.slice (some a) n cap) w := by
  obtain ⟨i, hi, hzz⟩ := Option.map_eq_some_iff.1 infoN
  simp only [Prod.mk.injEq] at hzz
  have he : Try.prog.elem 43 = 3 := by kernel_rfl
  have hs : (sizeOf 3).run Try.prog w = .ok 1 w := by simp [sizeOf, typeInfo, hi, hzz.2.1]
  rw [run_slice_h (P := Try.prog) w 43 _ len cap (by rw [he]; exact Try.underlying43) .i64 n (by omega) (by omega), he, hs]
  have hadd : a.add 0 = a := by unfold Addr.add; split <;> simp_all
  simp [Result.andThen, sliced, hadd]

theorem fr_set (w : World) (g i : Nat) (u : Value) : Fr (fun j => j = g) w (w.setCell ⟨g, i, none⟩ u) := Fr.setCell (F := fun j => j = g) (Fr.refl _ w) (p := ⟨g, i, none⟩) (.inl rfl) _
theorem take_perm (x : Int) (t : List Int) : (x :: ((x :: t).set 0 ((x :: t).getD t.length 0)).take t.length).Perm (x :: t) := by
  refine List.Perm.cons x ?_
  cases t with
  | nil => simp
  | cons y t =>
    simp only [List.set_cons_zero, List.length_cons, List.take_succ_cons]
    have e : (x :: y :: t).getD (t.length + 1) 0 = (y :: t).getD t.length 0 := by simp
    rw [e]
    have e2 : (y :: t) = (y :: t).take t.length ++ [(y :: t).getD t.length 0] := by
      have := take_one (y :: t) (k := t.length) (by simp)
      rw [← this]; simp
    have e3 := (List.perm_append_comm (l₁ := (y :: t).take t.length) (l₂ := [(y :: t).getD t.length 0]))
    rw [← e2] at e3
    exact e3.symm

set_option maxRecDepth 100000 in
set_option maxHeartbeats 2000000 in
theorem take_ok (W : World) (bW base n : Nat) (v : Value) (q : List Int) (h : Qu W bW base v q) (hn : q.length = n + 1) (hq : n ≤ 900) :
    Calls Try.prog 23 #[ptr bW] W fun e W' => e = .returned (iv (q.getD 0 0)) ∧ ∃ v' q', Qu W' bW base v' q' ∧ (q.getD 0 0 :: q').Perm q ∧ Fr (qf bW v) W W' ∧ v'.ownBlock = v.ownBlock := by
  obtain ⟨g, cap, rfl⟩ : ∃ g cap, v = .slice (some ⟨g, 0, none⟩) q.length cap := by
    rcases h.own.form with ⟨_, h0⟩ | ⟨g, cap, hv, _⟩
    · rw [h0] at hn; simp at hn
    · exact ⟨g, cap, hv⟩
  have c0 : W.cell? ⟨bW, 0, none⟩ = some (.slice (some ⟨g, 0, none⟩) q.length cap) := cell_of_obj h.box 0
  have D0 : Dat W base g cap q W := ⟨h.own, Fr.refl _ _⟩
  have x0 := D0.cell 0 (by omega)
  have xn := D0.cell n (by omega)
  have z0 := D0.fz 0
  have ggb : g ≠ bW := h.ne g rfl
  have hcap : n ≤ cap := by have := D0.cap; omega
  obtain ⟨W1, hW1⟩ : ∃ W1, W.setCell ⟨g, 0, none⟩ (iv (q.getD n 0)) = W1 := ⟨_, rfl⟩
  have D1 : Dat W1 base g cap ((q.set 0 (q.getD n 0)).take n) W1 := by
    have o1 := (h.own.set 0 (q.getD n 0)).take n (by simp; omega)
    rw [hW1] at o1
    refine ⟨?_, Fr.refl _ _⟩
    rw [show ((q.set 0 (q.getD n 0)).take n).length = n by simp; omega]
    exact o1
  have f1 : Fr (fun j => j = g) W W1 := hW1 ▸ fr_set W g 0 _
  have hP : (q.getD 0 0 :: (q.set 0 (q.getD n 0)).take n).Perm q := by
    cases q with
    | nil => simp at hn
    | cons x t =>
      have e : t.length = n := by simpa using hn
      have := take_perm x t
      rw [e] at this
      simpa using this
  have hDn : Dn ((q.set 0 (q.getD n 0)).take n) 0 := by
    have := Dn.start h.heap (by omega)
    rw [hn] at this
    exact this
  have hlen : ((q.set 0 (q.getD n 0)).take n).length = n := by simp; omega
  have HSL := hide (slice_head ⟨g, 0, none⟩ (n + 1) cap n hcap rfl)
  have HC := hide (And.intro h (And.intro f1 (And.intro ggb (And.intro hP hlen)))); have HD := hide D1; have HDn := hide hDn
  rw [hn] at c0
  generalize hq0 : (q.set 0 (q.getD n 0)).take n = l0 at *
  generalize hx : q.getD 0 0 = x at *
  generalize hy : q.getD n 0 = y at *
  have hsl := fun w => unhide HSL w
  clear h D0 D1 f1 hP hDn hlen hq0 hx ggb hcap HSL
  go_enter Try.func23, Try.ntmps23
  go_wp2_with fail
  go_loopw [6] (fun i wr => ∃ (k : Nat) (l : List Int), i = iv k ∧ Hid (Dn l k ∧ (k < n ∨ k = 0) ∧ l.Perm l0 ∧ Dat W1 base g cap l wr)) (fun i wr => n + 1 - (RowKit.intOf i).toNat)
  case atStart => exact ⟨0, l0, rfl, hide ⟨unhide HDn, .inr rfl, List.Perm.refl _, unhide HD⟩⟩
  case round =>
    obtain ⟨k, l, rfl, HI⟩ := hrel
    have hl : l.length = n := by rw [(unhide HI).2.2.1.length_eq, (unhide HC).2.2.2.2]
    have hkn : k ≤ n := by have := (unhide HI).2.1; omega
    have HL := hide hl
    clear hl
    go_wp2_with fail
    refine (least_ok W1 wr base g cap l k n (unhide HI).2.2.2 (unhide HL).symm hkn (by omega)).mono ?_
    rintro e w2 ⟨m, rfl, hL, nq, rfl⟩
    obtain ⟨hDn, hk0, hPm, hDt⟩ := unhide HI
    have hD2 := hDt.drewN nq
    by_cases hmk : m = k
    · subst hmk
      have hH : IsHeap l := hDn.stop hL
      obtain ⟨hQu, f1, ggb, hP, hlen⟩ := unhide HC
      have fw := f1.trans hD2.fr
      have bx := fw.obj hQu.box (fun e => ggb e.symm)
      have cW : (wr.drewN nq).cell? ⟨bW, 0, none⟩ = some (.slice (some ⟨g, 0, none⟩) q.length cap) := cell_of_obj bx 0
      have zW := frozen_of_obj bx 0
      have HE := hide (And.intro hH (And.intro hPm (And.intro hD2 (And.intro fw bx))))
      clear hDn hk0 hPm hDt hD2 hH hQu f1 ggb hP hlen fw bx hL HI
      generalize wr.drewN nq = wq at *
      go_wp2
      go_ret
      obtain ⟨hH, hPm, hD2, fw, bx⟩ := unhide HE
      obtain ⟨hQu, f1, ggb, hP, hlen⟩ := unhide HC
      have oo := hD2.own
      rw [unhide HL] at oo
      exact ⟨rfl, _, l, ⟨setCell0 bx _, oo.still (fr_set wq bW 0 _) (fun j hj => by cases hj; exact ggb), hH, fun j hj => by cases hj; exact ggb⟩, (List.Perm.cons x hPm).trans hP, (fw.mono (G := qf bW (.slice (some ⟨g, 0, none⟩) q.length cap)) (fun j hj => .inl (.inr (by rw [hj]; rfl)))).setCell (.inl (.inl rfl)) _, rfl⟩
    · have hkl : k < l.length := by
        have := unhide HL
        have h1 := hL.2.1
        have h2 := hL.1
        omega
      have hml : m < l.length := by
        have h1 := hL.2.1
        omega
      have hS := hDn.step hL hmk hkl
      have hmn : k < m := by have := hL.1; omega
      have HLN := unhide HL
      have hkn' : (k : Int) < n := by omega
      have hmn' : (m : Int) < n := by omega
      have hkn2 : k < n := by omega
      have hmn2 : m < n := by omega
      have hne : ((m : Int) == k) = false := by simp; omega
      have hne2 : ¬ k = m := by omega
      have c1 := hD2.cell k hkl
      have c2 := hD2.cell m hml
      have z1 := hD2.fz k
      have z2 := hD2.fz m
      have HE := hide (And.intro hS (And.intro ((sw_perm l k m hkl hml).trans hPm) (hD2.swap k m).drewN1))
      clear hDn hk0 hPm hDt hD2 hL HI hkl hml hS HLN hkn
      generalize l.getD k 0 = y1 at *
      generalize l.getD m 0 = y2 at *
      generalize wr.drewN nq = wq at *
      have HK := hide (And.intro hmk hmn)
      clear hmk hmn
      go_wp2_with fail
      go_region
      go_wp2
      exact ⟨⟨m, sw l k m, rfl, hide ⟨(unhide HE).1, .inl hmn2, (unhide HE).2.1, (unhide HE).2.2⟩⟩, by have := (unhide HK).2; simp [RowKit.intOf]; omega⟩
end Go.Proofs.Ytkdehhmmcchgfaa
