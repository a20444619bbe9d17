/- Feed. -/
import Derived.Test.YtpidfndcihljmabYg
import Derived.Deep.RegionLaw
namespace Go.Proofs.Ytpidfndcihljmab
open Go.RowKit

/-- A slice of bytes that is read. -/
structure Sl (w : World) (a : Option Addr) (n cap : Nat) (m : List UInt8) : Prop where
  len : n = m.length
  le : n ≤ cap
  rd : Rd w a m
  nil : a = none → cap = 0
  form : ∀ x, a = some x → 0 < cap → ∃ b o, x = ⟨b, o, none⟩
theorem Sl.empty {w : World} {a : Option Addr} {n cap : Nat} {m : List UInt8} (h : Sl w a n cap m) (e : a = none) : cap = 0 ∧ m = [] :=
  ⟨h.nil e, List.length_eq_zero_iff.1 (by have := h.nil e; have := h.le; have := h.len; omega)⟩
theorem Sl.on {w w' : World} {a : Option Addr} {n cap : Nat} {m : List UInt8} {F : Nat → Prop} (h : Sl w a n cap m) (f : Fr F w w') (hF : ∀ b o, a = some ⟨b, o, none⟩ → 0 < n → ¬ F b) : Sl w' a n cap m :=
  ⟨h.len, h.le, fun i hi => by
    obtain ⟨b, o, e, c⟩ := h.rd i hi
    exact ⟨b, o, e, f.cell' c (hF b o e (by rw [h.len]; omega))⟩, h.nil, h.form⟩
theorem Sl.still {w w' : World} {a : Option Addr} {n cap : Nat} {m : List UInt8} (h : Sl w a n cap m) (f : Still w w') : Sl w' a n cap m := h.on f fun _ _ _ _ x => x
theorem Sl.drewN {w : World} {a : Option Addr} {n cap : Nat} {m : List UInt8} (h : Sl w a n cap m) (q : Nat) : Sl (w.drewN q) a n cap m := ⟨h.len, h.le, h.rd, h.nil, h.form⟩
theorem cutA_of {a : Option Addr} {cap k : Nat} : (∀ x, cutA a cap k = some x → ∃ y, a = some y ∧ x.block = y.block ∧ ((∃ b o, y = ⟨b, o, none⟩) → ∃ b o, x = ⟨b, o, none⟩)) ∧ (cutA a cap k = none → a = none) := by
  cases a with
  | none => unfold cutA; split <;> exact ⟨(fun x e => by cases e), fun _ => rfl⟩
  | some y =>
    unfold cutA
    split
    · exact ⟨(fun x e => by cases e; exact ⟨_, rfl, rfl, fun h => h⟩), fun e => by cases e⟩
    · refine ⟨fun x e => ?_, fun e => by cases e⟩
      simp only [Option.map_some, Option.some.injEq] at e
      subst e
      refine ⟨y, rfl, ?_, ?_⟩
      · unfold Addr.add; split <;> rfl
      · rintro ⟨b, o, rfl⟩
        exact ⟨b, o + k, by unfold Addr.add; split <;> simp_all⟩
theorem Sl.drop {w : World} {a : Option Addr} {n cap : Nat} {m : List UInt8} (h : Sl w a n cap m) (k : Nat) : Sl w (cutA a cap k) (n - k) (cap - k) (m.drop k) :=
  ⟨by rw [List.length_drop, h.len], by have := h.le; omega, h.rd.drop k cap (by have := h.le; have := h.len; omega), fun e => by have := h.nil (cutA_of.2 e); omega, fun x e hc => by
    obtain ⟨y, e2, _, e3⟩ := cutA_of.1 x e
    exact e3 (h.form y e2 (by omega))⟩
theorem Sl.take {w : World} {a : Option Addr} {n cap : Nat} {m : List UInt8} (h : Sl w a n cap m) (k : Nat) (hk : k ≤ n) : Sl w a k cap (m.take k) :=
  ⟨by rw [List.length_take]; have := h.len; omega, by have := h.le; omega, h.rd.take k, h.nil, h.form⟩
theorem Own.sl {w : World} {base : Nat} {v : Value} {l : List UInt8} (h : Own w base v l) : ∃ a cap, v = .slice a l.length cap ∧ Sl w a l.length cap l ∧ ∀ b o, a = some ⟨b, o, none⟩ → base ≤ b ∧ b < w.heap.size ∧ v.ownBlock = some b ∧ o = 0 := by
  obtain ⟨a, cap, h1, h2, h3, h4, h5, h6⟩ := h.rd
  exact ⟨a, cap, h1, ⟨rfl, h2, h3, fun e => (h5 e).1, fun x e _ => h6 x e⟩, h4⟩

theorem wpList_append_run {P : Program} {w : World} {ops : Array Oper} {rest : List Oper} {o : Oper} {a : Act} {Q : Exit → Act → World → Prop} (hgd : o.guard = none) (s x : Operand) (t : TypeId)
    (ho : o.op = .call { callee := .builtin .append, args := #[s, x], argTypes := #[t, t] }) (vs vx : Value) (hs : a.eval s = vs) (hx : a.eval x = vx) (v' : Value) (w' : World) (hr : (Builtin.append_ #[t, t] o.type #[vs, vx]).run P w = .ok v' w')
    (h : wpList P ops Q rest (a.put o.dst v') w') : wpList P ops Q (o :: rest) a w := by
  refine wpList_plain hgd fun K hK => ?_
  unfold Oper.wp execOp
  simp only [ho, resolve, invoke, builtin, Sem.run_bind, Sem.run_pure, Result.andThen_ok, List.map_toArray, List.map_cons, List.map_nil, hs, hx, hr]
  exact hK _ _ h

theorem step_append_run {P : Program} {ops : Array Oper} {o : Oper} {a : Act} {w : World} {K : Act → World → Prop} {Q : Exit → Act → World → Prop} {E : Prop} (hgd : o.guard = none) (s x : Operand) (t : TypeId)
    (ho : o.op = .call { callee := .builtin .append, args := #[s, x], argTypes := #[t, t] }) (vs vx : Value) (hs : a.eval s = vs) (hx : a.eval x = vx) (v' : Value) (w' : World) (hr : (Builtin.append_ #[t, t] o.type #[vs, vx]).run P w = .ok v' w')
    (h : K (a.put o.dst v') w') : if Region.wanted o (yielded ops a.tmps) = true then Oper.wp P o a w K Q else E := by
  rw [if_pos (by simp [Region.wanted, hgd])]
  unfold Oper.wp execOp
  simp only [ho, resolve, invoke, builtin, Sem.run_bind, Sem.run_pure, Result.andThen_ok, List.map_toArray, List.map_cons, List.map_nil, hs, hx, hr]
  exact h

/-- What waits behind bytes that came, whether a line is left out, how many bytes are. -/
def feedR (l : List UInt8) (lv : Bool) (sk : Nat) (m : List UInt8) : List UInt8 × Bool × Nat :=
  if lv then if nl m < m.length then (l ++ (m.drop (nl m + 1)).drop sk, false, sk - (m.drop (nl m + 1)).length) else (l, true, sk) else (l ++ m.drop sk, false, sk - m.length)
theorem Fm.more {w : World} {f : Nat} {g : Option Nat} {l : List UInt8} {lv : Bool} {sk N N' : Nat} (h : Fm w f g l lv sk N) (hN : N ≤ N') : Fm w f g l lv sk N' := by
  obtain ⟨⟨v, cur, t, h1, h2, h3, h4, h5, h6⟩, h7⟩ := h
  exact ⟨⟨v, cur, t, h1, h2, h3, h4, h5, by omega⟩, h7⟩
/-- What an append to its row leaves. -/
theorem Fm.app {w : World} {f : Nat} {g : Option Nat} {l : List UInt8} {lv : Bool} {sk N : Nat} (h : Fm w f g l lv sk N) (a : Option Addr) (n cap : Nat) (m : List UInt8) (hm : Sl w a n cap m) (hN : N + n ≤ 100000000) :
    ∃ va vn vc, w.cell? ⟨f, 0, none⟩ = some (.slice va vn vc) ∧ ∀ q, ∃ va' vn' vc' w', (Builtin.append_ #[25, 25] 25 #[.slice va vn vc, .slice a n cap]).run Try.prog (w.drewN q) = .ok (.slice va' vn' vc') w' ∧ w'.cell? ⟨f, 0, none⟩ = some (.slice va vn vc) ∧ w'.frozen? ⟨f, 0, none⟩ = false ∧
      ∃ g', Fx w (w'.setCell ⟨f, 0, none⟩ (.slice va' vn' vc')) f g (l ++ m) lv sk (N + n) g' := by
  obtain ⟨⟨v, cur, t, h1, h2, h3, h4, h5, h6⟩, h7⟩ := h
  obtain ⟨va, vc, rfl⟩ := rows_form h2
  refine ⟨va, cur.length, vc, cell_of_obj h1 0, fun q => ?_⟩
  obtain ⟨v', w', hr, o', r', b'⟩ := run_cat (w.drewN q) 0 _ cur h2 a n cap m hm.rd hm.len (fun e => by have := hm.nil e; have := hm.le; omega) (by have := hm.len; omega) (Nat.zero_le _)
  obtain ⟨va', vc', rfl⟩ := rows_form o'
  have hf : w'.heap[f]? = w.heap[f]? := r'.block f (Array.getElem?_eq_some_iff.1 h1).1 (fun e => h7 (h3.symm.trans e))
  have hf' : w'.heap[f]? = _ := hf.trans h1
  have hfl : f < w.heap.size := (Array.getElem?_eq_some_iff.1 h1).1
  refine ⟨va', _, vc', w', hr, cell_of_obj hf' 0, frozen_of_obj hf' 0, (Value.slice va' (cur ++ m).length vc').ownBlock, ⟨⟨_, cur ++ m, t, ?_, ?_, rfl, ?_, ?_, ?_⟩, ?_⟩, ?_, ?_⟩
  · rw [obj_set hf']; rfl
  · refine o'.still ((Fr.refl (fun k => k = f) w').setCell (.inl rfl) _) (fun k hk e => ?_)
    rcases b' with e1 | e1
    · exact h7 (by rw [← h3, ← e1, hk, e])
    · rw [e1] at hk; cases hk; have : w.heap.size = f := e; omega
  · rw [List.length_append]; omega
  · rw [h5, List.drop_append_of_le_length h4]
  · rw [List.length_append]; have := hm.len; omega
  · intro e
    rcases b' with e1 | e1
    · exact h7 (by rw [← h3, ← e1, e])
    · rw [e1] at e; cases e; exact absurd hfl (Nat.lt_irrefl _)
  · have r2 : Fr (fb f g) w w' := Fr.mono (F := fun k => (Value.slice va cur.length vc).ownBlock = some k) ⟨r'.os, r'.tape, r'.output, r'.size, r'.block⟩ (fun k e => .inl (.inr (h3 ▸ e)))
    exact r2.setCell (.inl (.inl rfl)) _
  · intro k hk
    rcases b' with e1 | e1
    · exact .inl (by rw [← h3, ← e1, hk])
    · rw [e1] at hk; cases hk; exact .inr (Nat.le_refl _)

set_option maxRecDepth 100000 in
set_option maxHeartbeats 4000000 in
theorem feed_ok {w : World} {f : Nat} {g : Option Nat} {l : List UInt8} {lv : Bool} {sk N : Nat} (h : Fm w f g l lv sk N) (a : Option Addr) (n cap : Nat) (m : List UInt8) (hm : Sl w a n cap m) (hN : N + n ≤ 100000000) (hsk : sk ≤ 9223372036854775807) (hab : ∀ x, a = some x → 0 < n → x.block ≠ f) (hlv : lv = true → ∀ x, a = some x → ∃ b o, x = ⟨b, o, none⟩) :
    Calls Try.prog 6 #[ptr f, .slice a n cap] w fun e w' => e = .returned (.tuple #[]) ∧ ∃ g', Fx w w' f g (feedR l lv sk m).1 (feedR l lv sk m).2.1 (feedR l lv sk m).2.2 (N + n) g' := by
  obtain ⟨_, _, _, _, ⟨_, _, c2, c3⟩, z⟩ := h.cells
  have z2 := z 2
  have z3 := z 3
  have H := hide h
  have HM := hide hm
  have hcap := hm.le
  have HAB := hide hab
  clear h hm z hab
  cases lv with
  | false =>
    clear hlv
    have HR := hide (show feedR l false sk m = (l ++ m.drop sk, false, sk - m.length) from rfl)
    go_enter Try.func6, Try.ntmps6
    go_wp2_with fail
    obtain ⟨j, hj⟩ : ∃ j, min sk (n) = j := ⟨_, rfl⟩
    rw [show min (sk : Int) (n : Int) = (j : Int) by omega]
    have HJ := hide hj
    have X1 := (unhide H).setSk (sk - j)
    obtain ⟨w1, hw1⟩ : ∃ w1, w1 = (w).setCell ⟨f, 3, none⟩ (iv ((sk : Int) - j)) := ⟨_, rfl⟩
    rw [show ((sk - j : Nat) : Int) = (sk : Int) - j by omega, ← hw1] at X1
    have M1 : Sl w1 (a) (n) (cap) (m) := by rw [hw1]; exact (unhide HM).on ((Fr.refl (fun k => k = f) _).setCell (.inl rfl) _) (fun b o e h0 => unhide HAB _ e h0)
    obtain ⟨va, vn, vc, c0, hq⟩ := X1.fm.app _ _ _ _ (M1.drop j) (by omega)
    have c0 : ∀ q, (w1.drewN q).cell? ⟨f, 0, none⟩ = some (.slice va vn vc) := fun _ => c0
    have hs := fun w => slice_run (a) (n) (cap) j .i64 w (by omega)
    rw [← hw1]
    have HX := hide X1
    have HQ := hide hq
    clear X1 hq hw1 M1 hj
    obtain ⟨va', vn', vc', w3, hr, d0, z0, g', hx⟩ := unhide HQ 1
    have hr : (Builtin.append_ #[25, 25] 25 #[.slice va vn vc, .slice (cutA (a) (cap) j) (n - j) (cap - j)]).run Try.prog w1.drew = .ok (.slice va' vn' vc') w3 := hr
    have HY := hide hx
    have HRR := hide hr
    clear hx hr HQ
    go_region_law (refine step_append_run rfl (.tmp 40) (.tmp 43) 25 rfl _ _ rfl rfl (.slice va' vn' vc') w3 (unhide HRR) ?_)
    go_wp2_with fail
    go_end0
    have hj := unhide HJ
    have hl := (unhide HM).len
    have e1 : (m).drop j = (m).drop sk := by
      by_cases h : sk ≤ n
      · rw [show j = sk by omega]
      · rw [show j = n by omega, List.drop_eq_nil_of_le (by omega), List.drop_eq_nil_of_le (by omega)]
    have e2 : sk - j = sk - (m).length := by omega
    have hy := unhide HY
    rw [e1, e2] at hy
    rw [unhide HR]
    refine ⟨by trivial, g', ?_⟩
    have a1 := (unhide HX).trans (⟨hy.fm.more (by omega), hy.fr, hy.ng⟩ : Fx w1 _ f g (l ++ m.drop sk) false (sk - m.length) (N + n) g')
    exact a1
  | true =>
    have KI := hide (index_ok (w := w) a n cap m (unhide HM).len (unhide HM).rd (unhide HM).empty (hlv rfl))
    have hnm := (unhide HM).len
    by_cases hf : nl m < n
    · have HR := hide (show feedR l true sk m = (l ++ (m.drop (nl m + 1)).drop sk, false, sk - (m.drop (nl m + 1)).length) by unfold feedR; rw [if_pos rfl, if_pos (by omega)])
      rw [if_pos (by omega)] at KI
      have hs0 := fun w => slice_run a n cap (nl m + 1) .i64 w (by omega)
      obtain ⟨w0, hw0⟩ : ∃ w0, w0 = w.setCell ⟨f, 2, none⟩ (.bool false) := ⟨_, rfl⟩
      have X0 := (unhide H).setLv false
      have M0 : Sl w0 (cutA a cap (nl m + 1)) (n - (nl m + 1)) (cap - (nl m + 1)) (m.drop (nl m + 1)) := by
        rw [hw0]
        exact (Sl.on (unhide HM) ((Fr.refl (fun k => k = f) w).setCell (.inl rfl) _) (fun b o e h0 => unhide HAB _ e h0)).drop _
      have AB0 : ∀ x, cutA a cap (nl m + 1) = some x → 0 < n - (nl m + 1) → x.block ≠ f := fun x e h0 => by
        obtain ⟨y, e2, e3, _⟩ := cutA_of.1 _ e
        rw [e3]
        exact unhide HAB _ e2 (by omega)
      rw [← hw0] at X0
      have HW0 := hide hw0
      generalize hn2 : n - (nl m + 1) = n2 at *
      generalize cap - (nl m + 1) = cap2 at *
      generalize cutA a cap (nl m + 1) = a2 at *
      have hn2' : n2 ≤ n := by omega
      generalize nl m = k at *
      clear HM HAB hnm hn2 hw0
      have e1 : ((k + 1 : Nat) : Int) = (k : Int) + 1 := by omega
      simp only [e1] at hs0
      have hk0 : (0 : Int) ≤ k := by omega
      go_enter Try.func6, Try.ntmps6
      go_wp2_with fail
      refine (unhide KI).mono ?_
      rintro e w9 ⟨rfl, rfl⟩
      clear KI
      go_wp2_with fail
      rw [← unhide HW0]
      clear c2 c3 z2 z3 HW0 H
      have H := hide X0.fm
      have HM := hide M0
      have HAB := hide AB0
      have HX0 := hide (And.intro X0.fr X0.ng)
      clear X0 M0 AB0
      obtain ⟨j, hj⟩ : ∃ j, min sk (n2) = j := ⟨_, rfl⟩
      rw [show min (sk : Int) (n2 : Int) = (j : Int) by omega]
      have HJ := hide hj
      have X1 := (unhide H).setSk (sk - j)
      obtain ⟨w1, hw1⟩ : ∃ w1, w1 = (w0).setCell ⟨f, 3, none⟩ (iv ((sk : Int) - j)) := ⟨_, rfl⟩
      rw [show ((sk - j : Nat) : Int) = (sk : Int) - j by omega, ← hw1] at X1
      have M1 : Sl w1 (a2) (n2) (cap2) (m.drop (k + 1)) := by rw [hw1]; exact (unhide HM).on ((Fr.refl (fun k => k = f) _).setCell (.inl rfl) _) (fun b o e h0 => unhide HAB _ e h0)
      obtain ⟨va, vn, vc, c0, hq⟩ := X1.fm.app _ _ _ _ (M1.drop j) (by omega)
      have c0 : ∀ q, (w1.drewN q).cell? ⟨f, 0, none⟩ = some (.slice va vn vc) := fun _ => c0
      have hs := fun w => slice_run (a2) (n2) (cap2) j .i64 w (by omega)
      rw [← hw1]
      have HX := hide X1
      have HQ := hide hq
      clear X1 hq hw1 M1 hj
      obtain ⟨va', vn', vc', w3, hr, d0, z0, g', hx⟩ := unhide HQ 1
      have hr : (Builtin.append_ #[25, 25] 25 #[.slice va vn vc, .slice (cutA (a2) (cap2) j) (n2 - j) (cap2 - j)]).run Try.prog w1.drew = .ok (.slice va' vn' vc') w3 := hr
      have HY := hide hx
      have HRR := hide hr
      clear hx hr HQ
      go_region_law (refine step_append_run rfl (.tmp 40) (.tmp 43) 25 rfl _ _ rfl rfl (.slice va' vn' vc') w3 (unhide HRR) ?_)
      go_wp2_with fail
      go_end0
      have hj := unhide HJ
      have hl := (unhide HM).len
      have e1 : (m.drop (k + 1)).drop j = (m.drop (k + 1)).drop sk := by
        by_cases h : sk ≤ n2
        · rw [show j = sk by omega]
        · rw [show j = n2 by omega, List.drop_eq_nil_of_le (by omega), List.drop_eq_nil_of_le (by omega)]
      have e2 : sk - j = sk - (m.drop (k + 1)).length := by omega
      have hy := unhide HY
      rw [e1, e2] at hy
      rw [unhide HR]
      refine ⟨by trivial, g', ?_⟩
      have a1 := (unhide HX).trans (⟨hy.fm.more (by omega), hy.fr, hy.ng⟩ : Fx w1 _ f g (l ++ (m.drop (k + 1)).drop sk) false (sk - (m.drop (k + 1)).length) (N + n) g')
      exact (⟨unhide H, (unhide HX0).1, (unhide HX0).2⟩ : Fx _ w0 f g l false sk N g).trans a1
    · have HR := hide (show feedR l true sk m = (l, true, sk) by unfold feedR; rw [if_pos rfl, if_neg (by omega)])
      rw [if_neg (by omega)] at KI
      clear hf hnm
      go_enter Try.func6, Try.ntmps6
      go_wp2_with fail
      refine (unhide KI).mono ?_
      rintro e w9 ⟨rfl, rfl⟩
      clear KI
      go_wp2_with fail
      refine bodyPost_ret (results_none rfl _ _ _) rfl ?_
      rw [unhide HR]
      exact ⟨rfl, g, (unhide H).more (by omega), Fr.refl _ _, Ng.refl _ _⟩
end Go.Proofs.Ytpidfndcihljmab
