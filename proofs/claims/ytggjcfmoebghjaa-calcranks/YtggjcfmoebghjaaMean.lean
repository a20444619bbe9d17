/- calc's Mean, Min and Max over a row of numbers. -/
import Derived.Test.YtggjcfmoebghjaaSum
import Derived.Test.YtggjcfmoebghjaaWh2
namespace Go.Proofs.Ytggjcfmoebghjaa
open Go.RowKit

abbrev divB (x y : Nat) : Option Nat := Ieee.double.div x y
theorem div_run_none (x y : Nat) (h : divB x y = none) (t : TypeId) (w : World) : (binOp .quo t (.float .f64 x) (.float .f64 y)).run Try.prog w = .ok (.float .f64 (anyNaN x y w)) w.drew := by
  have h' : FloatKind.f64.format.div x y = none := h
  simp [binOp, Op.floatArith, h', anyNaN, Question.forced]
theorem div_run_some (x y r : Nat) (h : divB x y = some r) (t : TypeId) (w : World) : (binOp .quo t (.float .f64 x) (.float .f64 y)).run Try.prog w = .ok (.float .f64 r) w :=
  run_float_arith w .quo t .f64 x y r h
theorem write_num (d : Ieee.Datum) (h : d.isNaN = false) : nanB (Ieee.double.write d) = false := by
  cases d with
  | number s m e => exact nearest_num s m e
  | infinity s =>
    show nanB (Ieee.double.word s Ieee.double.infRung) = false
    cases s <;> decide
  | nan s t => cases h
theorem quot_num (x y r : Nat) (h : divB x y = some r) : nanB r = false ∧ r < 18446744073709551616 := by
  have hl := Ieee.Format.div_lt Ieee.double h
  refine ⟨?_, hl⟩
  unfold divB Ieee.Format.div at h
  obtain ⟨d, hd, rfl⟩ := Option.map_eq_some_iff.1 h
  apply write_num
  revert hd
  cases Ieee.double.read x <;> cases Ieee.double.read y <;> simp only [Ieee.Datum.quotient] <;> intro hd <;> (try split at hd) <;> (try split at hd) <;> cases hd <;> rfl
theorem divB_nan_l (x y : Nat) (h : nanB x = true) : divB x y = none := by
  obtain ⟨f, e⟩ := read_nan x (by simpa [nanB] using h)
  unfold divB Ieee.Format.div
  rw [e]; rfl
theorem div_is (o : Option Nat) (s x : Nat) (h : Is o s) (w : World) : ∃ s' n, (∀ t, (binOp .quo t (.float .f64 s) (.float .f64 x)).run Try.prog w = .ok (.float .f64 s') (w.drewN n)) ∧ Is (o.bind fun s => divB s x) s' := by
  rcases h with ⟨h1, ⟨rfl, h2⟩ | ⟨rfl, h2⟩⟩
  · cases e : divB s x with
    | none => exact ⟨anyNaN s x w, 1, fun t => div_run_none s x e t w, (anyNaN_nan s x w).2, .inr ⟨e, (anyNaN_nan s x w).1⟩⟩
    | some r => exact ⟨r, 0, fun t => div_run_some s x r e t w, (quot_num s x r e).2, .inl ⟨e, (quot_num s x r e).1⟩⟩
  · have e := divB_nan_l s x h2
    exact ⟨anyNaN s x w, 1, fun t => div_run_none s x e t w, (anyNaN_nan s x w).2, .inr ⟨rfl, (anyNaN_nan s x w).1⟩⟩

/-- The mean; none: it is no number. -/
def meanO (l : List Nat) : Option Nat := (sumO l).bind fun s => divB s (fl l.length)

theorem sumO_num (l : List Nat) (s : Nat) (h : sumO l = some s) : nanB s = false ∧ s < 18446744073709551616 := by
  rcases l.eq_nil_or_concat with rfl | ⟨m, x, rfl⟩
  · cases h; exact ⟨rfl, by decide⟩
  · unfold sumO at h
    rw [List.concat_eq_append, List.foldl_append] at h
    obtain ⟨t, _, h2⟩ := Option.bind_eq_some_iff.1 (show (List.foldl addO (some 0) m).bind (fun s => sumB s x) = some s from h)
    exact sum_num _ _ _ h2
theorem is_one (o : Option Nat) (h : ∀ s, o = some s → nanB s = false ∧ s < 18446744073709551616) : Is o (one o) := by
  cases o with
  | none => exact ⟨by decide, .inr ⟨rfl, by decide⟩⟩
  | some s => exact ⟨(h s rfl).2, .inl ⟨rfl, (h s rfl).1⟩⟩
theorem meanO_num (l : List Nat) (s : Nat) (h : meanO l = some s) : nanB s = false ∧ s < 18446744073709551616 := by
  obtain ⟨t, _, h2⟩ := Option.bind_eq_some_iff.1 h
  exact quot_num _ _ _ h2

set_option maxRecDepth 100000 in
set_option maxHeartbeats 1000000 in
theorem mean_ok (a : Option Addr) (cap : Nat) (l : List Nat) (w : World) (hl : Fls w a l) (hn : l.length ≤ 1000) : Calls Try.prog 11 #[.slice a l.length cap] w fun e w' => e = .returned (.float .f64 (one (meanO l))) ∧ ∃ n, w' = w.drewN n := by
  have HS := hide (sum_ok a cap l w hl hn)
  clear hl
  go_enter Try.func11, Try.ntmps11
  go_wp2_with fail
  refine (unhide HS).mono ?_
  rintro e w' ⟨rfl, n, rfl⟩
  obtain ⟨s', m, hr, hI⟩ := div_is _ _ (fl l.length) (is_one (sumO l) (sumO_num l)) (w.drewN n)
  have HI := hide hI
  clear hI HS
  have hy : floatOfInt .f64 (l.length : Int) = fl l.length := rfl
  have G := hide (show meanO l = (sumO l).bind fun s => divB s (fl l.length) from rfl)
  generalize one (sumO l) = s at *
  generalize fl l.length = y at *
  go_wp2_with (go_at_call 29; refine (one_ok _ _ (unhide HI) _).mono ?_; rintro e w' ⟨rfl, rfl⟩)
  go_ret
  exact ⟨by rw [unhide G]; rfl, n + m, rfl⟩

/-- The least; the most. -/
def lo (l : List Nat) : Nat := l.foldl (fun m x => if codeN x < codeN m then x else m) 9218868437227405312
def hi (l : List Nat) : Nat := l.foldl (fun m x => if codeN m < codeN x then x else m) 18442240474082181120
def least (l : List Nat) : Nat := if l.any nanB then 9221120237041090561 else lo l
def most (l : List Nat) : Nat := if l.any nanB then 9221120237041090561 else hi l
theorem take_step (l : List Nat) (k : Nat) (h : k < l.length) : l.take (k + 1) = l.take k ++ [l.getD k 0] := by rw [List.take_succ_eq_append_getElem h]; simp [h]
theorem lo_step (l : List Nat) (k : Nat) (h : k < l.length) : lo (l.take (k + 1)) = if codeN (l.getD k 0) < codeN (lo (l.take k)) then l.getD k 0 else lo (l.take k) := by
  rw [take_step l k h]; unfold lo; rw [List.foldl_append]; rfl
theorem hi_step (l : List Nat) (k : Nat) (h : k < l.length) : hi (l.take (k + 1)) = if codeN (hi (l.take k)) < codeN (l.getD k 0) then l.getD k 0 else hi (l.take k) := by
  rw [take_step l k h]; unfold hi; rw [List.foldl_append]; rfl
theorem any_step (l : List Nat) (k : Nat) (h : k < l.length) : (l.take (k + 1)).any nanB = ((l.take k).any nanB || nanB (l.getD k 0)) := by
  rw [take_step l k h, List.any_append]; simp
theorem code_nan (x : Nat) (h : nanB x = true) : codeN x = 18446744073709551615 := by unfold codeN; rw [if_pos h]
theorem code_num (x : Nat) (hx : x < 18446744073709551616) (h : nanB x = false) : codeN x < 18446744073709551615 := by
  unfold codeN; rw [if_neg (by simp [h])]
  simp only [nanB, decide_eq_false_iff_not, Nat.not_lt] at h
  split <;> omega
theorem cmp3_lt (p q : Nat) : (cmp3 p q < 0) = (p < q) := by
  unfold cmp3; split <;> (try split) <;> simp <;> omega
theorem cmp3_gt (p q : Nat) : (0 < cmp3 p q) = (q < p) := by
  unfold cmp3; split <;> (try split) <;> simp <;> omega

set_option maxRecDepth 100000 in
set_option maxHeartbeats 1000000 in
theorem min_ok (a : Option Addr) (cap : Nat) (l : List Nat) (w : World) (hl : Fls w a l) (hn : l.length ≤ 1000) : Calls Try.prog 12 #[.slice a l.length cap] w fun e w' => e = .returned (.float .f64 (least l)) ∧ w' = w := by
  have HL := hide hl
  clear hl
  go_enter Try.func12, Try.ntmps12
  go_wp2_with (go_at_call 30; refine (inf_up _).mono ?_; rintro e w' ⟨rfl, rfl⟩)
  go_loop [3, 9] (fun vs vi => ∃ (k s : Nat), vs = .float .f64 s ∧ vi = .int .i64 k ∧ Hid (k ≤ l.length ∧ (l.take k).any nanB = false ∧ s = lo (l.take k) ∧ s < 18446744073709551616)) (fun vs vi => l.length - (RowKit.intOf vi).toNat)
  case atStart => exact ⟨0, _, rfl, rfl, hide ⟨Nat.zero_le _, rfl, rfl, by decide⟩⟩
  case round =>
    obtain ⟨k, s, rfl, rfl, HI⟩ := hrel
    obtain ⟨hk, i1, i2, i3⟩ := unhide HI
    by_cases hlt : k < l.length
    · have hlt' : (k : Int) < l.length := by omega
      obtain ⟨xb, xo, rfl, c, hb⟩ := unhide HL k hlt
      by_cases hx : nanB (l.getD k 0) = true
      · have E := hide (show l.any nanB = true by
          rw [List.any_eq_true]; exact ⟨l.getD k 0, by simp [hlt], hx⟩)
        clear i1 i2 i3 HI
        generalize l.getD k 0 = x at *
        go_wp2_with (first | (go_at_call 33; refine (isNaN_ok _ hb _).mono ?_; rintro e w' ⟨rfl, rfl⟩; simp only [hx]) | (go_at_call 24; refine (nan_ok _).mono ?_; rintro e w' ⟨rfl, rfl⟩))
        go_ret
        exact ⟨by unfold least; rw [if_pos (unhide E)]; rfl, rfl⟩
      · have hx' : nanB (l.getD k 0) = false := by simpa using hx
        clear hx
        have J1 := hide (show (l.take (k + 1)).any nanB = false by rw [any_step l k hlt, i1, hx']; rfl)
        have J2 := lo_step l k hlt
        rw [← i2] at J2
        have hcl := cmp3_lt (codeN (l.getD k 0)) (codeN s)
        by_cases hc : codeN (l.getD k 0) < codeN s
        · rw [if_pos hc] at J2
          have h3 : (cmp3 (codeN (l.getD k 0)) (codeN s) < 0) = True := by rw [hcl]; simpa using hc
          have J := hide (show k + 1 ≤ l.length ∧ (l.take (k + 1)).any nanB = false ∧ l.getD k 0 = lo (l.take (k + 1)) ∧ l.getD k 0 < 18446744073709551616 from ⟨hlt, unhide J1, J2.symm, hb⟩)
          clear J1 J2 hcl i1 i2 HI hc
          generalize l.getD k 0 = x at *
          go_wp2_with (first | (go_at_call 33; refine (isNaN_ok _ hb _).mono ?_; rintro e w' ⟨rfl, rfl⟩; simp only [hx']) | (go_at_call 16; refine (cmp_ok _ _ hb i3 _).mono ?_; rintro e w' ⟨rfl, rfl⟩))
          exact ⟨⟨k + 1, x, rfl, by go_num, J⟩, by simp [RowKit.intOf]; omega⟩
        · rw [if_neg hc] at J2
          have h3 : (cmp3 (codeN (l.getD k 0)) (codeN s) < 0) = False := by rw [hcl]; simpa using hc
          have J := hide (show k + 1 ≤ l.length ∧ (l.take (k + 1)).any nanB = false ∧ s = lo (l.take (k + 1)) ∧ s < 18446744073709551616 from ⟨hlt, unhide J1, J2.symm, i3⟩)
          clear J1 J2 hcl i1 i2 HI hc
          generalize l.getD k 0 = x at *
          go_wp2_with (first | (go_at_call 33; refine (isNaN_ok _ hb _).mono ?_; rintro e w' ⟨rfl, rfl⟩; simp only [hx']) | (go_at_call 16; refine (cmp_ok _ _ hb i3 _).mono ?_; rintro e w' ⟨rfl, rfl⟩))
          exact ⟨⟨k + 1, s, rfl, by go_num, J⟩, by simp [RowKit.intOf]; omega⟩
    · have hlt' : ¬ (k : Int) < l.length := by omega
      obtain rfl : k = l.length := by omega
      rw [List.take_length] at i1 i2
      have E := hide (show s = least l by unfold least; rw [i1]; exact i2)
      clear i1 i2 i3 HI hlt hk
      go_wp2
      go_ret
      exact ⟨by rw [unhide E]; rfl, rfl⟩

set_option maxRecDepth 100000 in
set_option maxHeartbeats 1000000 in
theorem max_ok (a : Option Addr) (cap : Nat) (l : List Nat) (w : World) (hl : Fls w a l) (hn : l.length ≤ 1000) : Calls Try.prog 13 #[.slice a l.length cap] w fun e w' => e = .returned (.float .f64 (most l)) ∧ w' = w := by
  have HL := hide hl
  clear hl
  go_enter Try.func13, Try.ntmps13
  go_wp2_with (go_at_call 30; refine (inf_down _).mono ?_; rintro e w' ⟨rfl, rfl⟩)
  go_loop [3, 9] (fun vs vi => ∃ (k s : Nat), vs = .float .f64 s ∧ vi = .int .i64 k ∧ Hid (k ≤ l.length ∧ s < 18446744073709551616 ∧ ((l.take k).any nanB = true ∧ nanB s = true ∨ (l.take k).any nanB = false ∧ nanB s = false ∧ s = hi (l.take k)))) (fun vs vi => l.length - (RowKit.intOf vi).toNat)
  case atStart => exact ⟨0, _, rfl, rfl, hide ⟨Nat.zero_le _, by decide, .inr ⟨rfl, by decide, rfl⟩⟩⟩
  case round =>
    obtain ⟨k, s, rfl, rfl, HI⟩ := hrel
    obtain ⟨hk, i3, i1⟩ := unhide HI
    by_cases hlt : k < l.length
    · have hlt' : (k : Int) < l.length := by omega
      obtain ⟨xb, xo, rfl, c, hb⟩ := unhide HL k hlt
      have J1 := any_step l k hlt
      have J2 := hi_step l k hlt
      have hcl := cmp3_gt (codeN (l.getD k 0)) (codeN s)
      by_cases hc : codeN s < codeN (l.getD k 0)
      · have h3 : (0 < cmp3 (codeN (l.getD k 0)) (codeN s)) = True := by rw [hcl]; simpa using hc
        have J := hide (show k + 1 ≤ l.length ∧ l.getD k 0 < 18446744073709551616 ∧ ((l.take (k + 1)).any nanB = true ∧ nanB (l.getD k 0) = true ∨ (l.take (k + 1)).any nanB = false ∧ nanB (l.getD k 0) = false ∧ l.getD k 0 = hi (l.take (k + 1))) from ⟨hlt, hb, by
          rcases i1 with ⟨j1, j2⟩ | ⟨j1, j2, j3⟩
          · exfalso
            rw [code_nan s j2] at hc
            have : codeN (l.getD k 0) ≤ 18446744073709551615 := by
              by_cases hx : nanB (l.getD k 0) = true
              · rw [code_nan _ hx]; exact Nat.le_refl _
              · exact Nat.le_of_lt (code_num _ hb (by simpa using hx))
            omega
          · rw [J1, j1]
            by_cases hx : nanB (l.getD k 0) = true
            · exact .inl ⟨by rw [hx]; rfl, hx⟩
            · have hx' : nanB (l.getD k 0) = false := by simpa using hx
              exact .inr ⟨by rw [hx']; rfl, hx', by rw [J2, ← j3, if_pos hc]⟩⟩)
        clear J1 J2 hcl i1 HI hc
        generalize l.getD k 0 = x at *
        go_wp2_with (go_at_call 16; refine (cmp_ok _ _ hb i3 _).mono ?_; rintro e w' ⟨rfl, rfl⟩)
        exact ⟨⟨k + 1, x, rfl, by go_num, J⟩, by simp [RowKit.intOf]; omega⟩
      · have h3 : (0 < cmp3 (codeN (l.getD k 0)) (codeN s)) = False := by rw [hcl]; simpa using hc
        have J := hide (show k + 1 ≤ l.length ∧ s < 18446744073709551616 ∧ ((l.take (k + 1)).any nanB = true ∧ nanB s = true ∨ (l.take (k + 1)).any nanB = false ∧ nanB s = false ∧ s = hi (l.take (k + 1))) from ⟨hlt, i3, by
          rcases i1 with ⟨j1, j2⟩ | ⟨j1, j2, j3⟩
          · exact .inl ⟨by rw [J1, j1]; rfl, j2⟩
          · rw [J1, j1]
            by_cases hx : nanB (l.getD k 0) = true
            · exfalso
              rw [code_nan _ hx] at hc
              exact hc (code_num s i3 j2)
            · have hx' : nanB (l.getD k 0) = false := by simpa using hx
              exact .inr ⟨by rw [hx']; rfl, j2, by rw [J2, ← j3, if_neg hc]⟩⟩)
        clear J1 J2 hcl i1 HI hc
        generalize l.getD k 0 = x at *
        go_wp2_with (go_at_call 16; refine (cmp_ok _ _ hb i3 _).mono ?_; rintro e w' ⟨rfl, rfl⟩)
        exact ⟨⟨k + 1, s, rfl, by go_num, J⟩, by simp [RowKit.intOf]; omega⟩
    · have hlt' : ¬ (k : Int) < l.length := by omega
      obtain rfl : k = l.length := by omega
      rw [List.take_length] at i1
      have E := hide (show ∃ o, Is o s ∧ one o = most l by
        rcases i1 with ⟨j1, j2⟩ | ⟨j1, j2, j3⟩
        · exact ⟨none, ⟨i3, .inr ⟨rfl, j2⟩⟩, by unfold most; rw [if_pos j1]; rfl⟩
        · exact ⟨some s, ⟨i3, .inl ⟨rfl, j2⟩⟩, by unfold most; rw [j1]; exact j3⟩)
      clear i1 i3 HI hlt hk
      obtain ⟨o, E1, E2⟩ := unhide E
      have E1' := hide E1
      have E2' := hide E2
      clear E1 E2 E
      go_wp2_with (go_at_call 29; refine (one_ok _ _ (unhide E1') _).mono ?_; rintro e w' ⟨rfl, rfl⟩)
      go_ret
      exact ⟨by rw [← unhide E2']; rfl, rfl⟩
end Go.Proofs.Ytggjcfmoebghjaa
