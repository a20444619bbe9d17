/- The closures of TxBounds. -/
import Derived.Test.YtamghkabclbkgaaTld
namespace Go.Proofs.Ytamghkabclbkgaa
open Go.RowKit

/-- The first k words, each its number and one. -/
def ramp (k : Nat) : List (Int × Int) := (List.range k).map fun (i : Nat) => (12400 + (i : Int), (i : Int) + 1)
theorem ramp_len (k : Nat) : (ramp k).length = k := by simp [ramp]
theorem ramp_at {k i : Nat} (h : i < k) : (ramp k)[i]? = some (12400 + (i : Int), (i : Int) + 1) := by simp [ramp, h]
theorem ramp_mem {k : Nat} {x : Int × Int} (h : x ∈ ramp k) : ∃ i : Nat, i < k ∧ x = (12400 + (i : Int), (i : Int) + 1) := by
  simp only [ramp, List.mem_map, List.mem_range] at h
  obtain ⟨i, h1, h2⟩ := h
  exact ⟨i, h1, h2.symm⟩
theorem ramp_once (k : Nat) : Once (ramp k) := fun p q x y hp hq e => by
  have lp : p < k := by
    rcases Nat.lt_or_ge p k with h | h
    · exact h
    · rw [List.getElem?_eq_none (by rw [ramp_len]; exact h)] at hp; cases hp
  have lq : q < k := by
    rcases Nat.lt_or_ge q k with h | h
    · exact h
    · rw [List.getElem?_eq_none (by rw [ramp_len]; exact h)] at hq; cases hq
  rw [ramp_at lp] at hp
  rw [ramp_at lq] at hq
  injection hp with hp
  injection hq with hq
  rw [← hp, ← hq] at e
  have e' : (12400 : Int) + p = 12400 + q := e
  omega
theorem ramp_new (k : Nat) : put (ramp k) (12400 + (k : Int)) ((k : Int) + 1) = ramp (k + 1) := by
  rw [put_miss (fun x hx e => by
    obtain ⟨i, h1, rfl⟩ := ramp_mem hx
    have e' : (12400 : Int) + i = 12400 + k := e
    omega)]
  simp [ramp, List.range_succ]
theorem ramp_old {k i : Nat} (h : i < k) : put (ramp k) (12400 + (i : Int)) ((i : Int) + 1) = ramp k := by
  rw [put_hit (ramp_once k) (ramp_at h) rfl]
  apply List.ext_getElem?
  intro j
  rw [List.getElem?_set]
  split
  · rename_i e
    subst e
    rw [ramp_len, if_pos h, ramp_at h]
  · rfl
theorem ramp_tells {k i : Nat} (h : i < k) (f : Nat → Int) : homed (ramp k) f (12400 + i) = (i : Int) + 1 := homed_one (ramp_once k) (ramp_at h) (by simp) f

section
variable {w w' : World} {sb b bs nb tb : Nat} {T : Tay} {n : Nat} {A : Ab} {P : List (Int × Int)}

set_option maxHeartbeats 4000000 in
theorem bounds_c1 (h : StL w sb b T n A P false) (ha : A.dead = false) (m : Nat) (hm : m ≤ 6299) (hn : 6300 ≤ n) (hp : P = []) (tw : Int) (bs1 : Box w bs (ptr sb)) (bn1 : Box w nb (.int .i64 m)) (bt1 : Box w tb (.int .i64 tw)) (t1 : ¬ tfoot sb b T bs) (t2 : ¬ tfoot sb b T nb) (t3 : ¬ tfoot sb b T tb) :
    Calls Try.prog 37 #[ptr nb, ptr bs, ptr tb] w fun e w' => (m ≤ 6144 ∧ e = .returned (.tuple #[]) ∧ ∃ T', Onx w sb b T w' T' n A (ramp m) false) ∨ (6144 < m ∧ e = .panicked (errnoP 5) ∧ ∃ T' P', Onx w sb b T w' T' n A P' false) := by
  subst hp
  have m63 := mask63 tw
  generalize msk tw 63 = q at m63
  have HH := hide h; have HB := hide bs1; have HN := hide bn1; have HT := hide bt1; have H1 := hide t1; have H2 := hide t2; have H3 := hide t3
  clear h bs1 bn1 bt1 t1 t2 t3
  go_enter Try.func37, Try.ntmps37
  go_wp2_with fail
  go_loopw [3] (fun i wr => ∃ k : Nat, k ≤ m ∧ k ≤ 6144 ∧ i = .int .i64 k ∧ ∃ T', Onx w sb b T wr T' n A (ramp k) false) (fun i wr => m - (intOf i).toNat)
  case atStart => exact ⟨0, Nat.zero_le _, by omega, rfl, T, Onx.start (unhide HH)⟩
  case round =>
    obtain ⟨k, hk, hk2, rfl, T', o⟩ := hrel
    have cs := ((unhide HB).kept o.fr (unhide H1)).c
    have cn := ((unhide HN).kept o.fr (unhide H2)).c
    have ct := ((unhide HT).kept o.fr (unhide H3)).c
    have w1 : IntKind.u64.wrap ((k : Int) + 1) = (k : Int) + 1 := (wrap_small _ (by omega) (by omega)).2
    have w2 : IntKind.u64.wrap ((k : Int) / 2 + 1) = (k : Int) / 2 + 1 := (wrap_small _ (by omega) (by omega)).2
    by_cases hlt : k < m
    · by_cases hbig : k < 6144
      · have K := t_put o.st ha k ((k : Int) + 1) (by omega) (.inl (by rw [ramp_len]; exact hbig))
        rw [ramp_new] at K
        have HK := hide K; have HO := hide o
        clear K o
        go_wp2_with fail
        refine (unhide HK).mono ?_
        clear HK
        rintro e w3 ⟨rfl, T2, -, o2⟩
        have o3 := (unhide HO).trans o2
        have cs3 := ((unhide HB).kept o3.fr (unhide H1)).c
        have ct3 := ((unhide HT).kept o3.fr (unhide H3)).c
        have HO3 := hide o3
        clear o2 o3 cs cn ct HO
        by_cases hq : k % 97 = q
        · have K2 := t_put (unhide HO3).st ha (k / 2) (((k / 2 : Nat) : Int) + 1) (by omega) (.inr ⟨_, List.mem_of_getElem? (ramp_at (show k / 2 < k + 1 by omega)), rfl⟩)
          rw [ramp_old (by omega)] at K2
          rw [show ((k / 2 : Nat) : Int) = (k : Int) / 2 by omega] at K2
          have HK2 := hide K2
          have hq' : ((k : Int) % 97 == (q : Int)) = true := by simp; omega
          clear K2 hq
          go_wp2_with fail
          refine (unhide HK2).mono ?_
          clear HK2
          rintro e w4 ⟨rfl, T4, -, o4⟩
          have o5 := (unhide HO3).trans o4
          have cs5 := ((unhide HB).kept o5.fr (unhide H1)).c
          have PD := t_pending o5.st
          rw [ramp_len] at PD
          have HPD := hide PD; have HO5 := hide o5
          clear PD o4 o5 cs3 ct3 HO3 hq'
          go_wp2_with (go_at_call 14; refine (unhide HPD).mono ?_; rintro e w' ⟨rfl, hh⟩; replace hh := hh.symm; subst hh)
          exact ⟨⟨k + 1, by omega, by omega, by go_num, T4, unhide HO5⟩, by simp [intOf]; omega⟩
        · have PD := t_pending (unhide HO3).st
          rw [ramp_len] at PD
          have HPD := hide PD
          have hq' : ((k : Int) % 97 == (q : Int)) = false := by simp; omega
          clear PD hq
          go_wp2_with (go_at_call 14; refine (unhide HPD).mono ?_; rintro e w' ⟨rfl, hh⟩; replace hh := hh.symm; subst hh)
          exact ⟨⟨k + 1, by omega, by omega, by go_num, T2, unhide HO3⟩, by simp [intOf]; omega⟩
      · have hk3 : k = 6144 := by omega
        have K := t_put_big o.st k ((k : Int) + 1) (by omega) (fun x hx e => by
          obtain ⟨i, h1, rfl⟩ := ramp_mem hx
          have e' : (12400 : Int) + i = 12400 + k := e
          omega) (by rw [ramp_len]; exact hk3)
        have HK := hide K; have HO := hide o
        have hk4 : 6144 < m := by omega
        clear K o hk3 hbig
        go_wp2_with fail
        refine (unhide HK).mono ?_
        rintro e w3 ⟨rfl, rfl⟩
        exact ⟨rfl, .inr ⟨hk4, rfl, T', _, unhide HO⟩⟩
    · obtain rfl : k = m := by omega
      have HO := hide o
      clear o
      go_wp2
      go_end0
      exact .inl ⟨hk2, rfl, T', unhide HO⟩

set_option maxHeartbeats 400000 in
theorem bounds_c2 {dd : Bool} (h : StL w sb b T 7600 A P dd) (bc : w.cell? ⟨bs, 0, none⟩ = some (ptr sb)) :
    Calls Try.prog 38 #[ptr bs] w fun e w' => e = .panicked (errnoP 1) ∧ w' = w := by
  have K := hide (t_load_arg h 7600 (.inr (by omega)))
  clear h
  go_enter Try.func38, Try.ntmps38
  go_wp2_with fail
  refine (unhide K).mono ?_
  rintro e w1 ⟨rfl, rfl⟩
  exact ⟨rfl, rfl, rfl⟩
end
end Go.Proofs.Ytamghkabclbkgaa
