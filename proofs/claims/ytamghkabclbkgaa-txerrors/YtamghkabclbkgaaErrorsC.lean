/- The closures of TxErrors. -/
import Derived.Test.YtamghkabclbkgaaLw
namespace Go.Proofs.Ytamghkabclbkgaa
open Go.RowKit

theorem put_len (P : List (Int × Int)) (j v : Int) : (put P j v).length ≤ P.length + 1 := by
  unfold put
  split
  · rw [List.length_set]; omega
  · simp

section
variable {w w' : World} {sb b bs nb eb : Nat} {T : Tay} {n : Nat} {A : Ab} {P : List (Int × Int)}

/-- A store's device has a fuse from here on. -/
theorem t_fuse {N : Nat} {free : Prop} {s : Int} {f : Nat → Int} {dd : Bool} (h : StL w sb b T n A P dd) (c : Calm N free A s f) (k : Int) (hk : k < 9223372036854775808) :
    Calls Try.prog 28 #[ptr b, .int .i64 k] w fun e w' => e = .returned (.tuple #[]) ∧ ∃ T' A', Onx w sb b T w' T' n A' P dd ∧ Calm N False A' s f := by
  refine (d_fuse h.dev c k hk).mono ?_
  rintro e w' ⟨rfl, fr, d, c'⟩
  exact ⟨rfl, _, _, h.ondev ⟨d, fr.mono (fun r hr => .inl (.inl hr)), fun _ => .inl⟩ rfl, c'⟩

set_option maxHeartbeats 1000000 in
theorem errors_c1 (h : StL w sb b T n A P false) (ha : A.dead = false) (m : Nat) (hm : m ≤ 15) (hn : 16 ≤ n) (hp : P = []) (e0 : Int) (bs1 : Box w bs (ptr sb)) (bn1 : Box w nb (.int .i64 m)) (be1 : Box w eb (.int .i64 e0)) (t1 : ¬ tfoot sb b T bs) (t2 : ¬ tfoot sb b T nb) (t3 : ¬ tfoot sb b T eb) :
    Calls Try.prog 27 #[ptr nb, ptr bs, ptr eb] w fun e w' => e = .panicked (errnoP e0) ∧ ∃ T' P', Onx w sb b T w' T' n A P' false := by
  have HH := hide h; have HB := hide bs1; have HN := hide bn1; have HE := hide be1; have H1 := hide t1; have H2 := hide t2; have H3 := hide t3
  have hp0 : P.length = 0 := by rw [hp]; rfl
  clear h bs1 bn1 be1 t1 t2 t3 hp
  go_enter Try.func27, Try.ntmps27
  go_wp2_with fail
  go_loopw [3] (fun i wr => ∃ k : Nat, k ≤ m ∧ i = .int .i64 k ∧ ∃ T' P', P'.length ≤ k ∧ Onx w sb b T wr T' n A P' false) (fun i wr => m - (intOf i).toNat)
  case atStart => exact ⟨0, Nat.zero_le _, rfl, T, P, by omega, Onx.start (unhide HH)⟩
  case round =>
    obtain ⟨k, hk, rfl, T', P', hl, o⟩ := hrel
    have cs := ((unhide HB).kept o.fr (unhide H1)).c
    have cn := ((unhide HN).kept o.fr (unhide H2)).c
    have ce := ((unhide HE).kept o.fr (unhide H3)).c
    by_cases hlt : k < m
    · have K : Calls Try.prog 12 #[ptr sb, .int .i64 k, u64 ((k : Int) + 1)] wr _ := t_put o.st ha k ((k : Int) + 1) (by omega) (.inl (by omega))
      have HK := hide K; have HO := hide o
      have w1 : IntKind.u64.wrap ((k : Int) + 1) = (k : Int) + 1 := (wrap_small _ (by omega) (by omega)).2
      clear K o
      go_wp2_with fail
      refine (unhide HK).mono ?_
      clear HK
      rintro e w2 ⟨rfl, T2, -, o2⟩
      have HO2 := hide ((unhide HO).trans o2)
      clear o2 cs cn ce
      go_wp2
      exact ⟨⟨k + 1, by omega, by go_num, T2, _, by have := put_len P' (12400 + (k : Int)) ((k : Int) + 1); omega, unhide HO2⟩, by simp [intOf]; omega⟩
    · obtain rfl : k = m := by omega
      have HO := hide o
      clear o
      go_wp2
      exact ⟨rfl, rfl, T', P', unhide HO⟩

set_option maxHeartbeats 400000 in
theorem errors_c2 (h : StL w sb b T n A P false) (ha : A.dead = false) (hn : 1 < n) (hb : P.length < 6144) (bc : w.cell? ⟨bs, 0, none⟩ = some (ptr sb)) :
    Calls Try.prog 29 #[ptr bs] w fun e w' => e = .returned (.tuple #[]) ∧ ∃ T', Onx w sb b T w' T' n A (put P 12401 5) false := by
  have K : Calls Try.prog 12 #[ptr sb, .int .i64 1, u64 5] w _ := t_put h ha 1 5 hn (.inl hb)
  have HK := hide K
  clear K h
  go_enter Try.func29, Try.ntmps29
  go_wp2_with fail
  refine (unhide HK).mono ?_
  clear HK
  rintro e w1 ⟨rfl, T', -, o⟩
  have HO := hide o
  clear o
  go_wp2
  go_end0
  exact ⟨rfl, T', unhide HO⟩
end
end Go.Proofs.Ytamghkabclbkgaa
