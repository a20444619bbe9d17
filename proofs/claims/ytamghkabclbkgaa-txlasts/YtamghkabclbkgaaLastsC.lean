/- The closure of TxLasts. -/
import Derived.Test.YtamghkabclbkgaaSeq
namespace Go.Proofs.Ytamghkabclbkgaa
open Go.RowKit

theorem mask15 (z : Int) : bits .and .i64 z 15 = (msk z 15 : Int) := mask_i64 z 15 (by omega)

set_option maxRecDepth 100000 in
set_option maxHeartbeats 4000000 in
theorem lasts_c1 {w : World} {sb b bs lb : Nat} {T : Tay} {A : Ab} {Y : Nat → Prop} {v : Value} {ls : List Op7} (h : StL w sb b T 608 A [] false) (ha : A.dead = false) (lv : LsAt w Y v ls) (hlen : ls.length < 4611686018427387904) (bl : Box w lb v) (bs1 : Box w bs (ptr sb)) (t1 : ¬ tfoot sb b T lb) (t2 : ¬ tfoot sb b T bs) (t3 : ∀ k, Y k → ¬ tfoot sb b T k) :
    Calls Try.prog 34 #[ptr lb, ptr bs] w fun e w' => e = .returned (.tuple #[]) ∧ ∃ T', Onx w sb b T w' T' 608 A (puts (fun x => msk x.i 15) [] ls) false := by
  obtain ⟨a, cap, rfl, hc⟩ := lv.form
  generalize hll : ls.length = len at *
  have HH := hide h; have HB := hide bs1; have HL := hide bl; have HC := hide hc; have H1 := hide t1; have H2 := hide t2; have H3 := hide t3; have HLL := hide hll
  clear h bs1 bl hc t1 t2 t3 lv hll
  go_enter Try.func34, Try.ntmps34
  go_wp2_with fail
  go_loopw [2] (fun i wr => ∃ k : Nat, k ≤ len ∧ i = .int .i64 k ∧ ∃ T', Onx w sb b T wr T' 608 A (puts (fun x => msk x.i 15) [] (ls.take k)) false) (fun i wr => len - (intOf i).toNat)
  case atStart => exact ⟨0, Nat.zero_le _, rfl, T, Onx.start (unhide HH)⟩
  case round =>
    obtain ⟨k, hk, rfl, T', o⟩ := hrel
    have cs := ((unhide HB).kept o.fr (unhide H2)).c
    have cl := ((unhide HL).kept o.fr (unhide H1)).c
    by_cases hlt : k < len
    · obtain ⟨x, hx⟩ : ∃ x, ls[k]? = some x := ⟨_, List.getElem?_eq_getElem (by rw [unhide HLL]; exact hlt)⟩
      obtain ⟨g, rfl, y, _, q1, q2⟩ := unhide HC k x hx
      have c1 := o.fr.cell' q1 (unhide H3 g y)
      have c2 := o.fr.cell' q2 (unhide H3 g y)
      have pm := puts_more (fun x => msk x.i 15) [] ls k x hx
      have m15 := mask15 x.i
      have l15 := msk_le x.i 15
      have K := fun q => t_put608 (o.st.still ((Fr.refl _ wr).drewN q)) ha (msk x.i 15) x.v (by omega)
      have HK := @hide _ K; have HO := hide o; have HPM := hide pm
      clear K o q1 q2 pm
      generalize msk x.i 15 = m at *
      generalize x.i = xi at *
      generalize x.v = xv at *
      go_wp2_with fail
      refine region_tailP 12 (by kernel_rfl) (by kernel_rfl) ?_
      simp only [List.take_succ_cons, List.take_zero, List.drop_succ_cons, List.drop_zero]
      repeat (go_big_quiet_step (first | fail))
      refine wpQuiet_nil ?_
      rintro _ ⟨nq, rfl⟩
      have K := unhide HK nq
      have HK2 := hide K
      clear K HK cs cl c1 c2
      go_wp2_with fail
      refine (unhide HK2).mono ?_
      clear HK2
      rintro e w2 ⟨rfl, T2, -, o2⟩
      have o3 := (unhide HO).trans (o2.after ((Fr.refl _ wr).drewN nq))
      rw [← unhide HPM] at o3
      have HO3 := hide o3
      clear o2 o3
      go_wp2
      exact ⟨⟨k + 1, by omega, by go_num, T2, unhide HO3⟩, by simp [intOf]; omega⟩
    · have hke : k = len := by omega
      have ht : ls.take k = ls := List.take_of_length_le (by rw [unhide HLL]; omega)
      rw [ht] at o
      have HO := hide o
      clear o ht hke
      go_wp2
      go_end0
      exact ⟨rfl, T', unhide HO⟩
end Go.Proofs.Ytamghkabclbkgaa
