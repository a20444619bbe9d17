/- GuardFirst, walked. -/
import Derived.Test.YtebfocfofoajkaaFirstW
namespace Go.Proofs.Ytebfocfofoajkaa
open Go.RowKit

theorem tmod_bounds (a : Int) (N : Nat) (hN : 0 < N) : -(N : Int) < a.tmod N ∧ a.tmod N < N := by
  have h0 : (0 : Int) < N := by omega
  rcases (by omega : 0 ≤ a ∨ 0 ≤ -a) with h | h
  · rw [Int.tmod_eq_emod_of_nonneg h]
    have := Int.emod_nonneg a (b := N) (by omega); have := Int.emod_lt_of_pos a h0
    omega
  · have e : a.tmod N = -((-a).tmod N) := by rw [Int.neg_tmod, Int.neg_neg]
    rw [e, Int.tmod_eq_emod_of_nonneg h]
    have := Int.emod_nonneg (-a) (b := N) (by omega); have := Int.emod_lt_of_pos (-a) h0
    omega

/-- The place that the law takes: at, brought below n. -/
theorem place (a : Int) (m : Nat) (hm : m ≤ 15) : ∃ p : Nat, (wrap64 (a.tmod ((m : Int) + 1) + ((m : Int) + 1))).tmod ((m : Int) + 1) = (p : Int) ∧ p < m + 1 := by
  have hb := tmod_bounds a (m + 1) (by omega)
  have ec : ((m + 1 : Nat) : Int) = (m : Int) + 1 := by omega
  rw [ec] at hb
  generalize a.tmod ((m : Int) + 1) = t at hb
  have hw : wrap64 (t + ((m : Int) + 1)) = t + ((m : Int) + 1) := by simp only [wrap64]; omega
  rw [hw]
  have h0 : 0 ≤ t + ((m : Int) + 1) := by omega
  rw [Int.tmod_eq_emod_of_nonneg h0]
  have h1 := Int.emod_nonneg (t + ((m : Int) + 1)) (b := (m : Int) + 1) (by omega)
  have h2 := Int.emod_lt_of_pos (t + ((m : Int) + 1)) (b := (m : Int) + 1) (by omega)
  exact ⟨((t + ((m : Int) + 1)) % ((m : Int) + 1)).toNat, by omega, by omega⟩

theorem laid_first (A E : Int) (w : World) : FSt w A E 0 (.slice none 0 0) (fun _ => w.heap.size + 3) ((((w.alloc (.cells #[.int .i64 A] 3)).alloc (.cells #[.int .i64 E] 3)).alloc (.cells #[.slice none 0 0] 22)).alloc (.cells #[.int .i64 0] 3)) := by
  have fa : ∀ (u : World) (o : Obj), Still u (u.alloc o) := fun u o => (Fr.refl _ u).alloc o
  have f1 := fa w (.cells #[.int .i64 A] 3)
  have f2 := fa (w.alloc (.cells #[.int .i64 A] 3)) (.cells #[.int .i64 E] 3)
  have f3 := fa ((w.alloc (.cells #[.int .i64 A] 3)).alloc (.cells #[.int .i64 E] 3)) (.cells #[.slice none 0 0] 22)
  have f4 := fa (((w.alloc (.cells #[.int .i64 A] 3)).alloc (.cells #[.int .i64 E] 3)).alloc (.cells #[.slice none 0 0] 22)) (.cells #[.int .i64 0] 3)
  have n1 := obj_alloc_new w (.cells #[.int .i64 A] 3)
  have n2 := obj_alloc_new (w.alloc (.cells #[.int .i64 A] 3)) (.cells #[.int .i64 E] 3)
  have n3 := obj_alloc_new ((w.alloc (.cells #[.int .i64 A] 3)).alloc (.cells #[.int .i64 E] 3)) (.cells #[.slice none 0 0] 22)
  have n4 := obj_alloc_new (((w.alloc (.cells #[.int .i64 A] 3)).alloc (.cells #[.int .i64 E] 3)).alloc (.cells #[.slice none 0 0] 22)) (.cells #[.int .i64 0] 3)
  simp only [World.size_alloc] at n2 n3 n4
  refine ⟨((f1.trans f2).trans f3).trans f4, by simp, ((f2.trans f3).trans f4).obj n1 (fun h => h), (f3.trans f4).obj n2 (fun h => h), f4.obj n3 (fun h => h), World.ownsRow_nil _ _ _ _, fun j hj => ?_⟩
  obtain rfl : j = 0 := by omega
  exact ⟨n4, Nat.le_refl _⟩

/-- How long a slice is. -/
def lenOf : Value → Nat
  | .slice _ n _ => n
  | _ => 0
theorem owns_len {w : World} {base size n : Nat} {e : TypeId} {v : Value} {xs : List Value} (h : w.ownsRow base e size v n xs) : lenOf v = n := by
  rcases h.2 with ⟨rfl, rfl⟩ | ⟨g, cap, cur, rfl, _⟩ <;> rfl

set_option maxHeartbeats 8000000 in
theorem first_walk (a0 a1 a2 : Int) (w : World) (h2 : -9223372036854775808 ≤ a2 ∧ a2 ≤ 9223372036854775807) : Calls Try.prog 4 #[.int .i64 a0, .int .i64 a1, .int .i64 a2] w fun e w' => e = .returned (.bool true) ∧ Still w w' := by
  have h1 := mf
  have hi := info1
  obtain ⟨i0, hi0⟩ : ∃ i, Try.prog.info? 1 = some i := by
    cases h : Try.prog.info? 1 with
    | none => rw [h] at hi; simp at hi
    | some i => exact ⟨i, rfl⟩
  rw [hi0] at hi
  simp only [Option.map_some, Option.some.injEq, Prod.mk.injEq] at hi
  have HI := hide (And.intro hi0 hi)
  have hm := mask15 a0
  have hml := msk_le a0 15
  generalize msk a0 15 = m at hm hml
  obtain ⟨p, hp, hpm⟩ := place a1 m hml
  have hv2 : wrap64 (wrap64 (a2 + p) - p) = a2 := by simp only [wrap64]; omega
  have HV2 := hide hv2
  have E0 := hide (laid_first p a2 w)
  clear hi hi0 hv2 h2
  go_enter Try.func4, Try.ntmps4
  go_wp2
  go_loopw [8, 9] (fun l q wr => ∃ (k : Nat) (pi : Nat → Nat), k ≤ m + 1 ∧ q = ptr (pi k) ∧ FSt w p a2 k l pi wr) (fun l q wr => m + 1 - lenOf l)
  case atStart => exact ⟨0, _, Nat.zero_le _, rfl, unhide E0⟩
  case round =>
    obtain ⟨k, pi, hk, rfl, hE⟩ := hrel
    have hlen := owns_len hE.own
    have ck := cell_of_obj (hE.is k (Nat.le_refl _)).1 0
    by_cases hlt : k < m + 1
    · have hlt' : (k : Int) < (m : Int) + 1 := by omega
      have sz := hE.sz
      have f2 : Still wr (wr.alloc (.cells #[clo w.heap.size (pi k)] 1)) := (Fr.refl _ wr).alloc _
      have hE2 := hE.keep f2
      have OWN := hide hE2.own
      have HE2 := hide hE2
      have fl : (cvals w.heap.size pi k).length = k := by simp [cvals]
      generalize hfv : cvals w.heap.size pi k = vals at OWN fl
      have HFV := hide hfv; have HL := hide hlen
      clear hE hE2 f2 hfv hlen
      go_wp2_with (at_builtin; refine wpList_append_own _ rfl _ _ 33 rfl (w.heap.size + 3) 1 i0 .nilFunc 1 8 Try.underlying33 (unhide HI).1 (unhide HI).2.1 (unhide HI).2.2.1 (unhide HI).2.2.2 rfl (by decide) _ k vals rfl (unhide OWN) _ 1 1 [clo w.heap.size (pi k)] rfl rfl ?c1 ?c2 ?c3 ?c4 ?c5 ?_)
      case c1 => exact cell_one_new _ _ _
      case c2 => intro u hu; simp at hu; subst hu; rfl
      case c3 => unfold maxLen; omega
      case c4 => omega
      case c5 => simp; omega
      intro v' w2 hown' hgrow' _
      have hE3 := (unhide HE2).push (by rw [unhide HFV]; exact hown') hgrow'
      have l3 := owns_len hown'
      have f3 : Still w2 (w2.alloc (.cells #[.int .i64 ((k : Int) + 1)] 3)) := (Fr.refl _ _).alloc _
      have c3 : w2.cell? ⟨pi k, 0, none⟩ = some (.int .i64 k) := by
        have h3 := (hE3.is k (by omega)).1
        simp only [if_neg (show ¬ k = k + 1 by omega)] at h3
        have lt : pi k < w2.heap.size := Nat.lt_of_lt_of_le (lt_of_obj ((unhide HE2).is k (Nat.le_refl _)).1) hgrow'.size
        have := cell_of_obj h3 0
        rw [World.cell?_alloc_lt _ _ _ lt] at this
        exact this
      have HE3 := hide hE3; have HL3 := hide l3
      clear hE3 hown' hgrow' l3 f3 OWN HE2 HFV ck
      go_wp2
      have q1 := unhide HL; have q2 := unhide HL3
      exact ⟨⟨k + 1, _, by omega, by simp, unhide HE3⟩, by omega⟩
    · obtain rfl : k = m + 1 := by omega
      have hlt' : ¬ (((m + 1 : Nat) : Int)) < (m : Int) + 1 := by omega
      have K := hide (first_each hE (by omega) hpm)
      have t1 := taE_errno
      clear hE hlen hlt
      go_wp2_with fail
      refine (unhide K).mono ?_
      rintro e w1 ⟨v, rfl, hv, f1, o1, o2, dv, o3, od⟩
      rw [unhide HV2] at hv
      subst hv
      have c1 := cell_of_obj o1 0; have c2 := cell_of_obj o2 0; have c3 := cell_of_obj o3 0
      have F1 := hide f1
      clear K f1 o1 o2 o3 ck
      rcases od.2 with ⟨rfl, rfl⟩ | ⟨g, dcap, cur, rfl, _⟩
      · clear od
        go_wp2
        go_loop [14] (fun i => i = .int .i64 0) (fun _ => 0)
        case atStart => rfl
        case round =>
          subst hrel
          have K9 := hide (awake_ok w1)
          go_wp2_with fail
          refine (unhide K9).mono ?_
          rintro e w9 ⟨rfl, f9⟩
          have F9 := hide ((unhide F1).trans f9)
          clear K9 f9
          go_wp2
          go_ret
          exact ⟨rfl, unhide F9⟩
      · have dc : ∀ q, q < p → w1.cell? ⟨g, q, none⟩ = some (.int .i64 q) := by
          intro q hq
          rw [od.cellAt q (by omega)]
          simp [natVals, hq]
        have DC := hide dc
        clear dc od
        go_wp2
        go_loop [14] (fun i => ∃ q : Nat, q ≤ p ∧ i = .int .i64 q) (fun i => p - (intOf i).toNat)
        case atStart => exact ⟨0, Nat.zero_le _, rfl⟩
        case round =>
          obtain ⟨q, hq, rfl⟩ := hrel
          by_cases hqp : q < p
          · have hqp' : (q : Int) < p := by omega
            have c4 := unhide DC q hqp
            go_wp2
            go_round
            case rel => exact ⟨q + 1, by omega, by go_num⟩
            case measure => simp [intOf]; omega
          · have hqp' : ¬ (q : Int) < p := by omega
            have K9 := hide (awake_ok w1)
            go_wp2_with fail
            refine (unhide K9).mono ?_
            rintro e w9 ⟨rfl, f9⟩
            have F9 := hide ((unhide F1).trans f9)
            clear K9 f9
            go_wp2
            go_ret
            exact ⟨rfl, unhide F9⟩
end Go.Proofs.Ytebfocfofoajkaa
