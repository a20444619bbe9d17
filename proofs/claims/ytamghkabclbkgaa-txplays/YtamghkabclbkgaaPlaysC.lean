/- The closures of TxPlays. -/
import Derived.Test.YtamghkabclbkgaaSeq
import Derived.Test.YtamghkabclbkgaaTld
namespace Go.Proofs.Ytamghkabclbkgaa
open Go.RowKit

/-- A word that is none. -/
def off (x : Op7) : Prop := x.i < 0 ∨ 608 ≤ x.i
/-- Its number, where it is one. -/
def ixn (x : Op7) : Nat := x.i.toNat

/-- The lowest eight bits of a word. -/
def low8 (z : Int) : Nat := (BitVec.ofInt 64 z).toNat &&& 255
theorem low8_le (z : Int) : low8 z ≤ 255 := Nat.and_le_right
theorem mask_low8 (z : Int) : bits .and .u64 z 255 = (low8 z : Int) := by
  have hle := low8_le z
  show IntKind.u64.wrap ((BitVec.ofInt 64 z &&& BitVec.ofInt 64 255).toNat : Int) = _
  rw [BitVec.toNat_and]
  have : (BitVec.ofInt 64 255).toNat = 255 := by decide
  rw [this, IntKind.wrap_u64]
  unfold low8 at *
  omega

abbrev other : Value := .string ⟨#[111, 116, 104, 101, 114]⟩

/-- How a change of TxPlays ends, and what was put. -/
def PlR (ls : List Op7) (kd v : Int) (h : How) (P' : List (Int × Int)) : Prop :=
  ((∃ x ∈ ls, off x) ∧ h = .errno 1) ∨
  ((∀ x ∈ ls, ¬ off x) ∧ P' = puts ixn [] ls ∧ ((kd = 2 ∧ h = .errno (low8 v)) ∨ (kd = 3 ∧ h = .bad 9 other) ∨ (kd ≠ 2 ∧ kd ≠ 3 ∧ h = .well)))

set_option maxRecDepth 100000 in
set_option maxHeartbeats 4000000 in
theorem plays_c11 {w : World} {sb b bs lb eb : Nat} {T : Tay} {A : Ab} {Y : Nat → Prop} {vv : Value} {ls : List Op7} {kd ei ev : Int} (h : StL w sb b T 608 A [] false) (ha : A.dead = false) (lv : LsAt w Y vv ls) (hlen : ls.length < 4611686018427387904) (bl : Box w lb vv) (bs1 : Box w bs (ptr sb))
    (oe : w.heap[eb]? = some (.cells #[.int .i64 kd, .int .i64 ei, .int .u64 ev] 31)) (t1 : ¬ tfoot sb b T lb) (t2 : ¬ tfoot sb b T bs) (t3 : ∀ k, Y k → ¬ tfoot sb b T k) (t4 : ¬ tfoot sb b T eb) :
    Calls Try.prog 33 #[ptr lb, ptr bs, ptr eb] w fun e w' => ∃ h : How, h.ended e ∧ (h = .well ∨ (∃ i, h = .errno i) ∨ ∃ y, h = .bad 9 y) ∧ ∃ T' P', Onx w sb b T w' T' 608 A P' false ∧ PlR ls kd ev h P' := by
  obtain ⟨a, cap, rfl, hc⟩ := lv.form
  generalize hll : ls.length = len at *
  have HH := hide h; have HB := hide bs1; have HL := hide bl; have HC := hide hc; have H1 := hide t1; have H2 := hide t2; have H3 := hide t3; have H4 := hide t4; have HLL := hide hll; have HOE := hide oe
  have ml := mask_low8 ev
  have ll := low8_le ev
  clear h bs1 bl hc t1 t2 t3 t4 lv hll oe
  go_enter Try.func33, Try.ntmps33
  go_wp2_with fail
  go_loopw [3] (fun i wr => ∃ k : Nat, k ≤ len ∧ i = .int .i64 k ∧ (∀ x ∈ ls.take k, ¬ off x) ∧ ∃ T', Onx w sb b T wr T' 608 A (puts ixn [] (ls.take k)) false) (fun i wr => len - (intOf i).toNat)
  case atStart => exact ⟨0, Nat.zero_le _, rfl, by simp, T, Onx.start (unhide HH)⟩
  case round =>
    obtain ⟨k, hk, rfl, hno, T', o⟩ := hrel
    have cs := ((unhide HB).kept o.fr (unhide H2)).c
    have cl := ((unhide HL).kept o.fr (unhide H1)).c
    by_cases hlt : k < len
    · obtain ⟨x, hx⟩ : ∃ x, ls[k]? = some x := ⟨_, List.getElem?_eq_getElem (by rw [unhide HLL]; exact hlt)⟩
      obtain ⟨g, rfl, y, _, q1, q2⟩ := unhide HC k x hx
      have c1 := o.fr.cell' q1 (unhide H3 g y)
      have c2 := o.fr.cell' q2 (unhide H3 g y)
      have hmem : x ∈ ls := List.mem_of_getElem? hx
      by_cases hof : off x
      · have K := fun q => t_put_arg (o.st.still ((Fr.refl _ wr).drewN q)) x.i x.v (by unfold off at hof; omega)
        have HK := @hide _ K; have HO := hide o; have HM := hide (⟨x, hmem, hof⟩ : ∃ x ∈ ls, off x)
        clear K o q1 q2 hx hmem hof hno
        generalize x.i = xi at *
        generalize x.v = xv at *
        go_wp2_with fail
        refine region_tailP 11 (by kernel_rfl) (by kernel_rfl) ?_
        simp only [List.take_succ_cons, List.take_zero, List.drop_succ_cons, List.drop_zero]
        repeat (go_big_quiet_step (first | fail))
        refine wpQuiet_nil ?_
        rintro _ ⟨nq, rfl⟩
        have K := unhide HK nq
        have HK2 := hide K
        clear K HK cs cl c1 c2
        go_wp2_with fail
        refine (unhide HK2).mono ?_
        clear HK2
        rintro e w2 ⟨rfl, hh⟩
        replace hh := hh.symm
        subst hh
        exact ⟨rfl, .errno 1, How.ended_one _ _, .inr (.inl ⟨1, rfl⟩), T', _, (unhide HO).quiet ((Fr.refl _ wr).drewN nq), .inl ⟨unhide HM, rfl⟩⟩
      · have pm := puts_more ixn [] ls k x hx
        have hxi : x.i = (ixn x : Int) := by unfold off at hof; unfold ixn; omega
        have hxl : ixn x < 608 := by unfold off at hof; unfold ixn; omega
        have hno2 : ∀ y ∈ ls.take (k + 1), ¬ off y := fun y hy => by
          rw [List.take_add_one, hx] at hy
          rcases List.mem_append.1 hy with h1 | h1
          · exact hno y h1
          · have : y = x := by simpa using h1
            rw [this]; exact hof
        have K := fun q => t_put608 (o.st.still ((Fr.refl _ wr).drewN q)) ha (ixn x) x.v hxl
        rw [hxi] at c1
        have HK := @hide _ K; have HO := hide o; have HPM := hide pm; have HN2 := hide hno2
        clear K o q1 q2 pm hno2 hno hof hx hmem hxi
        generalize ixn x = m at *
        generalize x.v = xv at *
        go_wp2_with fail
        refine region_tailP 11 (by kernel_rfl) (by kernel_rfl) ?_
        simp only [List.take_succ_cons, List.take_zero, List.drop_succ_cons, List.drop_zero]
        repeat (go_big_quiet_step (first | fail))
        refine wpQuiet_nil ?_
        rintro _ ⟨nq, rfl⟩
        have K := unhide HK nq
        have HK2 := hide K
        clear K HK cs cl c1 c2
        go_wp2_with fail
        refine (unhide HK2).mono ?_
        clear HK2
        rintro e w2 ⟨rfl, T2, -, o2⟩
        have o3 := (unhide HO).trans (o2.after ((Fr.refl _ wr).drewN nq))
        rw [← unhide HPM] at o3
        have HO3 := hide o3
        clear o2 o3
        go_wp2
        exact ⟨⟨k + 1, by omega, by go_num, unhide HN2, T2, unhide HO3⟩, by simp [intOf]; omega⟩
    · have ht : ls.take k = ls := List.take_of_length_le (by rw [unhide HLL]; omega)
      rw [ht] at o hno
      have oe := o.fr.obj (unhide HOE) (unhide H4)
      have e0 := cell_of_obj oe 0; have e2 := cell_of_obj oe 2
      have HO := hide o; have HNO := hide hno
      clear o ht oe hno
      by_cases h2 : kd = 2
      · subst h2
        have wz : IntKind.i64.wrap ((low8 ev : Nat) : Int) = (low8 ev : Int) := (wrap_small _ (by omega) (by omega)).1
        go_wp2
        exact ⟨rfl, .errno (low8 ev), How.ended_one _ _, .inr (.inl ⟨_, rfl⟩), T', _, unhide HO, .inr ⟨unhide HNO, rfl, .inl ⟨rfl, rfl⟩⟩⟩
      · by_cases h3 : kd = 3
        · subst h3
          clear h2
          go_wp2
          exact ⟨rfl, .bad 9 other, How.ended_one _ _, .inr (.inr ⟨_, rfl⟩), T', _, unhide HO, .inr ⟨unhide HNO, rfl, .inr (.inl ⟨rfl, rfl⟩)⟩⟩
        · have b2 : (kd == 2) = false := by simp; exact h2
          have b3 : (kd == 3) = false := by simp; exact h3
          have HHH := hide (And.intro h2 h3)
          clear h2 h3
          go_wp2
          go_end0
          exact ⟨.well, rfl, .inl rfl, T', _, unhide HO, .inr ⟨unhide HNO, rfl, .inr (.inr ⟨(unhide HHH).1, (unhide HHH).2, rfl⟩)⟩⟩
end Go.Proofs.Ytamghkabclbkgaa
