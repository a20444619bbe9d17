/- The law's own 'sound': pieces in a row of structs lie apart, and a heap tells them. -/
import Derived.Test.YtacfmmbdeajjbaaGreatDoorFuC
import Derived.Test.YtacfmmbdeajjbaaGreatDoorHe
import Derived.Test.YtacfmmbdeajjbaaGreatDoorHs
namespace Go.Proofs.YtacfmmbdeajjbaaGreatDoor
open Go.RowKit

section
variable {F : Nat → Nat → Bool} {K : Nat → Nat} {u v : Nat}
theorem Inv.apart (h : Inv F K (fun _ => 0)) (hu : K u ≠ 0) (hv : K v ≠ 0) (hlt : u < v) : 8 * u + K u ≤ 8 * v := by
  refine Classical.byContradiction fun hn => ?_
  obtain ⟨h1, _, h3⟩ := h.lift hu
  have a := h.asks u hu
  have hl := lv_holds (K u) a.2.1
  have hd : v / 2 ^ lv (K u) = u / 2 ^ lv (K u) := by
    have e : u = 2 ^ lv (K u) * (u / 2 ^ lv (K u)) := by rw [Nat.mul_comm]; exact h3.symm
    have p := two_pos (lv (K u))
    generalize u / 2 ^ lv (K u) = c at *
    generalize 2 ^ lv (K u) = Y at *
    refine Nat.div_eq_of_lt_le ?_ ?_
    · rw [Nat.mul_comm]; omega
    · rw [Nat.add_mul, Nat.mul_comm c Y]; omega
  have := h1.unasked (u := v) (h.asks v hv).1 (by unfold ind; rw [if_pos hd])
  unfold setK at this
  rw [if_neg (by omega)] at this
  exact hv this

/-- The words that the first n pieces of a row hold, by units. -/
def ps (ls : List (Nat × Nat)) (n : Nat) : Nat := ((ls.take n).map fun y => 2 ^ lv y.2).sum
theorem ps_zero (ls : List (Nat × Nat)) : ps ls 0 = 0 := rfl
theorem ps_one {ls : List (Nat × Nat)} {n : Nat} {y : Nat × Nat} (h : ls[n]? = some y) : ps ls (n + 1) = ps ls n + 2 ^ lv y.2 := by
  unfold ps
  rw [List.take_add_one, h]
  simp
theorem ps_all {ls : List (Nat × Nat)} (l : Lists K ls) : ps ls ls.length = inP K := by
  unfold ps
  rw [List.take_length]
  exact l.sum

theorem ps_mono (ls : List (Nat × Nat)) {a b : Nat} (h : a ≤ b) : ps ls a ≤ ps ls b := by
  induction b with
  | zero => rw [show a = 0 by omega]; exact Nat.le_refl _
  | succ c ih =>
    rcases Nat.lt_or_ge a (c + 1) with h1 | h1
    · refine Nat.le_trans (ih (by omega)) ?_
      cases e : ls[c]? with
      | none => unfold ps; rw [List.take_add_one, e]; simp
      | some y => rw [ps_one e]; exact Nat.le_add_right _ _
    · rw [show a = c + 1 by omega]; exact Nat.le_refl _

theorem ex_at {U : List Nat} {q m : Nat} (h : U.length = m) (hq : q < m) : ∃ x, U[q]? = some x := ⟨U[q]'(by omega), List.getElem?_eq_getElem _⟩
theorem rise_at {U : List Nat} (h : U.Pairwise (· < ·)) {q x x' : Nat} (hx : U[q + 1]? = some x) (hx' : U[q]? = some x') : x' < x := by
  obtain ⟨a, e⟩ := List.getElem?_eq_some_iff.1 hx
  obtain ⟨b, e'⟩ := List.getElem?_eq_some_iff.1 hx'
  rw [← e, ← e']
  exact List.pairwise_iff_getElem.1 h q (q + 1) b a (by omega)

/-- Where a piece of the row stands among the rising ones. -/
theorem Lists.place {ls : List (Nat × Nat)} (l : Lists K ls) (hi : Inv F K (fun _ => 0)) {y : Nat × Nat} (hy : y ∈ ls) :
    ∃ p, p < ls.length ∧ (plU K 478)[p]? = some y.1 ∧ ∀ j x, (plU K 478)[j]? = some x → (x = y.1 ↔ j = p) := by
  have o := l.only y hy
  have hn : K y.1 ≠ 0 := by rw [o.1]; exact o.2
  have hm : y.1 ∈ plU K 478 := plU_mem.2 ⟨(hi.asks _ hn).1, hn⟩
  obtain ⟨p, hp, e⟩ := List.mem_iff_getElem.1 hm
  have len : (plU K 478).length = ls.length := by rw [plU_len, l.len]; rfl
  have rise := List.pairwise_iff_getElem.1 (plU_rise (K := K) 478)
  refine ⟨p, by omega, by rw [List.getElem?_eq_getElem hp, e], fun j x hj => ?_⟩
  obtain ⟨hj', ej⟩ := List.getElem?_eq_some_iff.1 hj
  constructor
  · intro e2
    rcases Nat.lt_trichotomy j p with h | h | h
    · have := rise j p hj' hp h; omega
    · exact h
    · have := rise p j hp hj' h; omega
  · rintro rfl
    rw [← ej, ← e]
end

/-- Pieces lie in a row of structs. -/
def PcsAt (w : World) (a : Option Addr) (ls : List (Nat × Nat)) : Prop :=
  ∀ k y, ls[k]? = some y → ∃ xb xo, a = some ⟨xb, xo, none⟩ ∧ w.cell? ⟨xb, xo + k * 2, none⟩ = some (.int .i64 (160 + (y.1 : Int) * 8)) ∧ w.cell? ⟨xb, xo + k * 2 + 1, none⟩ = some (.int .i64 (y.2 : Nat))
theorem PcsAt.kept {w w' : World} {a : Option Addr} {ls : List (Nat × Nat)} (h : PcsAt w a ls) (f : Still w w') : PcsAt w' a ls := fun k y hy => by
  obtain ⟨xb, xo, e, h1, h2⟩ := h k y hy
  exact ⟨xb, xo, e, f.cell' h1 (fun x => x), f.cell' h2 (fun x => x)⟩

variable {w : World} {hb sb b : Nat} {T : Tay} {A : Ab} {P : List (Int × Int)}

set_option maxRecDepth 20000 in
set_option maxHeartbeats 8000000 in
theorem l8_sound (h : Hp w hb sb b T A P) (s : HpS (says P A)) (a : Option Addr) (cap : Nat) (ls : List (Nat × Nat)) (l : Lists (ask (says P A)) ls) (pc : PcsAt w a ls) :
    Calls Tryz.prog 17 #[ptr hb, .slice a ls.length cap, .int .i64 3824] w fun e w' => e = .returned (.bool true) ∧ Still w w' := by
  have PS := h_pieces h s
  rw [← l.len] at PS
  have hm478 : ls.length ≤ 478 := by have := cnt_le (ask (says P A)); rw [← l.len] at this; exact this
  have AL : ∀ w1, Still w w1 → Calls Tryz.prog 7 #[ptr hb] w1 fun e w' => e = .returned (.int .i64 3824) ∧ w' = w1 := fun w1 f1 => h_all hb 478 (by omega) w1 (h.still f1).hp.c1
  have HH := hide h; have HS := hide s; have HL := hide l; have HPC := hide pc; have HPS := hide PS; have HAL := @hide _ AL
  clear h s l pc PS AL
  go_enter Tryz.func17, Tryz.ntmps17
  go_wp2_with fail
  refine (unhide HPS).mono ?_
  clear HPS
  rintro e w1 ⟨v, rfl, own, f1⟩
  obtain ⟨ad, cp, ev⟩ : ∃ ad cp, v = .slice ad ls.length cp := by
    rcases row_form own with ⟨ev, e0⟩ | ⟨gg, cp, ev⟩
    · exact ⟨none, 0, by rw [ev, e0]⟩
    · exact ⟨_, cp, ev⟩
  subst ev
  have HOWN := hide own; have HF1 := hide f1; have HA1 := hide (unhide HAL w1 f1)
  clear own f1 HAL
  obtain ⟨m, hm⟩ : ∃ m, ls.length = m := ⟨_, rfl⟩
  rw [hm] at hm478 HOWN ⊢
  have HM := hide hm
  clear hm
  go_wp2_with fail
  refine (unhide HA1).mono ?_
  clear HA1
  rintro e w' ⟨rfl, hh⟩
  replace hh := hh.symm
  subst hh
  go_wp2_with fail
  go_loopw [7, 9] (fun fr i wr => ∃ n : Nat, n ≤ m ∧ i = .int .i64 n ∧ fr = .int .i64 (3824 - 8 * (ps ls n : Int)) ∧ Still w1 wr) (fun fr i wr => 500 - (intOf i).toNat)
  case atStart => exact ⟨0, by omega, rfl, by rw [ps_zero]; rfl, Fr.refl _ _⟩
  case round =>
    obtain ⟨n, hn, rfl, rfl, hf⟩ := hrel
    by_cases hlt : n < m
    · obtain ⟨y, hy⟩ : ∃ y, ls[n]? = some y := ⟨ls[n]'(by have := unhide HM; omega), List.getElem?_eq_getElem _⟩
      have hym := List.mem_of_getElem? hy
      have l := unhide HL
      have s := unhide HS
      have hon := l.only y hym
      have hyn : ask (says P A) y.1 ≠ 0 := by rw [hon.1]; exact hon.2
      obtain ⟨y4, y5, y6, y7⟩ := s.inv.asks _ hyn
      rw [hon.1] at y5 y6 y7
      have pc := ((unhide HPC).kept (unhide HF1)).kept hf
      obtain ⟨xb, xo, ea, ca0, ca1⟩ := pc n y hy
      have pone := ps_one hy
      have hps : ps ls (n + 1) ≤ 478 := by
        have h1 := ps_all l
        have h2 := s.inv.room
        have h3 := ps_mono ls (a := n + 1) (b := ls.length) (by have := unhide HM; omega)
        omega
      obtain ⟨p, hp, hpe, hpu⟩ := l.place s.inv hym
      rw [unhide HM] at hp
      have HOL := l8_holds y.2 (by have := hon.2; omega) y5 wr
      obtain ⟨Y, hY⟩ : ∃ Y, 2 ^ lv y.2 = Y := ⟨_, rfl⟩
      obtain ⟨S, hS⟩ : ∃ S, ps ls n = S := ⟨_, rfl⟩
      rw [hY] at HOL pone
      rw [hS] at pone
      rw [pone] at hps
      have e8 : ((8 * Y : Nat) : Int) = 8 * (Y : Int) := by simp
      rw [e8] at HOL
      obtain ⟨yu, yx⟩ := y
      simp only [] at *
      subst ea
      rw [hS]
      have hle : (3824 : Int) - 8 * (S : Int) - 8 * (Y : Int) = 3824 - 8 * ((S : Int) + Y) := by omega
      have HHOL := hide HOL; have HFF := hide hf; have HPO := hide (And.intro pone (And.intro hS hy)); have HPU := hide (And.intro hpu (And.intro hpe (And.intro hon hyn)))
      clear HOL hf pone hS hy hpu hpe hon hyn pc l s hym
      go_wp2_with fail
      refine (unhide HHOL).mono ?_
      clear HHOL
      rintro e w2 ⟨rfl, D2⟩
      have HF2 := hide ((unhide HFF).trans' D2.still (fun _ x => x.elim))
      have ca0' := D2.still.cell' ca0 (fun x => x)
      have ca1' := D2.still.cell' ca1 (fun x => x)
      clear D2 ca0 ca1 HFF
      go_wp2_with fail
      have own := unhide HOWN
      obtain ⟨gg, ead⟩ : ∃ gg, ad = some ⟨gg, 0, none⟩ := by
        rcases row_form own with ⟨_, e0⟩ | ⟨gg, cp', ev⟩
        · omega
        · injection ev with ev1 ev2 ev3
          exact ⟨gg, ev1⟩
      subst ead
      clear own
      go_loopw [10, 11] (fun b k wx => ∃ q : Nat, q ≤ m ∧ k = .int .i64 q ∧ b = .bool (decide (p < q)) ∧ Still w1 wx) (fun b k wx => 500 - (intOf k).toNat)
      case atStart => exact ⟨0, by omega, rfl, by simp, unhide HF2⟩
      case round =>
        clear ca0' ca1'
        obtain ⟨q, hq, rfl, rfl, hf⟩ := hrel
        by_cases hlt2 : q < m
        · have own := unhide HOWN
          have pc := ((unhide HPC).kept (unhide HF1)).kept hf
          obtain ⟨pone, hS, hy⟩ := unhide HPO
          obtain ⟨xb', xo', ea, ca0, ca1⟩ := pc n _ hy
          injection ea with ea
          injection ea with ea1 ea2
          subst ea1 ea2
          obtain ⟨hpu, hpe, hon, hyn⟩ := unhide HPU
          have hlu : (plU (ask (says P A)) 478).length = m := by rw [plU_len, ← unhide HM, (unhide HL).len]; rfl
          obtain ⟨x, hx⟩ : ∃ x, (plU (ask (says P A)) 478)[q]? = some x := ⟨(plU (ask (says P A)) 478)[q]'(by omega), List.getElem?_eq_getElem _⟩
          have hxe := hpu q x hx
          have cq : wr.cell? ⟨gg, q, none⟩ = some (.int .i64 (160 + (x : Int) * 8)) := by
            refine hf.cell' ?_ (fun x => x)
            rw [own.cellAt q (by omega)]
            simp [natVals, plP, hx]
          have HF3 := hide hf
          clear own pc pone hS hy hpu hpe hon hyn hlu hx hf
          by_cases hpq : p < q
          · have g1 : decide (p < q) = true := decide_eq_true hpq
            have g2 : decide (p < q + 1) = true := decide_eq_true (by omega)
            rw [g1]
            clear hxe
            go_wp2_with fail
            go_quiet (fail)
            go_wp2
            refine ⟨⟨q + 1, by omega, by go_num, by rw [g2], ?_⟩, by simp [intOf]; omega⟩
            exact (unhide HF3).drewN _
          · have g1 : decide (p < q) = false := decide_eq_false hpq
            rw [g1]
            by_cases hqp : q = p
            · have hxy := hxe.2 hqp
              rw [hxy] at cq
              have g2 : decide (p < q + 1) = true := decide_eq_true (by omega)
              clear hxe hqp hxy
              go_wp2_with fail
              go_quiet (fail)
              go_wp2
              refine ⟨⟨q + 1, by omega, by go_num, by rw [g2], ?_⟩, by simp [intOf]; omega⟩
              exact (unhide HF3).drewN _
            · have hxy : ¬ x = yu := fun e => hqp (hxe.1 e)
              have g3 : ((160 + (x : Int) * 8) == 160 + (yu : Int) * 8) = false := by simp; omega
              clear hxe
              have g2 : decide (p < q + 1) = false := decide_eq_false (by omega)
              go_wp2_with fail
              go_quiet (fail)
              go_wp2
              refine ⟨⟨q + 1, by omega, by go_num, by rw [g2], ?_⟩, by simp [intOf]; omega⟩
              exact (unhide HF3).drewN _
        · have : m = q := by omega
          subst this
          rw [decide_eq_true hp]
          have hpH := (unhide HH).still ((unhide HF1).trans' hf (fun _ x => x.elim))
          obtain ⟨hpu, hpe, hon, hyn⟩ := unhide HPU
          have hbg : begs (ask (says P A)) yu = true := by unfold begs; rw [hon.1]; exact decide_eq_true ⟨hon.2, y5, y6, y7⟩
          have SZ := fun z => h_size (hpH.hp.drew z) (hpH.reads.dr ⟨z, rfl⟩) (unhide HS).wd yu y4 hbg
          rw [hon.1] at SZ
          have HSZ := @hide _ SZ
          have pc := ((unhide HPC).kept (unhide HF1)).kept hf
          obtain ⟨pone, hS, hy⟩ := unhide HPO
          obtain ⟨xb', xo', ea, ca0, ca1⟩ := pc n _ hy
          injection ea with ea
          injection ea with ea1 ea2
          subst ea1 ea2
          have e1 : ((160 + (yu : Int) * 8) < 1) = False := by simp; omega
          have e3 : ((160 + (yu : Int) * 8) % 8 != 0) = false := by simp
          have HF3 := hide hf
          clear SZ hpH pc pone hS hy hpu hpe hon hyn hf
          go_wp2_with fail
          refine region_tailP 33 (by kernel_rfl) (by kernel_rfl) ?_
          simp only [List.take_succ_cons, List.take_zero, List.drop_succ_cons, List.drop_zero]
          repeat (go_big_quiet_step (first | (go_at_call 43; exact Calls.quiet_of ((unhide HSZ _).mono fun e w' h => ⟨h.1, h.2⟩))))
          refine wpQuiet_nil ?_
          rintro _ ⟨nq, rfl⟩
          clear HSZ
          go_wp2_with fail
          have HF4 := hide ((unhide HF3).drewN nq)
          generalize wr.drewN nq = w4 at *
          clear ca0 ca1 HF3 e1 e3
          go_loopw [12] (fun k wx => ∃ q : Nat, q ≤ n ∧ k = .int .i64 q ∧ Still w1 wx) (fun k wx => 500 - (intOf k).toNat)
          case atStart => exact ⟨0, by omega, rfl, unhide HF4⟩
          case round =>
            obtain ⟨q, hq, rfl, hf⟩ := hrel
            by_cases hlt3 : q < n
            · obtain ⟨y', hy'⟩ : ∃ y, ls[q]? = some y := ⟨ls[q]'(by have := unhide HM; omega), List.getElem?_eq_getElem _⟩
              have l := unhide HL
              have s := unhide HS
              obtain ⟨hpu, hpe, hon, hyn⟩ := unhide HPU
              obtain ⟨pone, hS, hy⟩ := unhide HPO
              have hon' := l.only y' (List.mem_of_getElem? hy')
              have hyn' : ask (says P A) y'.1 ≠ 0 := by rw [hon'.1]; exact hon'.2
              have y4' := (s.inv.asks _ hyn').1
              have y5' := (s.inv.asks _ hyn').2.1
              rw [hon'.1] at y5'
              have hne : yu ≠ y'.1 := fun e => by
                have := l.nodup
                have h1 : (ls.map Prod.fst)[n]? = some yu := by rw [List.getElem?_map, hy]; rfl
                have h2 : (ls.map Prod.fst)[q]? = some y'.1 := by rw [List.getElem?_map, hy']; rfl
                obtain ⟨b1, e1⟩ := List.getElem?_eq_some_iff.1 h1
                obtain ⟨b2, e2⟩ := List.getElem?_eq_some_iff.1 h2
                exact List.pairwise_iff_getElem.1 this q n b2 b1 hlt3 (by rw [e1, e2, e])
              have hap : 8 * y'.1 + y'.2 ≤ 8 * yu ∨ 8 * yu + yx ≤ 8 * y'.1 := by
                rcases Nat.lt_or_gt_of_ne hne with h | h
                · right
                  have := s.inv.apart hyn hyn' h
                  rw [hon.1] at this
                  exact this
                · left
                  have := s.inv.apart hyn' hyn h
                  rw [hon'.1] at this
                  exact this
              have pc := ((unhide HPC).kept (unhide HF1)).kept hf
              obtain ⟨xb', xo', ea, ca0, ca1⟩ := pc n _ hy
              injection ea with ea
              injection ea with ea1 ea2
              subst ea1 ea2
              obtain ⟨xb', xo', ea, cb0, cb1⟩ := pc q _ hy'
              injection ea with ea
              injection ea with ea1 ea2
              subst ea1 ea2
              obtain ⟨vu, vx⟩ := y'
              simp only [] at *
              have HF5 := hide hf
              have yx1 : 1 ≤ yx := by have := hon.2; omega
              clear hpu hpe hon hyn pone hS hy hon' hyn' l s pc hf hne hy'
              have hqm : q < m := by omega
              have fA := (Fr.refl (fun _ => False) wr).alloc (.cells #[.int .i64 0, .int .i64 0] 39)
              have fB := fA.alloc (.cells #[.int .i64 0, .int .i64 0] 39)
              have a0 := fA.cell' ca0 (fun x => x); have a1 := fA.cell' ca1 (fun x => x); have a2 := fA.cell' cb0 (fun x => x); have a3 := fA.cell' cb1 (fun x => x)
              have b0 := fB.cell' ca0 (fun x => x); have b1 := fB.cell' ca1 (fun x => x); have b2 := fB.cell' cb0 (fun x => x); have b3 := fB.cell' cb1 (fun x => x)
              have fC := fA.alloc (.cells #[.int .i64 (160 + (yu : Int) * 8), .int .i64 (yx : Int)] 39)
              have fD := ((Fr.refl (fun _ => False) wr).alloc (.cells #[.int .i64 (160 + (yu : Int) * 8), .int .i64 (yx : Int)] 39)).alloc (.cells #[.int .i64 0, .int .i64 0] 39)
              have d2 := fC.cell' cb0 (fun x => x); have d3 := fC.cell' cb1 (fun x => x); have d4 := fD.cell' cb0 (fun x => x); have d5 := fD.cell' cb1 (fun x => x)
              clear fA fB fC fD
              go_wp2_with fail
              go_region
              all_goals
                clear a0 a1 a2 a3 b0 b1 b2 b3 d2 d3 d4 d5 ca0 ca1 cb0 cb1
                rcases hap with hap | hap
                · have g1 : (160 + (yu : Int) * 8 < 160 + (vu : Int) * 8 + vx) = False := by simp; omega
                  go_wp2
                  exact ⟨⟨q + 1, by omega, by go_num, (((unhide HF5).alloc _).alloc _).drew⟩, by simp [intOf]; omega⟩
                · have g1 : (160 + (yu : Int) * 8 < 160 + (vu : Int) * 8 + vx) = True := by simp; omega
                  have g2 : (160 + (vu : Int) * 8 < 160 + (yu : Int) * 8 + yx) = False := by simp; omega
                  go_wp2
                  exact ⟨⟨q + 1, by omega, by go_num, (((unhide HF5).alloc _).alloc _).drew⟩, by simp [intOf]; omega⟩
            · have : n = q := by omega
              subst this
              have HF5 := hide hf
              clear hf
              go_wp2
              obtain ⟨pone, hS, hy⟩ := unhide HPO
              refine ⟨⟨n + 1, by omega, by go_num, by rw [pone]; simp, unhide HF5⟩, by simp [intOf]; omega⟩
    · have : m = n := by omega
      subst this
      have l := unhide HL
      have s := unhide HS
      have hpa := ps_all l
      rw [unhide HM] at hpa
      have hroom := s.inv.room
      have own := unhide HOWN
      have hlu : (plU (ask (says P A)) 478).length = m := by rw [plU_len, ← unhide HM, l.len]; rfl
      have HF5 := hide hf; have HPA := hide (And.intro hpa hroom)
      clear l s own hf hpa hroom
      go_wp2_with fail
      go_loopw [15] (fun k wx => ∃ q : Nat, (q + 1 ≤ m ∨ q = 0) ∧ k = .int .i64 ((q : Int) + 1) ∧ Still w1 wx) (fun k wx => 500 - (intOf k).toNat)
      case atStart => exact ⟨0, by omega, rfl, unhide HF5⟩
      case round =>
        obtain ⟨q, hq, rfl, hf⟩ := hrel
        by_cases hlt4 : q + 1 < m
        · have own := unhide HOWN
          obtain ⟨gg, ead⟩ : ∃ gg, ad = some ⟨gg, 0, none⟩ := by
            rcases row_form own with ⟨_, e0⟩ | ⟨gg, cp', ev⟩
            · omega
            · injection ev with ev1 ev2 ev3
              exact ⟨gg, ev1⟩
          subst ead
          obtain ⟨x, hxo⟩ := ex_at hlu hlt4
          obtain ⟨x', hxo'⟩ := ex_at hlu (show q < m by omega)
          have rise := rise_at (plU_rise 478) hxo hxo'
          have cq : wr.cell? ⟨gg, q + 1, none⟩ = some (.int .i64 (160 + (x : Int) * 8)) := by
            refine hf.cell' ?_ (fun x => x)
            rw [own.cellAt (q + 1) (by omega)]
            simp [natVals, plP, hxo]
          have cq' : wr.cell? ⟨gg, q, none⟩ = some (.int .i64 (160 + (x' : Int) * 8)) := by
            refine hf.cell' ?_ (fun x => x)
            rw [own.cellAt q (by omega)]
            simp [natVals, plP, hxo']
          have e1 : (q : Int) + 1 - 1 = q := by omega
          have g1 : (160 + (x : Int) * 8 ≤ 160 + (x' : Int) * 8) = False := by simp; omega
          have g0 : ((q : Int) + 1 < m) = True := by simp; omega
          have h1m : q < m := by omega
          have HF6 := hide hf; have HR := hide rise
          clear own hxo hxo' hlu hf rise hq
          go_wp2_with fail
          go_quiet (fail)
          go_wp2
          exact ⟨⟨q + 1, by omega, by go_num, (unhide HF6).drewN _⟩, by simp [intOf]; omega⟩
        · have hp := (unhide HH).still ((unhide HF1).trans' hf (fun _ x => x.elim))
          obtain ⟨hpa, hroom⟩ := unhide HPA
          have s := unhide HS
          have FR := h_free hp.hp hp.reads (8 * (478 - inP (ask (says P A)))) (by omega) s.fr
          have CK := h_check hp s
          obtain ⟨lf, hlf⟩ : ∃ lf, 8 * (478 - inP (ask (says P A))) = lf := ⟨_, rfl⟩
          rw [hlf] at FR
          have e1 : (3824 : Int) - 8 * (ps ls m : Int) = lf := by rw [hpa]; omega
          have HFR := hide FR; have HCK := hide CK; have HF6 := hide hf
          have g0 : ((q : Int) + 1 < m) = False := by simp; omega
          clear FR CK hp s hpa hroom hlf hf hlu hq
          rw [e1]
          go_wp2_with fail
          refine (unhide HFR).mono ?_
          clear HFR
          rintro e w' ⟨rfl, hh⟩
          replace hh := hh.symm
          subst hh
          go_wp2_with fail
          refine (unhide HCK).mono ?_
          clear HCK
          rintro e w6 ⟨rfl, f6⟩
          have HF7 := hide (((unhide HF1).trans' (unhide HF6) (fun _ x => x.elim)).trans' f6 (fun _ x => x.elim))
          clear f6
          go_wp2
          go_ret
          exact ⟨rfl, unhide HF7⟩
end Go.Proofs.YtacfmmbdeajjbaaGreatDoor
