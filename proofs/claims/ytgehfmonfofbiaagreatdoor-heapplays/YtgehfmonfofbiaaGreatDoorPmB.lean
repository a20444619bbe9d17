/- HeapPlays: the closure, and Do. -/
import Derived.Test.YtgehfmonfofbiaaGreatDoorPmA
import Derived.Test.YtgehfmonfofbiaaGreatDoorSwD
import Derived.Test.YtgehfmonfofbiaaGreatDoorFuC
namespace Go.Proofs.YtgehfmonfofbiaaGreatDoor
open Go.RowKit

/-- What the closure of HeapPlays finds. -/
structure PlW (w : World) (hb sb b : Nat) (T : Tay) (A : Ab) (P : List (Int × Int)) (bo bh ba bs bi bl : Nat) (kd x v : Int) (i : Nat) (va : Value) (al : Option Addr) (len cap : Nat) : Prop where
  h : Hp w hb sb b T A P
  s : HpS (says P A)
  c0 : w.cell? ⟨bo, 0, none⟩ = some (.int .i64 kd)
  c1 : w.cell? ⟨bo, 1, none⟩ = some (.int .i64 x)
  c2 : w.cell? ⟨bo, 2, none⟩ = some (.int .u64 v)
  ch : w.cell? ⟨bh, 0, none⟩ = some (ptr hb)
  cs : w.cell? ⟨bs, 0, none⟩ = some (ptr sb)
  ci : w.cell? ⟨bi, 0, none⟩ = some (.int .i64 i)
  cl : w.cell? ⟨bl, 0, none⟩ = some (.slice al len cap)
  ca : Box w ba va
  na : ∀ k, k = bo ∨ k = bh ∨ k = bs ∨ k = bi ∨ k = bl ∨ k = ba → ¬ tfoot sb b T k
  ne : bo ≠ ba ∧ bh ≠ ba ∧ bs ≠ ba ∧ bi ≠ ba ∧ bl ≠ ba ∧ hb ≠ ba ∧ 0 ≠ ba

section
variable {w w' w0 : World} {hb sb b bo bh ba bs bi bl i : Nat} {T : Tay} {A : Ab} {P : List (Int × Int)} {kd x v : Int} {va : Value} {al : Option Addr} {len cap : Nat}

set_option maxRecDepth 20000 in
set_option maxHeartbeats 4000000 in
theorem plC0 (x : Nat) (W0 : PlW w hb sb b T A P bo bh ba bs bi bl 0 x v i va al len cap) (hx1 : 1 ≤ x) (hx : x ≤ 512) (hi : i < 100) :
    Calls Tryz.prog 33 #[ptr bo, ptr bh, ptr ba, ptr bs, ptr bi, ptr bl] w fun e w' => (e = .returned (.tuple #[]) ∧ ∃ T' P', OnxX (fun k => k = ba) w sb b T w' T' 3984 A P' false ∧ ∃ u : Nat, Box w' ba (.int .i64 (160 + u * 8)) ∧ TookD (says P A) x u (says P' A)) ∨ (e = .panicked (errnoP 60) ∧ Still w w' ∧ FullAt x (says P A)) := by
  have TK := h_takeP W0.h W0.s x hx1 hx
  have HTK := hide TK; have HW0 := hide W0
  have lt := W0.ca.lt
  have lo : bo < w.heap.size := World.block_lt_of_cell? _ _ W0.c0
  have ls : bs < w.heap.size := World.block_lt_of_cell? _ _ W0.cs
  have li : bi < w.heap.size := World.block_lt_of_cell? _ _ W0.ci
  have c0 := W0.c0; have c1 := W0.c1; have ch := W0.ch
  clear TK W0
  go_enter Tryz.func33, Tryz.ntmps33
  go_wp2_with fail
  refine (unhide HTK).mono ?_
  clear HTK
  rintro e w1 (⟨u, g, rfl, t, tk⟩ | ⟨rfl, D, hf⟩)
  · obtain ⟨T1, P1, o1, eg⟩ := t
    subst eg
    have W0 := unhide HW0
    have na := W0.na
    have ne := W0.ne
    have bx : Box w1 ba va := W0.ca.kept o1.fr (na ba (by simp))
    have h1 := W0.h.call o1
    obtain ⟨W, hW⟩ : ∃ W, w1.setCell ⟨ba, 0, none⟩ (.int .i64 (160 + u * 8)) = W := ⟨_, rfl⟩
    have fW : Fr (fun k => k = ba) w1 W := hW ▸ Fr.box w1 ba _
    have na1 : ∀ k, k = bo ∨ k = bh ∨ k = bs ∨ k = bi ∨ k = bl ∨ k = ba → k < w.heap.size → ¬ tfoot sb b T1 k := fun k hk hl => o1.other hl (na k hk)
    have hW1 : Hp W hb sb b T1 A P1 := h1.turn fW (fun k hk => by have hk : k = ba := hk; subst hk; exact na1 k (by simp) lt) ne.2.2.2.2.2.1 ne.2.2.2.2.2.2
    have bxW : Box W ba (.int .i64 (160 + u * 8)) := hW ▸ bx.set _
    have cxW : W.cell? ⟨bo, 1, none⟩ = some (.int .i64 x) := fW.cell' (o1.fr.cell' W0.c1 (na bo (by simp))) ne.1
    have csW : W.cell? ⟨bs, 0, none⟩ = some (ptr sb) := fW.cell' (o1.fr.cell' W0.cs (na bs (by simp))) ne.2.2.1
    have ciW : W.cell? ⟨bi, 0, none⟩ = some (.int .i64 i) := fW.cell' (o1.fr.cell' W0.ci (na bi (by simp))) ne.2.2.2.1
    have oW : OnxX (fun k => k = ba) w sb b T W T1 3984 A P1 false := (OnxX.of o1).var fW (fun k hk => hk) (fun k hk => by have hk : k = ba := hk; subst hk; exact na1 k (by simp) lt)
    have c := bx.c; have z := bx.z
    have hlv : x ≤ 8 * 2 ^ lv x := lv_holds x (by omega)
    obtain ⟨cc, hu, hcc⟩ := tk.blk
    have hb4 := block_lt hcc
    rw [← hu] at hb4
    have hp4 : 2 ^ lv x ≤ 64 := Nat.pow_le_pow_right (n := 2) (j := 6) (by omega) (lv_le x)
    have hux : 160 + 8 * u + x ≤ 3984 := by omega
    have HX := hide (And.intro tk (And.intro hW1 (And.intro oW (And.intro bxW (And.intro cxW (And.intro csW ciW))))))
    have hu5 : u ≤ 478 := by omega
    have HLV := hide hlv
    have HW := hide hW
    clear tk hW1 oW bxW cxW csW ciW bx h1 o1 fW hW na na1 hcc hb4 hp4 hu hlv W0 ne c0 c1 ch
    go_wp2_with fail
    rw [unhide HW]
    go_loopw [6] (fun iv wr => ∃ (m : Nat) (T' : Tay) (P' : List (Int × Int)), m ≤ x ∧ iv = .int .i64 m ∧ OnxX (fun k => k = ba) W sb b T1 wr T' 3984 A P' false ∧ Hp wr hb sb b T' A P' ∧ Box wr ba (.int .i64 (160 + u * 8)) ∧ (∀ i, i < 160 → says P' A i = says P1 A i) ∧ ∀ i, 160 + 8 * u + m ≤ i → i < 160 + 8 * u + x → says P' A i = 0) (fun iv wr => x - (intOf iv).toNat)
    case atStart =>
      obtain ⟨tk, hW1, oW, bxW, _⟩ := unhide HX
      exact ⟨0, T1, P1, by omega, rfl, OnxX.of (Onx.start hW1.st), hW1, bxW, fun _ _ => rfl, fun i h1 h2 => tk.zero i (by omega) (by have := unhide HLV; omega)⟩
    case round =>
      obtain ⟨m, T', P', hm, rfl, o, hp, bar, own, zr⟩ := hrel
      obtain ⟨tk, hW1, oW, bxW, cxW, csW, ciW⟩ := unhide HX
      have na := (unhide HW0).na
      have ne := (unhide HW0).ne
      have nT1 : ∀ k, k = bo ∨ k = bh ∨ k = bs ∨ k = bi ∨ k = bl ∨ k = ba → k < w.heap.size → ¬ tfoot sb b T1 k := fun k hk hl => oW.other hl (na k hk)
      have cxr : wr.cell? ⟨bo, 1, none⟩ = some (.int .i64 x) := o.fr.cell' cxW (fun e => e.elim (nT1 bo (by simp) lo) ne.1)
      have csr : wr.cell? ⟨bs, 0, none⟩ = some (ptr sb) := o.fr.cell' csW (fun e => e.elim (nT1 bs (by simp) ls) ne.2.2.1)
      have cir : wr.cell? ⟨bi, 0, none⟩ = some (.int .i64 i) := o.fr.cell' ciW (fun e => e.elim (nT1 bi (by simp) li) ne.2.2.2.1)
      have car := bar.c
      by_cases hlt : m < x
      · have LD := hp.load (160 + 8 * u + m) (by omega)
        rw [zr _ (by omega) (by omega)] at LD
        have PU := hp.put (160 + 8 * u + m) (by omega) ((i : Int) + 1)
        have e2 : ((160 + 8 * u + m : Nat) : Int) = 160 + (u : Int) * 8 + m := by omega
        rw [e2] at LD PU
        have hwi : IntKind.u64.wrap ((i : Int) + 1) = (i : Int) + 1 := by rw [IntKind.wrap_u64]; omega
        have nba : ¬ tfoot sb b T' ba := o.other (Nat.lt_of_lt_of_le lt (by have := oW.fr.size; omega)) (nT1 ba (by simp) lt)
        have HLD := hide LD; have HPU := hide PU; have HR := hide (And.intro o (And.intro hp (And.intro bar (And.intro own (And.intro zr nba)))))
        clear LD PU o hp bar own zr tk hW1 oW bxW cxW csW ciW na nT1 nba ne
        go_wp2_with (first | (go_at_call 13; refine (unhide HLD).mono ?_; rintro e w' ⟨rfl, hh⟩; replace hh := hh.symm; subst hh) | fail)
        refine (unhide HPU).mono ?_
        clear HPU HLD
        rintro e w5 ⟨rfl, T5, P5, o5, eg5⟩
        have HO5 := hide (And.intro o5 eg5)
        clear o5 eg5
        go_wp2
        obtain ⟨o2, hp2, bar2, own, zr, nba⟩ := unhide HR
        obtain ⟨o5, eg5⟩ := unhide HO5
        refine ⟨⟨m + 1, T5, P5, by omega, by go_num, o2.trans o5, hp2.call o5, bar2.kept o5.fr nba, fun i hi => ?_, fun i h1 h2 => ?_⟩, by simp [intOf]; omega⟩
        · rw [eg5, upd_other _ _ (by omega)]; exact own i hi
        · rw [eg5, upd_other _ _ (by omega)]; exact zr i (by omega) h2
      · have : m = x := by omega
        subst this
        have HR := hide (And.intro o (And.intro bar own))
        clear o hp bar own zr na nT1 ne
        go_wp2
        go_end0
        obtain ⟨o, bar, own⟩ := unhide HR
        refine .inl ⟨rfl, T', P', ⟨o.st, oW.fr.trans' o.fr (fun k hk => ?_), fun k hk => (o.sub k hk).elim (oW.sub k) (fun x => .inr (Nat.le_trans oW.fr.size x))⟩, u, bar, _, tk, own⟩
        rcases hk with hk | hk
        · exact (oW.sub k hk).imp .inl id
        · exact .inl (.inr hk)
  · exact ⟨rfl, .inr ⟨rfl, D, hf⟩⟩

set_option maxHeartbeats 2000000 in
theorem plC0no (W0 : PlW w hb sb b T A P bo bh ba bs bi bl 0 x v i va al len cap) (hx : x < 1 ∨ 512 < x) :
    Calls Tryz.prog 33 #[ptr bo, ptr bh, ptr ba, ptr bs, ptr bi, ptr bl] w fun e w' => e = .panicked (errnoP 1) ∧ w' = w := by
  have HK := hide (h_take_no (hb := hb) x hx w)
  have c0 := W0.c0; have c1 := W0.c1; have ch := W0.ch
  clear W0 hx
  go_enter Tryz.func33, Tryz.ntmps33
  go_wp2_with fail
  refine (unhide HK).mono ?_
  rintro e w1 ⟨rfl, rfl⟩
  exact ⟨rfl, rfl, rfl⟩

set_option maxHeartbeats 2000000 in
theorem plCe (W0 : PlW w hb sb b T A P bo bh ba bs bi bl kd x v i va al len cap) (h0 : ¬ kd = 0) (h1 : ¬ kd = 1) (h2 : ¬ kd = 2) (h3 : ¬ kd = 3) (h4 : ¬ kd = 4) :
    Calls Tryz.prog 33 #[ptr bo, ptr bh, ptr ba, ptr bs, ptr bi, ptr bl] w fun e w' => e = .returned (.tuple #[]) ∧ w' = w := by
  have c0 := W0.c0
  clear W0
  go_enter Tryz.func33, Tryz.ntmps33
  go_wp2
  go_end0
  exact ⟨rfl, rfl⟩

set_option maxHeartbeats 2000000 in
theorem plC1nil (W0 : PlW w hb sb b T A P bo bh ba bs bi bl 1 x v i va al len cap) (hl : len = 0) :
    Calls Tryz.prog 33 #[ptr bo, ptr bh, ptr ba, ptr bs, ptr bi, ptr bl] w fun e w' => e = .returned (.tuple #[]) ∧ w' = w := by
  have c0 := W0.c0; have cl := W0.cl
  subst hl
  clear W0
  go_enter Tryz.func33, Tryz.ntmps33
  go_wp2
  go_end0
  exact ⟨rfl, rfl⟩

set_option maxHeartbeats 2000000 in
theorem plC2 (u : Nat) (W0 : PlW w hb sb b T A P bo bh ba bs bi bl 2 (160 + u * 8) v i va al len cap) (hu : ask (says P A) u ≠ 0) :
    Calls Tryz.prog 33 #[ptr bo, ptr bh, ptr ba, ptr bs, ptr bi, ptr bl] w fun e w' => e = .returned (.tuple #[]) ∧ ∃ T' P', Onx w sb b T w' T' 3984 A P' false ∧ Gave (says P A) u (says P' A) := by
  have HK := hide (h_give W0.h W0.s u hu)
  have c0 := W0.c0; have c1 := W0.c1; have ch := W0.ch
  clear W0 hu
  go_enter Tryz.func33, Tryz.ntmps33
  go_wp2_with fail
  refine (unhide HK).mono ?_
  clear HK
  rintro e w1 ⟨rfl, g, ⟨T', P', o, eg⟩, gv⟩
  subst eg
  have HX := hide (And.intro o gv)
  clear o gv
  go_wp2
  go_end0
  exact ⟨rfl, T', P', (unhide HX).1, (unhide HX).2⟩

set_option maxHeartbeats 2000000 in
theorem plC2no (W0 : PlW w hb sb b T A P bo bh ba bs bi bl 2 x v i va al len cap) (hn : NoPiece (ask (says P A)) x) :
    Calls Tryz.prog 33 #[ptr bo, ptr bh, ptr ba, ptr bs, ptr bi, ptr bl] w fun e w' => e = .panicked (errnoP 1) ∧ Still w w' := by
  have HK := hide (h_give_none W0.h W0.s x hn)
  have c0 := W0.c0; have c1 := W0.c1; have ch := W0.ch
  clear W0 hn
  go_enter Tryz.func33, Tryz.ntmps33
  go_wp2_with fail
  refine (unhide HK).mono ?_
  rintro e w1 ⟨rfl, D⟩
  exact ⟨rfl, rfl, D.still⟩

set_option maxHeartbeats 2000000 in
theorem plC3 (k : Nat) (W0 : PlW w hb sb b T A P bo bh ba bs bi bl 3 k v i va al len cap) (hk : k < 16) :
    Calls Tryz.prog 33 #[ptr bo, ptr bh, ptr ba, ptr bs, ptr bi, ptr bl] w fun e w' => e = .returned (.tuple #[]) ∧ ∃ T' P', Onx w sb b T w' T' 3984 A P' false ∧ says P' A = upd (says P A) (2 + k) v := by
  have HK := hide (h_setRoot W0.h k hk v)
  have c0 := W0.c0; have c1 := W0.c1; have c2 := W0.c2; have ch := W0.ch
  clear W0 hk
  go_enter Tryz.func33, Tryz.ntmps33
  go_wp2_with fail
  refine (unhide HK).mono ?_
  clear HK
  rintro e w1 ⟨rfl, T', P', o, eg⟩
  have HX := hide (And.intro o eg)
  clear o eg
  go_wp2
  go_end0
  exact ⟨rfl, T', P', (unhide HX).1, (unhide HX).2⟩

set_option maxHeartbeats 2000000 in
theorem plC3no (W0 : PlW w hb sb b T A P bo bh ba bs bi bl 3 x v i va al len cap) (hx : x < 0 ∨ 16 ≤ x) :
    Calls Tryz.prog 33 #[ptr bo, ptr bh, ptr ba, ptr bs, ptr bi, ptr bl] w fun e w' => e = .panicked (errnoP 1) ∧ w' = w := by
  have HK := hide (h_setRoot_no (hb := hb) x hx v w)
  have c0 := W0.c0; have c1 := W0.c1; have c2 := W0.c2; have ch := W0.ch
  clear W0 hx
  go_enter Tryz.func33, Tryz.ntmps33
  go_wp2_with fail
  refine (unhide HK).mono ?_
  rintro e w1 ⟨rfl, rfl⟩
  exact ⟨rfl, rfl, rfl⟩

set_option maxHeartbeats 2000000 in
theorem plC4 (W0 : PlW w hb sb b T A P bo bh ba bs bi bl 4 x v i va al len cap) :
    Calls Tryz.prog 33 #[ptr bo, ptr bh, ptr ba, ptr bs, ptr bi, ptr bl] w fun e w' => (e = .panicked (errnoP 3) ∧ ∃ T' P', Onx w sb b T w' T' 3984 A P' false) ∨ (e = .panicked (errnoP 60) ∧ Still w w') := by
  have TK : Calls Tryz.prog 12 #[ptr hb, .int .i64 3] w _ := h_takeP W0.h W0.s 3 (by decide) (by decide)
  have HK := hide TK
  have HW0 := hide W0
  have c0 := W0.c0; have ch := W0.ch
  clear W0 TK
  go_enter Tryz.func33, Tryz.ntmps33
  go_wp2_with fail
  refine (unhide HK).mono ?_
  clear HK
  rintro e w1 (⟨u, g, rfl, ⟨T1, P1, o1, eg⟩, tk⟩ | ⟨rfl, D, hf⟩)
  · have h1 := (unhide HW0).h.call o1
    have SR : Calls Tryz.prog 22 #[ptr hb, .int .i64 0, u64 99] w1 _ := h_setRoot h1 0 (by decide) 99
    have ch1 := o1.fr.cell' (unhide HW0).ch ((unhide HW0).na bh (by simp))
    have HSR := hide SR
    have HO := hide o1
    clear SR o1 eg tk h1 ch c0
    go_wp2_with fail
    refine (unhide HSR).mono ?_
    clear HSR
    rintro e w2 ⟨rfl, T2, P2, o2, _⟩
    have HO2 := hide ((unhide HO).trans o2)
    clear o2
    go_wp2
    exact ⟨rfl, .inl ⟨rfl, T2, P2, unhide HO2⟩⟩
  · exact ⟨rfl, .inr ⟨rfl, D⟩⟩

set_option maxRecDepth 20000 in
set_option maxHeartbeats 2000000 in
theorem plC1 (ls : List (Nat × Nat)) (y : Nat × Nat) (W0 : PlW w hb sb b T A P bo bh ba bs bi bl 1 x v i va al ls.length cap) (pc : PcsAt w al ls) (hl : 0 < ls.length) (hl4 : ls.length ≤ 478) (hy : ls[msk x 65535 % ls.length]? = some y) (hu : ask (says P A) y.1 ≠ 0) :
    Calls Tryz.prog 33 #[ptr bo, ptr bh, ptr ba, ptr bs, ptr bi, ptr bl] w fun e w' => e = .returned (.tuple #[]) ∧ ∃ T' P', Onx w sb b T w' T' 3984 A P' false ∧ Gave (says P A) y.1 (says P' A) := by
  have HK := hide (fun q => h_give (W0.h.still ((Fr.refl _ w).drewN q)) W0.s y.1 hu)
  have c0 := W0.c0; have c1 := W0.c1; have ch := W0.ch; have cl := W0.cl
  obtain ⟨xb, xo, rfl, p1, _⟩ := pc _ _ hy
  have em : bits .and .i64 x 65535 = (msk x 65535 : Int) := mask_i64 x 65535 (by omega)
  have lm := msk_le x 65535
  have hk : msk x 65535 % ls.length < ls.length := Nat.mod_lt _ hl
  have hkk : ((msk x 65535 : Nat) : Int) % (ls.length : Nat) = ((msk x 65535 % ls.length : Nat) : Int) := by omega
  have hl' : ¬ ((ls.length : Nat) : Int) = 0 := by omega
  have hl0 : (0 : Int) < (ls.length : Nat) := by omega
  clear W0 pc hu hy
  generalize hq : msk x 65535 % ls.length = k at *
  clear hq
  generalize msk x 65535 = q at *
  generalize ls.length = n at *
  go_enter Tryz.func33, Tryz.ntmps33
  go_wp2_with fail
  refine region_tailP 11 (by kernel_rfl) (by kernel_rfl) ?_
  simp only [List.take, List.drop]
  repeat (go_big_quiet_step (fail))
  refine wpQuiet_nil ?_
  rintro _ ⟨nq, rfl⟩
  have HK1 := hide (unhide HK nq)
  have HFW := hide ((Fr.refl (fun _ => False) w).drewN nq)
  clear HK c0 c1 ch cl p1
  generalize w.drewN nq = wd at *
  go_wp2_with fail
  refine (unhide HK1).mono ?_
  clear HK1
  rintro e w1 ⟨rfl, g, ⟨T', P', o, eg⟩, gv⟩
  subst eg
  have HX := hide (And.intro o gv)
  clear o gv
  go_wp2
  go_end0
  exact ⟨rfl, T', P', (unhide HX).1.after (unhide HFW), (unhide HX).2⟩
end

/-- What a change that ended well has done. -/
def PlDone (kd x v : Int) (ls : List (Nat × Nat)) (f g : Nat → Int) (at_ : Int) : Prop :=
  (kd = 0 ∧ ∃ u z : Nat, x = z ∧ 1 ≤ z ∧ z ≤ 512 ∧ at_ = 160 + u * 8 ∧ u ≤ 478 ∧ Lists (ask g) (ls ++ [(u, z)]) ∧ ∀ j, 2 ≤ j → j < 18 → g j = f j) ∨
  (kd = 1 ∧ ls = [] ∧ Lists (ask g) ls ∧ ∀ j, 2 ≤ j → j < 18 → g j = f j) ∨
  (kd = 1 ∧ ls ≠ [] ∧ Lists (ask g) (ls.eraseIdx (msk x 65535 % ls.length)) ∧ ∀ j, 2 ≤ j → j < 18 → g j = f j) ∨
  (kd = 2 ∧ ∃ (k : Nat) (y : Nat × Nat), ls[k]? = some y ∧ x = 160 + y.1 * 8 ∧ Lists (ask g) (ls.eraseIdx k) ∧ ∀ j, 2 ≤ j → j < 18 → g j = f j) ∨
  (kd = 3 ∧ ∃ k : Nat, k < 16 ∧ x = k ∧ Lists (ask g) ls ∧ ∀ j, j < 16 → g (2 + j) = if j = k then v else f (2 + j)) ∨
  (¬ kd = 0 ∧ ¬ kd = 1 ∧ ¬ kd = 2 ∧ ¬ kd = 3 ∧ ¬ kd = 4 ∧ Lists (ask g) ls ∧ ∀ j, 2 ≤ j → j < 18 → g j = f j)
/-- How a change may have failed. -/
def PlErr (kd x : Int) (ls : List (Nat × Nat)) (c : Int) : Prop :=
  (kd = 0 ∧ c = 1 ∧ (x < 1 ∨ 512 < x)) ∨ (kd = 0 ∧ c = 60 ∧ 1 ≤ x ∧ x ≤ 512 ∧ ls ≠ []) ∨
  (kd = 2 ∧ c = 1 ∧ ∀ y ∈ ls, x ≠ 160 + y.1 * 8) ∨ (kd = 3 ∧ c = 1 ∧ (x < 0 ∨ 15 < x)) ∨ (kd = 4 ∧ (c = 3 ∨ c = 60))

section
variable {w w' w0 : World} {X : Nat → Prop} {hb sb b bo bh ba bs bi bl i : Nat} {T : Tay} {A : Ab} {s : Int} {base : Nat → Int} {kd x v : Int} {va : Value} {al : Option Addr} {cap : Nat}

/-- How Do ends here. -/
def PlDid (w0 : World) (X : Nat → Prop) (w : World) (hb sb b : Nat) (T : Tay) (ba : Nat) (s : Int) (base : Nat → Int) (kd x v : Int) (ls : List (Nat × Nat)) (e : Ending) (w' : World) : Prop :=
  Fr (fun k => tfoot sb b T k ∨ k = ba) w w' ∧ ∃ (c at_ : Int) (T' : Tay) (A' : Ab) (base' : Nat → Int), e = .returned (.int .i64 c) ∧ Box w' ba (.int .i64 at_) ∧ HpC w0 X w' hb sb b T' A' 2048 True (s + 30729) base' ∧ HpS (rb base') ∧
    ((c = 0 ∧ PlDone kd x v ls (rb base) (rb base') at_) ∨ (base' = base ∧ ¬ c = 0 ∧ PlErr kd x ls c))

theorem pl_by (hc : HpC w0 X w hb sb b T A 2048 True s base) (hps : HpS (rb base)) (hX : X ba) (hn : hb ≠ ba) {g : Nat} {fi ca : Array Value} {Q : How → (Nat → Int) → Int → Prop} {ls : List (Nat × Nat)}
    (hf : ChangeX (fun k => k = ba) w sb b T 3984 A (.func (.func g) fi ca) (fun h P' w' => ∃ at_ : Int, Box w' ba (.int .i64 at_) ∧ Q h (says P' A) at_)) (hs : s + 30729 < 4294967296)
    (hw : ∀ g at_, Q .well g at_ → HpS g ∧ PlDone kd x v ls (rb base) g at_) (he : ∀ c g at_, Q (.errno c) g at_ → ¬ c = 0 ∧ PlErr kd x ls c) :
    Calls Tryz.prog 10 #[ptr sb, .func (.func g) fi ca] w (PlDid w0 X w hb sb b T ba s base kd x v ls) := by
  refine (hc.do_ (V := fun k => k = ba) (fun k hk => by rw [hk]; exact hX) (fun e => hn e) (by
    rintro h P w w' F ⟨a, bx, q⟩ hf hn
    exact ⟨a, bx.kept hf (hn _ rfl), q⟩) hf hs).mono ?_
  rintro e w' ⟨fr, ⟨P', T', A', ⟨a, bx, q⟩, rfl, hc'⟩ | ⟨c, P', T', ⟨a, bx, q⟩, rfl, hc'⟩⟩
  · rw [hc.says P'] at q
    obtain ⟨q1, q2⟩ := hw _ _ q
    exact ⟨fr, 0, a, T', A', _, rfl, bx, hc', q1, .inl ⟨rfl, q2⟩⟩
  · obtain ⟨q1, q2⟩ := he _ _ _ q
    exact ⟨fr, c, a, T', A, base, rfl, bx, hc'.slow (by omega), hps, .inr ⟨rfl, q1, q2⟩⟩

theorem Gave.lists {f g : Nat → Int} {ls : List (Nat × Nat)} {k : Nat} {y : Nat × Nat} (hps : HpS f) (l : Lists (ask f) ls) (hy : ls[k]? = some y) (gv : Gave f y.1 g) : Lists (ask g) (ls.eraseIdx k) := by
  rw [gv.ak]; exact l.drop hps.inv hy

set_option maxRecDepth 20000 in
set_option maxHeartbeats 2000000 in
theorem pl_do (hc : HpC w0 X w hb sb b T A 2048 True s base) (hps : HpS (rb base)) (ls : List (Nat × Nat)) (lst : Lists (ask (rb base)) ls) (pc : PcsAt w al ls) (hX : X ba)
    (W0 : ∀ w3, Still w w3 → PlW w3 hb sb b T A [] bo bh ba bs bi bl kd x v i (.int .i64 0) al ls.length cap) (hi : i < 100) (hv : 0 ≤ v ∧ v < 18446744073709551616) (hs : s + 30729 < 4294967296) :
    Calls Tryz.prog 10 #[ptr sb, .func (.func 33) #[] #[ptr bo, ptr bh, ptr ba, ptr bs, ptr bi, ptr bl]] w (PlDid w0 X w hb sb b T ba s base kd x v ls) := by
  have sy := hc.says []
  rw [homed_nil] at sy
  have hn : hb ≠ ba := (W0 w (Fr.refl _ w)).ne.2.2.2.2.2.1
  have hl4 : ls.length ≤ 478 := by have := cnt_le (ask (rb base)); rw [← lst.len] at this; exact this
  have st : ∀ w3, Still w w3 → Onx w3 sb b T w3 T 3984 A [] false := fun w3 f3 => Onx.start (hc.hd.st.still f3)
  by_cases h0 : kd = 0
  · subst h0
    by_cases hx : 1 ≤ x ∧ x ≤ 512
    · obtain ⟨z, rfl⟩ : ∃ z : Nat, x = z := ⟨x.toNat, by omega⟩
      refine pl_by hc hps hX hn (Q := fun h g a => (h = .well ∧ ∃ u : Nat, a = 160 + u * 8 ∧ TookD (rb base) z u g) ∨ (h = .errno 60 ∧ FullAt z (rb base))) (fun w3 f3 => acts_of (fun _ _ => by kernel_rfl) ((plC0 z (W0 w3 f3) (by omega) (by omega) hi).mono ?_)) hs ?_ ?_
      · rintro e w4 (⟨rfl, T', P', o, u, bx, tk⟩ | ⟨rfl, f4, hf⟩)
        · rw [sy] at tk
          exact ⟨.well, rfl, .inl rfl, T', P', o, _, bx, .inl ⟨rfl, u, rfl, tk⟩⟩
        · rw [sy] at hf
          exact ⟨.errno 60, How.ended_one _ _, .inr ⟨60, rfl⟩, T, [], OnxX.of ((st w3 f3).quiet f4), 0, (W0 w3 f3).ca.kept f4 (fun x => x), .inr ⟨rfl, hf⟩⟩
      · rintro g a (⟨_, u, rfl, tk⟩ | ⟨h, _⟩)
        · obtain ⟨g0, tk, own⟩ := tk
          have hst : HpS g := tk.st.own own
          obtain ⟨cc, hu, hcc⟩ := tk.blk
          have hb4 := block_lt hcc
          rw [← hu] at hb4
          refine ⟨hst, .inl ⟨rfl, u, z, rfl, by omega, by omega, rfl, Nat.le_trans (Nat.le_add_right _ _) hb4, ?_, fun j h1 h2 => ?_⟩⟩
          · rw [ask_own own, tk.ak, hu]
            exact lst.push hcc rfl (by omega) (by rw [← hu]; exact tk.was)
          · rw [own j (by omega)]; exact tk.root j h1 h2
        · exact (well_errno h).elim
      · rintro c g a (⟨h, _⟩ | ⟨h, hf⟩)
        · exact (well_errno h.symm).elim
        · obtain rfl := errno_inj h
          refine ⟨by decide, .inr (.inl ⟨rfl, rfl, by omega, by omega, fun e => ?_⟩)⟩
          subst e
          refine hps.inv.roomy (m := 6) (k := lv z) (by omega) (lv_le z) (fun u hu => absurd (lst.all u hu) (by simp)) ?_ hf
          rw [← lst.len]; decide
    · refine pl_by hc hps hX hn (Q := fun h g a => h = .errno 1) (fun w3 f3 => acts_of (fun _ _ => by kernel_rfl) ((plC0no (W0 w3 f3) (by omega)).mono ?_)) hs ?_ ?_
      · rintro e w4 ⟨rfl, rfl⟩
        exact ⟨.errno 1, How.ended_one _ _, .inr ⟨1, rfl⟩, T, [], OnxX.of (st w4 f3), 0, (W0 w4 f3).ca, rfl⟩
      · intro g a h; exact (well_errno h).elim
      · intro c g a h
        obtain rfl := errno_inj h
        exact ⟨by decide, .inl ⟨rfl, rfl, by omega⟩⟩
  · by_cases h1 : kd = 1
    · subst h1
      by_cases hl : ls = []
      · refine pl_by hc hps hX hn (Q := fun h g a => h = .well ∧ g = rb base) (fun w3 f3 => acts_of (fun _ _ => by kernel_rfl) ((plC1nil (W0 w3 f3) (by rw [hl]; rfl)).mono ?_)) hs ?_ ?_
        · rintro e w4 ⟨rfl, rfl⟩
          exact ⟨.well, rfl, .inl rfl, T, [], OnxX.of (st w4 f3), 0, (W0 w4 f3).ca, rfl, sy⟩
        · rintro g a ⟨_, rfl⟩
          exact ⟨hps, .inr (.inl ⟨rfl, hl, lst, fun _ _ _ => rfl⟩)⟩
        · rintro c g a ⟨h, _⟩; exact (well_errno h.symm).elim
      · have hlen : 0 < ls.length := List.length_pos_iff.2 hl
        have hk : msk x 65535 % ls.length < ls.length := Nat.mod_lt _ hlen
        obtain ⟨y, hy⟩ : ∃ y, ls[msk x 65535 % ls.length]? = some y := ⟨_, List.getElem?_eq_getElem hk⟩
        have ho := lst.only y (List.mem_of_getElem? hy)
        refine pl_by hc hps hX hn (Q := fun h g a => h = .well ∧ Gave (rb base) y.1 g) (fun w3 f3 => acts_of (fun _ _ => by kernel_rfl) ((plC1 ls y (W0 w3 f3) (pc.kept f3) hlen hl4 hy (by rw [sy, ho.1]; exact ho.2)).mono ?_)) hs ?_ ?_
        · rintro e w4 ⟨rfl, T', P', o, gv⟩
          rw [sy] at gv
          exact ⟨.well, rfl, .inl rfl, T', P', OnxX.of o, 0, (W0 w3 f3).ca.kept o.fr ((W0 w3 f3).na ba (by simp)), rfl, gv⟩
        · rintro g a ⟨_, gv⟩
          exact ⟨gv.st, .inr (.inr (.inl ⟨rfl, hl, gv.lists hps lst hy, fun j h1 h2 => gv.root j h1 h2⟩))⟩
        · rintro c g a ⟨h, _⟩; exact (well_errno h.symm).elim
    · by_cases h2 : kd = 2
      · subst h2
        by_cases hp : ∃ (k : Nat) (y : Nat × Nat), ls[k]? = some y ∧ x = 160 + (y.1 : Int) * 8
        · obtain ⟨k, y, hy, rfl⟩ := hp
          have ho := lst.only y (List.mem_of_getElem? hy)
          refine pl_by hc hps hX hn (Q := fun h g a => h = .well ∧ Gave (rb base) y.1 g) (fun w3 f3 => acts_of (fun _ _ => by kernel_rfl) ((plC2 y.1 (W0 w3 f3) (by rw [sy, ho.1]; exact ho.2)).mono ?_)) hs ?_ ?_
          · rintro e w4 ⟨rfl, T', P', o, gv⟩
            rw [sy] at gv
            exact ⟨.well, rfl, .inl rfl, T', P', OnxX.of o, 0, (W0 w3 f3).ca.kept o.fr ((W0 w3 f3).na ba (by simp)), rfl, gv⟩
          · rintro g a ⟨_, gv⟩
            exact ⟨gv.st, .inr (.inr (.inr (.inl ⟨rfl, k, y, hy, rfl, gv.lists hps lst hy, fun j h1 h2 => gv.root j h1 h2⟩)))⟩
          · rintro c g a ⟨h, _⟩; exact (well_errno h.symm).elim
        · have hno : ∀ y ∈ ls, x ≠ 160 + (y.1 : Int) * 8 := fun y hy e => by
            obtain ⟨k, hk, ek⟩ := List.mem_iff_getElem.1 hy
            exact hp ⟨k, y, by rw [List.getElem?_eq_getElem hk, ek], e⟩
          have hnp : NoPiece (ask (rb base)) x := noPiece_of lst x (fun y hy e => hno y hy (by rw [← e]; omega))
          refine pl_by hc hps hX hn (Q := fun h g a => h = .errno 1) (fun w3 f3 => acts_of (fun _ _ => by kernel_rfl) ((plC2no (W0 w3 f3) (by rw [sy]; exact hnp)).mono ?_)) hs ?_ ?_
          · rintro e w4 ⟨rfl, f4⟩
            exact ⟨.errno 1, How.ended_one _ _, .inr ⟨1, rfl⟩, T, [], OnxX.of ((st w3 f3).quiet f4), 0, (W0 w3 f3).ca.kept f4 (fun x => x), rfl⟩
          · intro g a h; exact (well_errno h).elim
          · intro c g a h
            obtain rfl := errno_inj h
            exact ⟨by decide, .inr (.inr (.inl ⟨rfl, rfl, hno⟩))⟩
      · by_cases h3 : kd = 3
        · subst h3
          by_cases hx : 0 ≤ x ∧ x ≤ 15
          · obtain ⟨k, rfl⟩ : ∃ k : Nat, x = k := ⟨x.toNat, by omega⟩
            obtain ⟨vn, rfl⟩ : ∃ vn : Nat, v = vn := ⟨v.toNat, by omega⟩
            refine pl_by hc hps hX hn (Q := fun h g a => h = .well ∧ g = upd (rb base) (2 + k) vn) (fun w3 f3 => acts_of (fun _ _ => by kernel_rfl) ((plC3 k (W0 w3 f3) (by omega)).mono ?_)) hs ?_ ?_
            · rintro e w4 ⟨rfl, T', P', o, eg⟩
              rw [sy] at eg
              exact ⟨.well, rfl, .inl rfl, T', P', OnxX.of o, 0, (W0 w3 f3).ca.kept o.fr ((W0 w3 f3).na ba (by simp)), rfl, eg⟩
            · rintro g a ⟨_, rfl⟩
              refine ⟨hps.root (2 + k) (by omega) (by omega) vn (by omega), .inr (.inr (.inr (.inr (.inl ⟨rfl, k, by omega, rfl, by rw [ask_upd _ (.inl (by omega))]; exact lst, fun j hj => ?_⟩))))⟩
              by_cases e : j = k
              · subst e; rw [upd_same, if_pos rfl]
              · rw [upd_other _ _ (by omega), if_neg e]
            · rintro c g a ⟨h, _⟩; exact (well_errno h.symm).elim
          · refine pl_by hc hps hX hn (Q := fun h g a => h = .errno 1) (fun w3 f3 => acts_of (fun _ _ => by kernel_rfl) ((plC3no (W0 w3 f3) (by omega)).mono ?_)) hs ?_ ?_
            · rintro e w4 ⟨rfl, rfl⟩
              exact ⟨.errno 1, How.ended_one _ _, .inr ⟨1, rfl⟩, T, [], OnxX.of (st w4 f3), 0, (W0 w4 f3).ca, rfl⟩
            · intro g a h; exact (well_errno h).elim
            · intro c g a h
              obtain rfl := errno_inj h
              exact ⟨by decide, .inr (.inr (.inr (.inl ⟨rfl, rfl, by omega⟩)))⟩
        · by_cases h4 : kd = 4
          · subst h4
            refine pl_by hc hps hX hn (Q := fun h g a => h = .errno 3 ∨ h = .errno 60) (fun w3 f3 => acts_of (fun _ _ => by kernel_rfl) ((plC4 (W0 w3 f3)).mono ?_)) hs ?_ ?_
            · rintro e w4 (⟨rfl, T', P', o⟩ | ⟨rfl, f4⟩)
              · exact ⟨.errno 3, How.ended_one _ _, .inr ⟨3, rfl⟩, T', P', OnxX.of o, 0, (W0 w3 f3).ca.kept o.fr ((W0 w3 f3).na ba (by simp)), .inl rfl⟩
              · exact ⟨.errno 60, How.ended_one _ _, .inr ⟨60, rfl⟩, T, [], OnxX.of ((st w3 f3).quiet f4), 0, (W0 w3 f3).ca.kept f4 (fun x => x), .inr rfl⟩
            · rintro g a (h | h) <;> exact (well_errno h).elim
            · rintro c g a (h | h)
              · obtain rfl := errno_inj h
                exact ⟨by decide, .inr (.inr (.inr (.inr ⟨rfl, .inl rfl⟩)))⟩
              · obtain rfl := errno_inj h
                exact ⟨by decide, .inr (.inr (.inr (.inr ⟨rfl, .inr rfl⟩)))⟩
          · refine pl_by hc hps hX hn (Q := fun h g a => h = .well ∧ g = rb base) (fun w3 f3 => acts_of (fun _ _ => by kernel_rfl) ((plCe (W0 w3 f3) h0 h1 h2 h3 h4).mono ?_)) hs ?_ ?_
            · rintro e w4 ⟨rfl, rfl⟩
              exact ⟨.well, rfl, .inl rfl, T, [], OnxX.of (st w4 f3), 0, (W0 w4 f3).ca, rfl, sy⟩
            · rintro g a ⟨_, rfl⟩
              exact ⟨hps, .inr (.inr (.inr (.inr (.inr ⟨h0, h1, h2, h3, h4, lst, fun _ _ _ => rfl⟩))))⟩
            · rintro c g a ⟨h, _⟩; exact (well_errno h.symm).elim
end
end Go.Proofs.YtgehfmonfofbiaaGreatDoor
