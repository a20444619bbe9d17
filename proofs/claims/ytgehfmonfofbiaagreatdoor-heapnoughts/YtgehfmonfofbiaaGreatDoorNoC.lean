/- HeapNoughts: its closures. -/
import Derived.Test.YtgehfmonfofbiaaGreatDoorLa
namespace Go.Proofs.YtgehfmonfofbiaaGreatDoor
open Go.RowKit

/-- A piece was taken, then words of it put. -/
def TookD (f : Nat → Int) (x u : Nat) (g' : Nat → Int) : Prop := ∃ g, Took f x u g ∧ ∀ i, i < 160 → g' i = g i

section
variable {w w' w0 : World} {hb sb b bh ba bo bs br bw : Nat} {T : Tay} {A : Ab} {P : List (Int × Int)} {v : Value}

/-- Told by HeapNoughts' first closure. -/
def NoR (f : Nat → Int) (x : Nat) (A : Ab) (ba bo : Nat) (P' : List (Int × Int)) (w' : World) : Prop := ∃ u : Nat, Box w' ba (.int .i64 (160 + u * 8)) ∧ Box w' bo (.bool true) ∧ TookD f x u (says P' A)

set_option maxRecDepth 20000 in
set_option maxHeartbeats 4000000 in
theorem noC1 (h : Hp w hb sb b T A P) (s : HpS (says P A)) (x r : Nat) (hx1 : 1 ≤ x) (hx : x ≤ 128) (hr : r ≤ 3) (ch : w.cell? ⟨bh, 0, none⟩ = some (ptr hb)) (cs : w.cell? ⟨bs, 0, none⟩ = some (ptr sb)) (cw : w.cell? ⟨bw, 0, none⟩ = some (.int .i64 x)) (cr : w.cell? ⟨br, 0, none⟩ = some (.int .i64 r))
    (ca : Box w ba v) (co : Box w bo (.bool true)) (na : ∀ k, k = bh ∨ k = bs ∨ k = bw ∨ k = br ∨ k = ba ∨ k = bo → ¬ tfoot sb b T k) (ne1 : bh ≠ ba ∧ bs ≠ ba ∧ bw ≠ ba ∧ br ≠ ba ∧ bo ≠ ba ∧ hb ≠ ba ∧ 0 ≠ ba) (ne2 : bh ≠ bo ∧ bs ≠ bo ∧ bw ≠ bo ∧ br ≠ bo ∧ hb ≠ bo ∧ 0 ≠ bo) :
    Calls Tryz.prog 11 #[ptr bh, ptr bw, ptr ba, ptr bo, ptr bs, ptr br] w fun e w' => (e = .returned (.tuple #[]) ∧ ∃ T' P', OnxX (fun k => k = ba ∨ k = bo) w sb b T w' T' 3984 A P' false ∧ NoR (says P A) x A ba bo P' w') ∨ (e = .panicked (errnoP 60) ∧ Still w w' ∧ FullAt x (says P A)) := by
  have TK := h_takeP h s x hx1 (by omega)
  have HTK := hide TK; have HH := hide h; have HCA := hide ca; have HCO := hide co; have HNA := hide na
  have lt := ca.lt
  have lo := co.lt
  have lw : bw < w.heap.size := World.block_lt_of_cell? _ _ cw
  have ls : bs < w.heap.size := World.block_lt_of_cell? _ _ cs
  have lr : br < w.heap.size := World.block_lt_of_cell? _ _ cr
  have HCW := hide (And.intro cw (And.intro cs cr))
  clear TK h s ca co na
  go_enter Tryz.func11, Tryz.ntmps11
  go_wp2_with fail
  refine (unhide HTK).mono ?_
  clear HTK
  rintro e w1 (⟨u, g, rfl, t, tk⟩ | ⟨rfl, D, hf⟩)
  · obtain ⟨T1, P1, o1, eg⟩ := t
    subst eg
    have na := unhide HNA
    obtain ⟨cw, cs, cr⟩ := unhide HCW
    have bx : Box w1 ba v := (unhide HCA).kept o1.fr (na ba (by simp))
    have bxo : Box w1 bo (.bool true) := (unhide HCO).kept o1.fr (na bo (by simp))
    have h1 := (unhide HH).call o1
    obtain ⟨W, hW⟩ : ∃ W, w1.setCell ⟨ba, 0, none⟩ (.int .i64 (160 + u * 8)) = W := ⟨_, rfl⟩
    have fW : Fr (fun k => k = ba) w1 W := hW ▸ Fr.box w1 ba _
    have na1 : ∀ k, k = bh ∨ k = bs ∨ k = bw ∨ k = br ∨ k = ba ∨ k = bo → k < w.heap.size → ¬ tfoot sb b T1 k := fun k hk hl => o1.other hl (na k hk)
    have hW1 : Hp W hb sb b T1 A P1 := h1.turn fW (fun k hk => by have hk : k = ba := hk; subst hk; exact na1 k (by simp) lt) ne1.2.2.2.2.2.1 ne1.2.2.2.2.2.2
    have bxW : Box W ba (.int .i64 (160 + u * 8)) := hW ▸ bx.set _
    have boW : Box W bo (.bool true) := bxo.kept fW ne1.2.2.2.2.1
    have cwW : W.cell? ⟨bw, 0, none⟩ = some (.int .i64 x) := fW.cell' (o1.fr.cell' cw (na bw (by simp))) ne1.2.2.1
    have csW : W.cell? ⟨bs, 0, none⟩ = some (ptr sb) := fW.cell' (o1.fr.cell' cs (na bs (by simp))) ne1.2.1
    have crW : W.cell? ⟨br, 0, none⟩ = some (.int .i64 r) := fW.cell' (o1.fr.cell' cr (na br (by simp))) ne1.2.2.2.1
    have oW : OnxX (fun k => k = ba ∨ k = bo) w sb b T W T1 3984 A P1 false := (OnxX.of o1).var fW (fun k hk => .inl hk) (fun k hk => by have hk : k = ba := hk; subst hk; exact na1 k (by simp) lt)
    have c := bx.c; have z := bx.z
    have hlv : x ≤ 8 * 2 ^ lv x := lv_holds x (by omega)
    obtain ⟨cc, hu, hcc⟩ := tk.blk
    have hb4 := block_lt hcc
    rw [← hu] at hb4
    have hp4 : 2 ^ lv x ≤ 64 := Nat.pow_le_pow_right (n := 2) (j := 6) (by omega) (lv_le x)
    have hux : 160 + 8 * u + x ≤ 3984 := by omega
    have HX := hide (And.intro tk (And.intro hW1 (And.intro oW (And.intro bxW (And.intro boW (And.intro cwW (And.intro csW crW)))))))
    have hu5 : u ≤ 478 := by omega
    have HLV := hide hlv
    have HW := hide hW
    clear tk hW1 oW bxW boW cwW csW crW bx bxo h1 o1 fW hW na na1 cw cs cr hcc hb4 hp4 hu hlv
    go_wp2_with fail
    rw [unhide HW]
    go_loopw [6] (fun i wr => ∃ (m : Nat) (T' : Tay) (P' : List (Int × Int)), m ≤ x ∧ i = .int .i64 m ∧ Box wr bo (.bool true) ∧ OnxX (fun k => k = ba ∨ k = bo) W sb b T1 wr T' 3984 A P' false ∧ Hp wr hb sb b T' A P' ∧ Box wr ba (.int .i64 (160 + u * 8)) ∧ (∀ i, i < 160 → says P' A i = says P1 A i) ∧ ∀ i, 160 + 8 * u + m ≤ i → i < 160 + 8 * u + x → says P' A i = 0) (fun i wr => x - (intOf i).toNat)
    case atStart =>
      obtain ⟨tk, hW1, oW, bxW, boW, _⟩ := unhide HX
      exact ⟨0, T1, P1, by omega, rfl, boW, OnxX.of (Onx.start hW1.st), hW1, bxW, fun _ _ => rfl, fun i h1 h2 => tk.zero i (by omega) (by have := unhide HLV; omega)⟩
    case round =>
      obtain ⟨m, T', P', hm, rfl, bor, o, hp, bar, own, zr⟩ := hrel
      obtain ⟨tk, hW1, oW, bxW, boW, cwW, csW, crW⟩ := unhide HX
      have lbw : bw < W.heap.size := World.block_lt_of_cell? _ _ cwW
      have na := unhide HNA
      have nT1 : ∀ k, k = bh ∨ k = bs ∨ k = bw ∨ k = br ∨ k = ba ∨ k = bo → k < w.heap.size → ¬ tfoot sb b T1 k := fun k hk hl => oW.other hl (na k hk)
      have kp : ∀ k, k = bs ∨ k = bw ∨ k = br → k < w.heap.size → ∀ vv, W.cell? ⟨k, 0, none⟩ = some vv → wr.cell? ⟨k, 0, none⟩ = some vv := fun k hk hl vv hv => o.fr.cell' hv (fun e => by
        rcases e with e | e | e
        · exact nT1 k (by rcases hk with rfl | rfl | rfl <;> simp) hl e
        · have e : k = ba := e
          rcases hk with rfl | rfl | rfl
          · exact ne1.2.1 e
          · exact ne1.2.2.1 e
          · exact ne1.2.2.2.1 e
        · have e : k = bo := e
          rcases hk with rfl | rfl | rfl
          · exact ne2.2.1 e
          · exact ne2.2.2.1 e
          · exact ne2.2.2.2.1 e)
      have cwr := kp bw (by simp) lw _ cwW
      have csr := kp bs (by simp) ls _ csW
      have crr := kp br (by simp) lr _ crW
      have car := bar.c; have cor := bor.c; have zor := bor.z
      clear kp
      by_cases hlt : m < x
      · have LD := hp.load (160 + 8 * u + m) (by omega)
        rw [zr _ (by omega) (by omega)] at LD
        have bor2 : Box (wr.setCell ⟨bo, 0, none⟩ (.bool true)) bo (.bool true) := bor.set _
        have fo := Fr.box wr bo (.bool true)
        have nbo : ¬ tfoot sb b T' bo := o.other (Nat.lt_of_lt_of_le lo (by have := oW.fr.size; omega)) (nT1 bo (by simp) lo)
        have hp2 : Hp (wr.setCell ⟨bo, 0, none⟩ (.bool true)) hb sb b T' A P' := hp.turn fo (fun k hk => by have hk : k = bo := hk; subst hk; exact nbo) ne2.2.2.2.2.1 ne2.2.2.2.2.2
        have o2 := o.var fo (fun k hk => .inr hk) (fun k hk => by have hk : k = bo := hk; subst hk; exact nbo)
        have PU := hp2.put (160 + 8 * u + m) (by omega) ((r : Int) * 1000 + m + 1)
        have e2 : ((160 + 8 * u + m : Nat) : Int) = 160 + (u : Int) * 8 + m := by omega
        rw [e2] at LD PU
        have car2 := fo.cell' car (fun e => ne1.2.2.2.2.1 e.symm)
        have csr2 := fo.cell' csr ne2.2.1
        have crr2 := fo.cell' crr ne2.2.2.2.1
        have bar2 := bar.kept fo (fun e => ne1.2.2.2.2.1 e.symm)
        have nba : ¬ tfoot sb b T' ba := o.other (Nat.lt_of_lt_of_le lt (by have := oW.fr.size; omega)) (nT1 ba (by simp) lt)
        have HLD := hide LD; have HPU := hide PU; have HR := hide (And.intro o2 (And.intro hp2 (And.intro bar2 (And.intro bor2 (And.intro own (And.intro zr (And.intro nba nbo)))))))
        clear LD PU o o2 hp hp2 bar bar2 bor bor2 own zr tk hW1 oW bxW boW cwW csW crW na nT1 fo nba nbo
        go_wp2_with (first | (go_at_call 13; refine (unhide HLD).mono ?_; rintro e w' ⟨rfl, hh⟩; replace hh := hh.symm; subst hh) | fail)
        refine (unhide HPU).mono ?_
        clear HPU HLD
        rintro e w5 ⟨rfl, T5, P5, o5, eg5⟩
        have HO5 := hide (And.intro o5 eg5)
        clear o5 eg5
        go_wp2
        obtain ⟨o2, hp2, bar2, bor2, own, zr, nba, nbo⟩ := unhide HR
        obtain ⟨o5, eg5⟩ := unhide HO5
        refine ⟨⟨m + 1, T5, P5, by omega, by go_num, bor2.kept o5.fr nbo, o2.trans o5, hp2.call o5, bar2.kept o5.fr nba, fun i hi => ?_, fun i h1 h2 => ?_⟩, by simp [intOf]; omega⟩
        · rw [eg5, upd_other _ _ (by omega)]; exact own i hi
        · rw [eg5, upd_other _ _ (by omega)]; exact zr i (by omega) h2
      · have : m = x := by omega
        subst this
        have HR := hide (And.intro o (And.intro bar (And.intro bor own)))
        clear o hp bar bor own zr na nT1
        go_wp2
        go_end0
        obtain ⟨o, bar, bor, own⟩ := unhide HR
        refine .inl ⟨rfl, T', P', ⟨o.st, oW.fr.trans' o.fr (fun k hk => ?_), fun k hk => (o.sub k hk).elim (oW.sub k) (fun x => .inr (Nat.le_trans oW.fr.size x))⟩, u, bar, bor, _, tk, own⟩
        rcases hk with hk | hk
        · exact (oW.sub k hk).imp .inl id
        · exact .inl (.inr hk)
  · exact ⟨rfl, .inr ⟨rfl, D, hf⟩⟩

set_option maxHeartbeats 1000000 in
theorem noC2 (h : Hp w hb sb b T A P) (s : HpS (says P A)) (u : Nat) (hu : ask (says P A) u ≠ 0) (ch : w.cell? ⟨bh, 0, none⟩ = some (ptr hb)) (ca : w.cell? ⟨ba, 0, none⟩ = some (.int .i64 (160 + u * 8))) :
    Calls Tryz.prog 15 #[ptr bh, ptr ba] w fun e w' => e = .returned (.tuple #[]) ∧ ∃ T' P', Onx w sb b T w' T' 3984 A P' false ∧ Gave (says P A) u (says P' A) := by
  have GV := h_give h s u hu
  have HGV := hide GV
  clear GV h s hu
  go_enter Tryz.func15, Tryz.ntmps15
  go_wp2_with fail
  refine (unhide HGV).mono ?_
  clear HGV
  rintro e w1 ⟨rfl, g, ⟨T', P', o, eg⟩, gv⟩
  subst eg
  have HX := hide (And.intro o gv)
  clear o gv
  go_wp2
  go_end0
  exact ⟨rfl, T', P', unhide HX⟩
end
end Go.Proofs.YtgehfmonfofbiaaGreatDoor
