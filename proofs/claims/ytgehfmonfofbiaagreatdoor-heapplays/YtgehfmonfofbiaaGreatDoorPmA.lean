/- The closures of HeapNoughts, HeapRoots and HeapWrong, for HeapPlays. -/
import Derived.Test.YtgehfmonfofbiaaGreatDoorLa
import Derived.Test.YtgehfmonfofbiaaGreatDoorLq
import Derived.Test.YtgehfmonfofbiaaGreatDoorHs
namespace Go.Proofs.YtgehfmonfofbiaaGreatDoor
open Go.RowKit

/-- A piece was taken, then words of it put. -/
def TookD (f : Nat → Int) (x u : Nat) (g' : Nat → Int) : Prop := ∃ g, Took f x u g ∧ ∀ i, i < 160 → g' i = g i

section
variable {w w' w0 : World} {hb sb b bh ba bo bs br bw : Nat} {T : Tay} {A : Ab} {P : List (Int × Int)} {v : Value}

/-- Told by HeapNoughts' first closure. -/
def NoR (f : Nat → Int) (x : Nat) (A : Ab) (ba bo : Nat) (P' : List (Int × Int)) (w' : World) : Prop := ∃ u : Nat, Box w' ba (.int .i64 (160 + u * 8)) ∧ Box w' bo (.bool true) ∧ TookD f x u (says P' A)

set_option maxRecDepth 20000 in
set_option maxHeartbeats 4000000 in
theorem noC1 (h : Hp w hb sb b T A P) (s : HpS (says P A)) (x r : Nat) (hx1 : 1 ≤ x) (hx : x ≤ 128) (hr : r ≤ 3) (ch : w.cell? ⟨bh, 0, none⟩ = some (ptr hb)) (cs : w.cell? ⟨bs, 0, none⟩ = some (ptr sb)) (cw : w.cell? ⟨bw, 0, none⟩ = some (.int .i64 x)) (cr : w.cell? ⟨br, 0, none⟩ = some (.int .i64 r))
    (ca : Box w ba v) (co : Box w bo (.bool true)) (na : ∀ k, k = bh ∨ k = bs ∨ k = bw ∨ k = br ∨ k = ba ∨ k = bo → ¬ tfoot sb b T k) (ne1 : bh ≠ ba ∧ bs ≠ ba ∧ bw ≠ ba ∧ br ≠ ba ∧ bo ≠ ba ∧ hb ≠ ba ∧ 0 ≠ ba) (ne2 : bh ≠ bo ∧ bs ≠ bo ∧ bw ≠ bo ∧ br ≠ bo ∧ hb ≠ bo ∧ 0 ≠ bo) :
    Calls Tryz.prog 11 #[ptr bh, ptr bw, ptr ba, ptr bo, ptr bs, ptr br] w fun e w' => (e = .returned (.tuple #[]) ∧ ∃ T' P', OnxX (fun k => k = ba ∨ k = bo) w sb b T w' T' 3984 A P' false ∧ NoR (says P A) x A ba bo P' w') ∨ (e = .panicked (errnoP 60) ∧ Still w w' ∧ FullAt x (says P A)) := by
  have TK := h_takeP h s x hx1 (by omega)
  have HTK := hide TK; have HH := hide h; have HCA := hide ca; have HCO := hide co; have HNA := hide na
  have lt := ca.lt
  have lo := co.lt
  have lw : bw < w.heap.size := World.block_lt_of_cell? _ _ cw
  have ls : bs < w.heap.size := World.block_lt_of_cell? _ _ cs
  have lr : br < w.heap.size := World.block_lt_of_cell? _ _ cr
  have HCW := hide (And.intro cw (And.intro cs cr))
  clear TK h s ca co na
  go_enter Tryz.func11, Tryz.ntmps11
  go_wp2_with fail
  refine (unhide HTK).mono ?_
  clear HTK
  rintro e w1 (⟨u, g, rfl, t, tk⟩ | ⟨rfl, D, hf⟩)
  · obtain ⟨T1, P1, o1, eg⟩ := t
    subst eg
    have na := unhide HNA
    obtain ⟨cw, cs, cr⟩ := unhide HCW
    have bx : Box w1 ba v := (unhide HCA).kept o1.fr (na ba (by simp))
    have bxo : Box w1 bo (.bool true) := (unhide HCO).kept o1.fr (na bo (by simp))
    have h1 := (unhide HH).call o1
    obtain ⟨W, hW⟩ : ∃ W, w1.setCell ⟨ba, 0, none⟩ (.int .i64 (160 + u * 8)) = W := ⟨_, rfl⟩
    have fW : Fr (fun k => k = ba) w1 W := hW ▸ Fr.box w1 ba _
    have na1 : ∀ k, k = bh ∨ k = bs ∨ k = bw ∨ k = br ∨ k = ba ∨ k = bo → k < w.heap.size → ¬ tfoot sb b T1 k := fun k hk hl => o1.other hl (na k hk)
    have hW1 : Hp W hb sb b T1 A P1 := h1.turn fW (fun k hk => by have hk : k = ba := hk; subst hk; exact na1 k (by simp) lt) ne1.2.2.2.2.2.1 ne1.2.2.2.2.2.2
    have bxW : Box W ba (.int .i64 (160 + u * 8)) := hW ▸ bx.set _
    have boW : Box W bo (.bool true) := bxo.kept fW ne1.2.2.2.2.1
    have cwW : W.cell? ⟨bw, 0, none⟩ = some (.int .i64 x) := fW.cell' (o1.fr.cell' cw (na bw (by simp))) ne1.2.2.1
    have csW : W.cell? ⟨bs, 0, none⟩ = some (ptr sb) := fW.cell' (o1.fr.cell' cs (na bs (by simp))) ne1.2.1
    have crW : W.cell? ⟨br, 0, none⟩ = some (.int .i64 r) := fW.cell' (o1.fr.cell' cr (na br (by simp))) ne1.2.2.2.1
    have oW : OnxX (fun k => k = ba ∨ k = bo) w sb b T W T1 3984 A P1 false := (OnxX.of o1).var fW (fun k hk => .inl hk) (fun k hk => by have hk : k = ba := hk; subst hk; exact na1 k (by simp) lt)
    have c := bx.c; have z := bx.z
    have hlv : x ≤ 8 * 2 ^ lv x := lv_holds x (by omega)
    obtain ⟨cc, hu, hcc⟩ := tk.blk
    have hb4 := block_lt hcc
    rw [← hu] at hb4
    have hp4 : 2 ^ lv x ≤ 64 := Nat.pow_le_pow_right (n := 2) (j := 6) (by omega) (lv_le x)
    have hux : 160 + 8 * u + x ≤ 3984 := by omega
    have HX := hide (And.intro tk (And.intro hW1 (And.intro oW (And.intro bxW (And.intro boW (And.intro cwW (And.intro csW crW)))))))
    have hu5 : u ≤ 478 := by omega
    have HLV := hide hlv
    have HW := hide hW
    clear tk hW1 oW bxW boW cwW csW crW bx bxo h1 o1 fW hW na na1 cw cs cr hcc hb4 hp4 hu hlv
    go_wp2_with fail
    rw [unhide HW]
    go_loopw [6] (fun i wr => ∃ (m : Nat) (T' : Tay) (P' : List (Int × Int)), m ≤ x ∧ i = .int .i64 m ∧ Box wr bo (.bool true) ∧ OnxX (fun k => k = ba ∨ k = bo) W sb b T1 wr T' 3984 A P' false ∧ Hp wr hb sb b T' A P' ∧ Box wr ba (.int .i64 (160 + u * 8)) ∧ (∀ i, i < 160 → says P' A i = says P1 A i) ∧ ∀ i, 160 + 8 * u + m ≤ i → i < 160 + 8 * u + x → says P' A i = 0) (fun i wr => x - (intOf i).toNat)
    case atStart =>
      obtain ⟨tk, hW1, oW, bxW, boW, _⟩ := unhide HX
      exact ⟨0, T1, P1, by omega, rfl, boW, OnxX.of (Onx.start hW1.st), hW1, bxW, fun _ _ => rfl, fun i h1 h2 => tk.zero i (by omega) (by have := unhide HLV; omega)⟩
    case round =>
      obtain ⟨m, T', P', hm, rfl, bor, o, hp, bar, own, zr⟩ := hrel
      obtain ⟨tk, hW1, oW, bxW, boW, cwW, csW, crW⟩ := unhide HX
      have lbw : bw < W.heap.size := World.block_lt_of_cell? _ _ cwW
      have na := unhide HNA
      have nT1 : ∀ k, k = bh ∨ k = bs ∨ k = bw ∨ k = br ∨ k = ba ∨ k = bo → k < w.heap.size → ¬ tfoot sb b T1 k := fun k hk hl => oW.other hl (na k hk)
      have kp : ∀ k, k = bs ∨ k = bw ∨ k = br → k < w.heap.size → ∀ vv, W.cell? ⟨k, 0, none⟩ = some vv → wr.cell? ⟨k, 0, none⟩ = some vv := fun k hk hl vv hv => o.fr.cell' hv (fun e => by
        rcases e with e | e | e
        · exact nT1 k (by rcases hk with rfl | rfl | rfl <;> simp) hl e
        · have e : k = ba := e
          rcases hk with rfl | rfl | rfl
          · exact ne1.2.1 e
          · exact ne1.2.2.1 e
          · exact ne1.2.2.2.1 e
        · have e : k = bo := e
          rcases hk with rfl | rfl | rfl
          · exact ne2.2.1 e
          · exact ne2.2.2.1 e
          · exact ne2.2.2.2.1 e)
      have cwr := kp bw (by simp) lw _ cwW
      have csr := kp bs (by simp) ls _ csW
      have crr := kp br (by simp) lr _ crW
      have car := bar.c; have cor := bor.c; have zor := bor.z
      clear kp
      by_cases hlt : m < x
      · have LD := hp.load (160 + 8 * u + m) (by omega)
        rw [zr _ (by omega) (by omega)] at LD
        have bor2 : Box (wr.setCell ⟨bo, 0, none⟩ (.bool true)) bo (.bool true) := bor.set _
        have fo := Fr.box wr bo (.bool true)
        have nbo : ¬ tfoot sb b T' bo := o.other (Nat.lt_of_lt_of_le lo (by have := oW.fr.size; omega)) (nT1 bo (by simp) lo)
        have hp2 : Hp (wr.setCell ⟨bo, 0, none⟩ (.bool true)) hb sb b T' A P' := hp.turn fo (fun k hk => by have hk : k = bo := hk; subst hk; exact nbo) ne2.2.2.2.2.1 ne2.2.2.2.2.2
        have o2 := o.var fo (fun k hk => .inr hk) (fun k hk => by have hk : k = bo := hk; subst hk; exact nbo)
        have PU := hp2.put (160 + 8 * u + m) (by omega) ((r : Int) * 1000 + m + 1)
        have e2 : ((160 + 8 * u + m : Nat) : Int) = 160 + (u : Int) * 8 + m := by omega
        rw [e2] at LD PU
        have car2 := fo.cell' car (fun e => ne1.2.2.2.2.1 e.symm)
        have csr2 := fo.cell' csr ne2.2.1
        have crr2 := fo.cell' crr ne2.2.2.2.1
        have bar2 := bar.kept fo (fun e => ne1.2.2.2.2.1 e.symm)
        have nba : ¬ tfoot sb b T' ba := o.other (Nat.lt_of_lt_of_le lt (by have := oW.fr.size; omega)) (nT1 ba (by simp) lt)
        have HLD := hide LD; have HPU := hide PU; have HR := hide (And.intro o2 (And.intro hp2 (And.intro bar2 (And.intro bor2 (And.intro own (And.intro zr (And.intro nba nbo)))))))
        clear LD PU o o2 hp hp2 bar bar2 bor bor2 own zr tk hW1 oW bxW boW cwW csW crW na nT1 fo nba nbo
        go_wp2_with (first | (go_at_call 13; refine (unhide HLD).mono ?_; rintro e w' ⟨rfl, hh⟩; replace hh := hh.symm; subst hh) | fail)
        refine (unhide HPU).mono ?_
        clear HPU HLD
        rintro e w5 ⟨rfl, T5, P5, o5, eg5⟩
        have HO5 := hide (And.intro o5 eg5)
        clear o5 eg5
        go_wp2
        obtain ⟨o2, hp2, bar2, bor2, own, zr, nba, nbo⟩ := unhide HR
        obtain ⟨o5, eg5⟩ := unhide HO5
        refine ⟨⟨m + 1, T5, P5, by omega, by go_num, bor2.kept o5.fr nbo, o2.trans o5, hp2.call o5, bar2.kept o5.fr nba, fun i hi => ?_, fun i h1 h2 => ?_⟩, by simp [intOf]; omega⟩
        · rw [eg5, upd_other _ _ (by omega)]; exact own i hi
        · rw [eg5, upd_other _ _ (by omega)]; exact zr i (by omega) h2
      · have : m = x := by omega
        subst this
        have HR := hide (And.intro o (And.intro bar (And.intro bor own)))
        clear o hp bar bor own zr na nT1
        go_wp2
        go_end0
        obtain ⟨o, bar, bor, own⟩ := unhide HR
        refine .inl ⟨rfl, T', P', ⟨o.st, oW.fr.trans' o.fr (fun k hk => ?_), fun k hk => (o.sub k hk).elim (oW.sub k) (fun x => .inr (Nat.le_trans oW.fr.size x))⟩, u, bar, bor, _, tk, own⟩
        rcases hk with hk | hk
        · exact (oW.sub k hk).imp .inl id
        · exact .inl (.inr hk)
  · exact ⟨rfl, .inr ⟨rfl, D, hf⟩⟩

set_option maxHeartbeats 1000000 in
theorem noC2 (h : Hp w hb sb b T A P) (s : HpS (says P A)) (u : Nat) (hu : ask (says P A) u ≠ 0) (ch : w.cell? ⟨bh, 0, none⟩ = some (ptr hb)) (ca : w.cell? ⟨ba, 0, none⟩ = some (.int .i64 (160 + u * 8))) :
    Calls Tryz.prog 15 #[ptr bh, ptr ba] w fun e w' => e = .returned (.tuple #[]) ∧ ∃ T' P', Onx w sb b T w' T' 3984 A P' false ∧ Gave (says P A) u (says P' A) := by
  have GV := h_give h s u hu
  have HGV := hide GV
  clear GV h s hu
  go_enter Tryz.func15, Tryz.ntmps15
  go_wp2_with fail
  refine (unhide HGV).mono ?_
  clear HGV
  rintro e w1 ⟨rfl, g, ⟨T', P', o, eg⟩, gv⟩
  subst eg
  have HX := hide (And.intro o gv)
  clear o gv
  go_wp2
  go_end0
  exact ⟨rfl, T', P', unhide HX⟩
end

/-- A device that is new since w0, beside the law's own blocks X. -/
structure Dvx (w0 : World) (X : Nat → Prop) (w : World) (b : Nat) (L : Lay) (A : Ab) : Prop where
  d : DevL w b L A
  fr : Still w0 w
  new : ∀ k, foot b L k → w0.heap.size ≤ k
  ap : ∀ k, X k → ¬ foot b L k
  xl : ∀ k, X k → w0.heap.size ≤ k ∧ k < w.heap.size

section
variable {w0 w w' : World} {X : Nat → Prop} {b sb hb N : Nat} {L L' : Lay} {T : Tay} {A A' : Ab} {base h f : Nat → Int} {xs : List (Int × Int)} {s : Int} {free : Prop}

theorem Dvx.step (D : Dvx w0 X w b L A) (d' : DevL w' b L' A') (f : Fr (foot b L) w w') (sub : ∀ k, foot b L' k → foot b L k ∨ w.heap.size ≤ k) : Dvx w0 X w' b L' A' :=
  ⟨d', D.fr.trans' f (fun k hk => .inr (D.new k hk)), fun k hk => (sub k hk).elim (D.new k) (fun x => Nat.le_trans D.fr.size x),
    fun k hk x => (sub _ x).elim (D.ap k hk) (fun y => by have := (D.xl k hk).2; omega), fun k hk => ⟨(D.xl k hk).1, Nat.lt_of_lt_of_le (D.xl k hk).2 f.size⟩⟩
theorem Dvx.dm {P : Ab → Prop} (D : Dvx w0 X w b L A) (m : DM w b L w' P) : (∃ L' A', Dvx w0 X w' b L' A' ∧ P A') ∧ Fr (foot b L) w w' := by
  obtain ⟨L', A', d, p, f, sub⟩ := m
  exact ⟨⟨L', A', D.step d f sub, p⟩, f⟩
theorem HpC.dv (hc : HpC w0 X w hb sb b T A N free s base) : Dvx w0 X w b T.L A :=
  ⟨hc.hd.st.dev, hc.hd.fr, fun k hk => hc.hd.new k (.inl hk), fun k hk x => hc.hd.ap k hk (.inl x), hc.hd.xl⟩

/-- The power comes back to a device. -/
theorem x_power (D : Dvx w0 X w b L A) (lt : LogTorn N 0 12304 base xs s A) (hs2 : s < 4294967296) (flip : Bool) (la : Option Addr) (len cap : Nat) (zs : Nat → Int) (hlen : len ≤ maxLen) (hl : Nums w la len zs) :
    Calls Tryz.prog 23 #[ptr b, .bool flip, .slice la len cap] w fun e w' => e = .returned (.tuple #[]) ∧ (∃ L' A' h, Dvx w0 X w' b L' A' ∧ (∀ free, Calm N free A' s h) ∧ Stand N base xs h) ∧ Fr (foot b L) w w' := by
  refine (p_power D.d lt.1 lt.2.1 hs2 flip la len cap zs hlen hl).mono ?_
  rintro e w' ⟨rfl, m⟩
  obtain ⟨⟨L', A', D', h, hp, c⟩, fr⟩ := D.dm m
  exact ⟨rfl, ⟨L', A', h, D', c, lt.2.2 h hp⟩, fr⟩

/-- A store is opened on it, or the power goes. -/
theorem x_open (D : Dvx w0 X w b L A) (c : Calm N free A s h) (st : Stand N base xs h) (hxs : xs.length ≤ 6144) (hN : N * 8 = 12400 + 3984) (hs : s + 12292 < 4294967296) :
    Calls Tryz.prog 24 #[ptr b] w fun e w' => ((∃ sb T A' h', e = .returned (.tuple #[ptr sb, .int .i64 0]) ∧ Hold w0 X w' sb b 3984 T A' [] false ∧ Calm N free A' (s + 12292) h' ∧ Either base xs h') ∨
      (e = .returned (.tuple #[.pointer none, .int .i64 50]) ∧ ¬ free ∧ ∃ L' A', Dvx w0 X w' b L' A' ∧ LogTorn N 0 12304 base xs (s + 12292) A')) ∧ Fr (foot b L) w w' := by
  refine (tx_open (n := 3984) D.d c st hxs hN (by omega) hs).mono ?_
  rintro e w' (⟨sb, rfl, _, op⟩ | ⟨rfl, m⟩)
  · obtain ⟨T, A', h', st', sub, c', ei⟩ := op.ex
    refine ⟨.inl ⟨sb, T, A', h', rfl, ⟨st', D.fr.trans' op.fr (fun k hk => .inr (D.new k hk)), fun k hk => (sub k hk).elim (D.new k) (fun x => Nat.le_trans D.fr.size x), fun k hk x => (sub _ x).elim (D.ap k hk) (fun y => by have := (D.xl k hk).2; omega), fun k hk => ⟨(D.xl k hk).1, Nat.lt_of_lt_of_le (D.xl k hk).2 op.fr.size⟩⟩, c', ei⟩, op.fr⟩
  · obtain ⟨⟨L', A', D', hn, lt⟩, fr⟩ := D.dm m
    exact ⟨.inr ⟨rfl, hn, L', A', D', lt⟩, fr⟩

set_option maxRecDepth 20000 in
/-- The heap is opened on it. -/
theorem x_heap (hd : Hold w0 X w sb b 3984 T A [] false) (c : Calm N free A s f) (k : Clean 0 12304 base f) (tab : TabL w0) (hps : HpS (rb base)) (hs : s + 30729 < 4294967296) :
    Calls Tryz.prog 25 #[ptr sb] w fun e w' => ((∃ hb T' A', e = .returned (.tuple #[ptr hb, .int .i64 0]) ∧ HpC w0 (fun k => X k ∨ k = hb) w' hb sb b T' A' N free (s + 30729) base) ∨
      (e = .returned (.tuple #[.pointer none, .int .i64 50]) ∧ ¬ free ∧ ∃ T' A', Hold w0 X w' sb b 3984 T' A' [] true ∧ LogTorn N 0 12304 base [] (s + 30729) A')) ∧ Fr (tfoot sb b T) w w' := by
  have l0 : 0 < w0.heap.size := World.block_lt_of_cell? _ _ (tab 0 (by omega))
  have sy := says_base c k []
  rw [homed_nil] at sy
  have OP := h_open_by (R := fun P' => P' = []) hd.st c k (fun j hj => hd.fr.cell' (tab j hj) (fun x => x)) (fun ht => by have := hd.new 0 ht; omega) hs (fun w1 hb bx hp bc => (h_openC_old hp (by rw [sy, hps.mrk]; omega) bc).mono (by
    rintro e w3 ⟨rfl, hw⟩
    exact ⟨rfl, T, [], by rw [hw]; exact Onx.start hp.st, rfl⟩))
  refine OP.mono ?_
  rintro e w' (⟨hb, P', T', A', rfl, lh, hl, rfl, o, nh, f', c', k'⟩ | ⟨P', T', A', rfl, rfl, o, hg, lt⟩)
  · rw [homed_nil] at k'
    have h1 := hd.call o
    refine ⟨.inl ⟨hb, T', A', rfl, ⟨⟨h1.st, h1.fr, h1.new, fun k hk => ?_, fun k hk => ?_⟩, ⟨f', c', k'⟩, hl, .inr rfl, l0⟩⟩, o.fr⟩
    · rcases hk with hk | rfl
      · exact h1.ap k hk
      · exact nh
    · rcases hk with hk | rfl
      · exact h1.xl k hk
      · exact ⟨Nat.le_trans hd.fr.size lh, World.block_lt_of_cell? _ _ hl.c0⟩
  · exact ⟨.inr ⟨rfl, hg, T', A', hd.call o, lt⟩, o.fr⟩
end

theorem HpS.root {f : Nat → Int} (s : HpS f) (i : Nat) (h1 : 2 ≤ i) (h2 : i < 18) (v : Nat) (hv : v < 18446744073709551616) : HpS (upd f i v) :=
  ⟨words_upd s.wd i v hv, by rw [upd_other _ _ (by omega)]; exact s.mrk, by rw [fre_upd _ (.inl h2), ask_upd _ (.inl (by omega))]; exact s.inv, by rw [ask_upd _ (.inl (by omega)), upd_other _ _ (by omega)]; exact s.fr⟩

/-- A root was set, and, if asked for, a piece of 20 words taken. -/
structure Rooted (f : Nat → Int) (k v : Nat) (fill : Bool) (g : Nat → Int) : Prop where
  st : HpS g
  root : ∀ j, j < 16 → g (2 + j) = if j = k then (v : Int) else f (2 + j)
  ak : (fill = false ∧ ask g = ask f) ∨ (fill = true ∧ ∃ c u, u = c * 2 ^ lv 20 ∧ c < 478 / 2 ^ lv 20 ∧ ask f u = 0 ∧ ask g = setK (ask f) u 20)

section
variable {w w' w0 : World} {hb sb b bh bk bi bf bs : Nat} {T : Tay} {A : Ab} {P : List (Int × Int)}

set_option maxRecDepth 20000 in
set_option maxHeartbeats 4000000 in
theorem roC (h : Hp w hb sb b T A P) (s : HpS (says P A)) (k i : Nat) (fill : Bool) (hk : k < 16) (hi : i < 100) (ch : w.cell? ⟨bh, 0, none⟩ = some (ptr hb)) (ck : w.cell? ⟨bk, 0, none⟩ = some (.int .i64 k)) (ci : w.cell? ⟨bi, 0, none⟩ = some (.int .i64 i)) (cf : w.cell? ⟨bf, 0, none⟩ = some (.bool fill)) (cs : w.cell? ⟨bs, 0, none⟩ = some (ptr sb))
    (na : ∀ r, r = bh ∨ r = bf ∨ r = bs → ¬ tfoot sb b T r) :
    Calls Tryz.prog 21 #[ptr bh, ptr bk, ptr bi, ptr bf, ptr bs] w fun e w' => (e = .returned (.tuple #[]) ∧ ∃ T' P', Onx w sb b T w' T' 3984 A P' false ∧ Rooted (says P A) k (i + 1) fill (says P' A)) ∨ (e = .panicked (errnoP 60) ∧ ∃ T' P', Onx w sb b T w' T' 3984 A P' false ∧ FullAt 20 (says P A)) := by
  have SR := h_setRoot h k hk ((i : Int) + 1)
  have HSR := hide SR; have HH := hide h; have HS := hide s
  have hi1 : IntKind.u64.wrap ((i : Int) + 1) = (i : Int) + 1 := by rw [IntKind.wrap_u64]; omega
  clear SR h s
  go_enter Tryz.func21, Tryz.ntmps21
  go_wp2_with fail
  refine (unhide HSR).mono ?_
  clear HSR
  rintro e w1 ⟨rfl, T1, P1, o1, eg1⟩
  have h1 := (unhide HH).call o1
  have s1 : HpS (says P1 A) := by
    rw [eg1, show ((i : Int) + 1) = ((i + 1 : Nat) : Int) by omega]
    exact (unhide HS).root (2 + k) (by omega) (by omega) (i + 1) (by omega)
  have ak1 : ask (says P1 A) = ask (says P A) := by rw [eg1]; exact ask_upd _ (.inl (by omega))
  have fr1 : fre (says P1 A) = fre (says P A) := by rw [eg1]; exact fre_upd _ (.inl (by omega))
  have rt1 : ∀ j, j < 16 → says P1 A (2 + j) = if j = k then ((i + 1 : Nat) : Int) else says P A (2 + j) := fun j hj => by
    rw [eg1]
    by_cases e : j = k
    · subst e; rw [upd_same, if_pos rfl]; simp
    · rw [upd_other _ _ (by omega), if_neg e]
  have ch1 := o1.fr.cell' ch (na bh (by simp))
  have cf1 := o1.fr.cell' cf (na bf (by simp))
  have cs1 := o1.fr.cell' cs (na bs (by simp))
  have TK : Calls Tryz.prog 12 #[ptr hb, .int .i64 20] w1 _ := h_takeP h1 s1 20 (by omega) (by omega)
  have HTK := hide TK; have HX1 := hide (And.intro o1 (And.intro s1 (And.intro ak1 (And.intro fr1 rt1)))); have HH1 := hide h1
  have lbs : bs < w.heap.size := World.block_lt_of_cell? _ _ cs
  have nbs := na bs (by simp)
  have HNB := hide nbs
  clear TK o1 s1 ak1 fr1 rt1 h1 eg1 ch ck ci cf cs na hi1 nbs
  cases fill
  · go_wp2
    go_end0
    obtain ⟨o1, s1, ak1, fr1, rt1⟩ := unhide HX1
    exact .inl ⟨rfl, T1, P1, o1, s1, rt1, .inl ⟨rfl, ak1⟩⟩
  · go_wp2_with fail
    refine (unhide HTK).mono ?_
    clear HTK
    rintro e w2 (⟨u, g, rfl, ⟨T2, P2, o2, eg2⟩, tk⟩ | ⟨rfl, D, hf⟩)
    · subst eg2
      have h2 := (unhide HH1).call o2
      obtain ⟨c, hu, hcc⟩ := tk.blk
      have hb4 := block_lt hcc
      rw [← hu] at hb4
      have hu5 : u + 4 ≤ 478 := hb4
      have cs2 : w2.cell? ⟨bs, 0, none⟩ = some (ptr sb) := o2.fr.cell' cs1 (by
        obtain ⟨o1, _⟩ := unhide HX1
        exact o1.other lbs (unhide HNB))
      have HX2 := hide (And.intro o2 (And.intro tk (And.intro hu hcc))); have HH2 := hide h2; have HCS2 := hide cs2
      clear o2 tk h2 hu hcc hb4 ch1 cf1 cs1 cs2
      go_wp2_with fail
      go_loopw [6] (fun i wr => ∃ (m : Nat) (T' : Tay) (P' : List (Int × Int)), m ≤ 20 ∧ i = .int .i64 m ∧ Onx w2 sb b T2 wr T' 3984 A P' false ∧ ∀ j, j < 160 → says P' A j = says P2 A j) (fun i wr => 20 - (intOf i).toNat)
      case atStart => exact ⟨0, T2, P2, by omega, rfl, Onx.start (unhide HH2).st, fun _ _ => rfl⟩
      case round =>
        obtain ⟨m, T', P', hm, rfl, o, own⟩ := hrel
        have h3 := (unhide HH2).call o
        by_cases hlt : m < 20
        · have PU := h3.put (160 + 8 * u + m) (by omega) 9223372036854775808
          have e2 : ((160 + 8 * u + m : Nat) : Int) = 160 + (u : Int) * 8 + m := by omega
          rw [e2] at PU
          have cs3 : wr.cell? ⟨bs, 0, none⟩ = some (ptr sb) := o.fr.cell' (unhide HCS2) (by
            obtain ⟨o1, _⟩ := unhide HX1
            obtain ⟨o2, _⟩ := unhide HX2
            exact (o1.trans o2).other lbs (unhide HNB))
          have HPU := hide PU; have HO := hide (And.intro o own)
          clear PU o own h3
          go_wp2_with fail
          refine (unhide HPU).mono ?_
          clear HPU
          rintro e w5 ⟨rfl, T5, P5, o5, eg5⟩
          have HO5 := hide (And.intro o5 eg5)
          clear o5 eg5
          go_wp2
          obtain ⟨o, own⟩ := unhide HO
          obtain ⟨o5, eg5⟩ := unhide HO5
          exact ⟨⟨m + 1, T5, P5, by omega, by go_num, o.trans o5, fun j hj => by rw [eg5, upd_other _ _ (by omega)]; exact own j hj⟩, by simp [intOf]; omega⟩
        · have : m = 20 := by omega
          subst this
          have HO := hide (And.intro o own)
          clear o own h3
          go_wp2
          go_end0
          obtain ⟨o, own⟩ := unhide HO
          obtain ⟨o1, s1, ak1, fr1, rt1⟩ := unhide HX1
          obtain ⟨o2, tk, hu, hcc⟩ := unhide HX2
          refine .inl ⟨rfl, T', P', (o1.trans o2).trans o, tk.st.own own, fun j hj => ?_, .inr ⟨rfl, _, u, hu, hcc, by rw [← ak1]; exact tk.was, by rw [ask_own own, tk.ak, ak1]⟩⟩
          rw [own (2 + j) (by omega), tk.root (2 + j) (by omega) (by omega)]
          exact rt1 j hj
    · obtain ⟨o1, s1, ak1, fr1, rt1⟩ := unhide HX1
      refine ⟨rfl, .inr ⟨rfl, T1, P1, o1.quiet D, fun j h1 h2 c => ?_⟩⟩
      rw [← fr1]; exact hf j h1 h2 c
end

section
variable {w w' w0 : World} {hb sb b bh bz bi bp ba : Nat} {T : Tay} {A : Ab} {P : List (Int × Int)} {v : Value}

set_option maxRecDepth 20000 in
set_option maxHeartbeats 2000000 in
theorem wrC1 (h : Hp w hb sb b T A P) (s : HpS (says P A)) (xb xo len cap m : Nat) (z : Int) (hm : m < len) (_hlen : len ≤ maxLen) (ch : w.cell? ⟨bh, 0, none⟩ = some (ptr hb)) (cz : w.cell? ⟨bz, 0, none⟩ = some (.slice (some ⟨xb, xo, none⟩) len cap)) (ci : w.cell? ⟨bi, 0, none⟩ = some (.int .i64 m)) (cx : w.cell? ⟨xb, xo + m, none⟩ = some (.int .i64 z))
    (cp : Box w bp v) (np : ¬ tfoot sb b T bp) :
    Calls Tryz.prog 27 #[ptr bh, ptr bz, ptr bi, ptr bp] w fun e w' => (e = .returned (.tuple #[]) ∧ ∃ T' P', OnxX (fun k => k = bp) w sb b T w' T' 3984 A P' false ∧ TookAt (msk z 63 + 1) (says P A) A bp P' w') ∨ (e = .panicked (errnoP 60) ∧ Still w w' ∧ FullAt (msk z 63 + 1) (says P A)) := by
  have l63 := msk_le z 63
  have e63 := mask63 z
  have TK := fun q => h_takeP (h.still ((Fr.refl _ w).drewN q)) s (msk z 63 + 1) (by omega) (by omega)
  obtain ⟨x, hx⟩ : ∃ x, msk z 63 + 1 = x := ⟨_, rfl⟩
  have ex : ((msk z 63 : Nat) : Int) + 1 = x := by omega
  rw [hx] at TK ⊢
  have HTK := @hide _ TK; have HH := hide h; have HCP := hide cp
  have lt := cp.lt
  clear TK h s cp hx
  go_enter Tryz.func27, Tryz.ntmps27
  go_wp2_with fail
  refine region_tailP 7 (by kernel_rfl) (by kernel_rfl) ?_
  simp only [List.take_succ_cons, List.take_zero, List.drop_succ_cons, List.drop_zero]
  repeat (go_big_quiet_step (first | fail))
  refine wpQuiet_nil ?_
  rintro _ ⟨nq, rfl⟩
  have fq : Still w (w.drewN nq) := (Fr.refl _ w).drewN nq
  have HFQ := hide fq
  go_wp2_with fail
  refine (unhide HTK nq).mono ?_
  clear HTK fq
  rintro e w1 (⟨u, g, rfl, t, tk⟩ | ⟨rfl, D, hf⟩)
  · have t' := t.after (unhide HFQ)
    have bx : Box w1 bp v := by obtain ⟨T', P', o, _⟩ := t'; exact (unhide HCP).kept o.fr np
    have c := bx.c; have zz := bx.z
    have HX := hide (And.intro t' (And.intro tk bx))
    clear t t' tk bx
    go_wp2
    go_end0
    obtain ⟨t, tk, bx⟩ := unhide HX
    obtain ⟨T', P', o, e⟩ := t.var (unhide HH) lt np (.int .i64 (160 + u * 8))
    subst e
    exact .inl ⟨rfl, T', P', o, u, bx.set _, tk⟩
  · exact ⟨rfl, .inr ⟨rfl, (unhide HFQ).trans' D (fun _ x => x.elim), hf⟩⟩

set_option maxHeartbeats 1000000 in
theorem wrC2 (h : Hp w hb sb b T A P) (s : HpS (says P A)) (u : Nat) (hu : ask (says P A) u ≠ 0) (ch : w.cell? ⟨bh, 0, none⟩ = some (ptr hb)) (ca : w.cell? ⟨ba, 0, none⟩ = some (.int .i64 (160 + u * 8))) :
    Calls Tryz.prog 28 #[ptr bh, ptr ba] w fun e w' => e = .returned (.tuple #[]) ∧ Still w w' := by
  have K := h_size h.hp h.reads s.wd u (s.inv.asks u hu).1 (begs_of s.inv hu)
  have HK := hide K
  clear K h s hu
  go_enter Tryz.func28, Tryz.ntmps28
  go_wp2_with fail
  refine (unhide HK).mono ?_
  clear HK
  rintro e w1 ⟨rfl, D⟩
  have HD := hide D.still
  clear D
  go_wp2
  go_end0
  exact ⟨rfl, unhide HD⟩
set_option maxHeartbeats 1000000 in
theorem wrC2no (h : Hp w hb sb b T A P) (s : HpS (says P A)) (at_ : Int) (hn : NoPiece (ask (says P A)) at_) (ch : w.cell? ⟨bh, 0, none⟩ = some (ptr hb)) (ca : w.cell? ⟨ba, 0, none⟩ = some (.int .i64 at_)) :
    Calls Tryz.prog 28 #[ptr bh, ptr ba] w fun e w' => e = .panicked (errnoP 1) ∧ Still w w' := by
  have HK := hide (h_size_none h.hp h.reads s.wd at_ hn)
  clear h s hn
  go_enter Tryz.func28, Tryz.ntmps28
  go_wp2_with fail
  refine (unhide HK).mono ?_
  clear HK
  rintro e w1 ⟨rfl, D⟩
  exact ⟨rfl, rfl, D.still⟩

set_option maxHeartbeats 1000000 in
theorem wrC3 (h : Hp w hb sb b T A P) (s : HpS (says P A)) (u : Nat) (hu : ask (says P A) u ≠ 0) (ch : w.cell? ⟨bh, 0, none⟩ = some (ptr hb)) (ca : w.cell? ⟨ba, 0, none⟩ = some (.int .i64 (160 + u * 8))) :
    Calls Tryz.prog 30 #[ptr bh, ptr ba] w fun e w' => e = .panicked (errnoP 3) ∧ ∃ T' P', Onx w sb b T w' T' 3984 A P' false := by
  have HK := hide (h_give h s u hu)
  clear h s hu
  go_enter Tryz.func30, Tryz.ntmps30
  go_wp2_with fail
  refine (unhide HK).mono ?_
  clear HK
  rintro e w1 ⟨rfl, g, ⟨T', P', o, _⟩, _⟩
  have HO := hide o
  clear o
  go_wp2
  exact ⟨rfl, rfl, T', P', unhide HO⟩
set_option maxHeartbeats 1000000 in
theorem wrC3no (h : Hp w hb sb b T A P) (s : HpS (says P A)) (at_ : Int) (hn : NoPiece (ask (says P A)) at_) (ch : w.cell? ⟨bh, 0, none⟩ = some (ptr hb)) (ca : w.cell? ⟨ba, 0, none⟩ = some (.int .i64 at_)) :
    Calls Tryz.prog 30 #[ptr bh, ptr ba] w fun e w' => e = .panicked (errnoP 1) ∧ Still w w' := by
  have HK := hide (h_give_none h s at_ hn)
  clear h s hn
  go_enter Tryz.func30, Tryz.ntmps30
  go_wp2_with fail
  refine (unhide HK).mono ?_
  clear HK
  rintro e w1 ⟨rfl, D⟩
  exact ⟨rfl, rfl, D.still⟩

set_option maxHeartbeats 1000000 in
theorem wrC4 (h : Hp w hb sb b T A P) (s : HpS (says P A)) (x : Nat) (h1 : 1 ≤ x) (h5 : x ≤ 512) (ch : w.cell? ⟨bh, 0, none⟩ = some (ptr hb)) (ca : w.cell? ⟨ba, 0, none⟩ = some (.int .i64 x)) :
    Calls Tryz.prog 31 #[ptr bh, ptr ba] w fun e w' => (e = .panicked (errnoP 3) ∧ ∃ T' P', Onx w sb b T w' T' 3984 A P' false) ∨ (e = .panicked (errnoP 60) ∧ Still w w') := by
  have HK := hide (h_takeP h s x h1 h5)
  clear h s
  go_enter Tryz.func31, Tryz.ntmps31
  go_wp2_with fail
  refine (unhide HK).mono ?_
  clear HK
  rintro e w1 (⟨u, g, rfl, ⟨T', P', o, _⟩, _⟩ | ⟨rfl, D, _⟩)
  · have HO := hide o
    clear o
    go_wp2
    exact ⟨rfl, .inl ⟨rfl, T', P', unhide HO⟩⟩
  · exact ⟨rfl, .inr ⟨rfl, D⟩⟩
set_option maxHeartbeats 1000000 in
theorem wrC4no (x : Int) (hx : x < 1 ∨ 512 < x) (ch : w.cell? ⟨bh, 0, none⟩ = some (ptr hb)) (ca : w.cell? ⟨ba, 0, none⟩ = some (.int .i64 x)) :
    Calls Tryz.prog 31 #[ptr bh, ptr ba] w fun e w' => e = .panicked (errnoP 1) ∧ w' = w := by
  have HK := hide (h_take_no (hb := hb) x hx w)
  clear hx
  go_enter Tryz.func31, Tryz.ntmps31
  go_wp2_with fail
  refine (unhide HK).mono ?_
  clear HK
  rintro e w1 ⟨rfl, rfl⟩
  exact ⟨rfl, rfl, rfl⟩

/-- A Do that leaves the heap as it was. -/
theorem HpC.same {X : Nat → Prop} {N : Nat} {s : Int} {base : Nat → Int} (h : HpC w0 X w hb sb b T A N True s base) {g : Nat} {fi ca : Array Value} {R : How → List (Int × Int) → Prop} (hR : ∀ P, R .well P → P = [])
    (hf : ChangeX (fun _ => False) w sb b T 3984 A (.func (.func g) fi ca) (fun h P _ => R h P)) (hs : s + 30729 < 4294967296) :
    Calls Tryz.prog 10 #[ptr sb, .func (.func g) fi ca] w fun e w' => ((R .well [] ∧ e = .returned (.int .i64 0)) ∨ ∃ i P, R (.errno i) P ∧ e = .returned (.int .i64 i)) ∧ (∃ T' A', HpC w0 X w' hb sb b T' A' N True (s + 30729) base) ∧ Fr (fun k => tfoot sb b T k ∨ False) w w' := by
  refine (h.do_ (V := fun _ => False) (fun k hk => hk.elim) (fun x => x) (fun h P w w' F r _ _ => r) hf hs).mono ?_
  rintro e w' ⟨fr, ⟨P', T', A', r, rfl, hc⟩ | ⟨i, P', T', r, rfl, hc⟩⟩
  · obtain rfl := hR _ r
    rw [homed_nil] at hc
    exact ⟨.inl ⟨r, rfl⟩, ⟨T', A', hc⟩, fr⟩
  · exact ⟨.inr ⟨i, P', r, rfl⟩, ⟨T', A, hc.slow (by omega)⟩, fr⟩

section
variable {X : Nat → Prop} {s : Int} {base : Nat → Int}
/-- Where a piece begins, or none does. -/
def Pc (K : Nat → Nat) (at_ : Int) (t : Bool) : Prop := (t = true ∧ ∃ u : Nat, at_ = 160 + u * 8 ∧ K u ≠ 0) ∨ (t = false ∧ NoPiece K at_)

set_option maxRecDepth 20000 in
theorem wr_do2 {t : Bool} (hc : HpC w0 X w hb sb b T A 2048 True s base) (hps : HpS (rb base)) (at_ : Int) (pc : Pc (ask (rb base)) at_ t) (bh' : Box w bh (ptr hb)) (ba' : Box w ba (.int .i64 at_)) (hs : s + 30729 < 4294967296) :
    Calls Tryz.prog 10 #[ptr sb, .func (.func 28) #[] #[ptr bh, ptr ba]] w fun e w' => ∃ i : Int, i = (if t then 0 else 1) ∧ e = .returned (.int .i64 i) ∧ (∃ T' A', HpC w0 X w' hb sb b T' A' 2048 True (s + 30729) base) ∧ Fr (fun k => tfoot sb b T k ∨ False) w w' := by
  have sy := hc.says []
  rw [homed_nil] at sy
  rcases pc with ⟨rfl, u, rfl, hu⟩ | ⟨rfl, hn⟩
  · refine (hc.same (g := 28) (fi := #[]) (ca := #[ptr bh, ptr ba]) (R := fun h P => h = .well ∧ P = []) (fun P h => h.2) (fun w3 f3 => acts_of (fun _ _ => by kernel_rfl) ((wrC2 (hc.toHp.still f3) (by rw [sy]; exact hps) u (by rw [sy]; exact hu) (f3.cell' bh'.c (fun x => x)) (f3.cell' ba'.c (fun x => x))).mono (by
      rintro e w4 ⟨rfl, f4⟩
      exact ⟨.well, rfl, .inl rfl, T, [], OnxX.of ((Onx.start (hc.hd.st.still f3)).quiet f4), rfl, rfl⟩))) hs).mono ?_
    rintro e w' ⟨⟨_, rfl⟩ | ⟨i, P, ⟨e, _⟩, _⟩, x⟩
    · exact ⟨0, rfl, rfl, x⟩
    · exact (well_errno e.symm).elim
  · refine (hc.same (g := 28) (fi := #[]) (ca := #[ptr bh, ptr ba]) (R := fun h _ => h = .errno 1) (fun P h => (well_errno h).elim) (fun w3 f3 => acts_of (fun _ _ => by kernel_rfl) ((wrC2no (hc.toHp.still f3) (by rw [sy]; exact hps) at_ (by rw [sy]; exact hn) (f3.cell' bh'.c (fun x => x)) (f3.cell' ba'.c (fun x => x))).mono (by
      rintro e w4 ⟨rfl, f4⟩
      exact ⟨.errno 1, How.ended_one _ _, .inr ⟨1, rfl⟩, T, [], OnxX.of ((Onx.start (hc.hd.st.still f3)).quiet f4), rfl⟩))) hs).mono ?_
    rintro e w' ⟨⟨e, _⟩ | ⟨i, P, e, rfl⟩, x⟩
    · exact (well_errno e).elim
    · obtain rfl := errno_inj e
      exact ⟨1, rfl, rfl, x⟩

set_option maxRecDepth 20000 in
theorem wr_do3 {t : Bool} (hc : HpC w0 X w hb sb b T A 2048 True s base) (hps : HpS (rb base)) (at_ : Int) (pc : Pc (ask (rb base)) at_ t) (bh' : Box w bh (ptr hb)) (ba' : Box w ba (.int .i64 at_)) (hs : s + 30729 < 4294967296) :
    Calls Tryz.prog 10 #[ptr sb, .func (.func 30) #[] #[ptr bh, ptr ba]] w fun e w' => ∃ i : Int, i = (if t then 3 else 1) ∧ e = .returned (.int .i64 i) ∧ (∃ T' A', HpC w0 X w' hb sb b T' A' 2048 True (s + 30729) base) ∧ Fr (fun k => tfoot sb b T k ∨ False) w w' := by
  have sy := hc.says []
  rw [homed_nil] at sy
  rcases pc with ⟨rfl, u, rfl, hu⟩ | ⟨rfl, hn⟩
  · refine (hc.same (g := 30) (fi := #[]) (ca := #[ptr bh, ptr ba]) (R := fun h _ => h = .errno 3) (fun P h => (well_errno h).elim) (fun w3 f3 => acts_of (fun _ _ => by kernel_rfl) ((wrC3 (hc.toHp.still f3) (by rw [sy]; exact hps) u (by rw [sy]; exact hu) (f3.cell' bh'.c (fun x => x)) (f3.cell' ba'.c (fun x => x))).mono (by
      rintro e w4 ⟨rfl, T', P', o⟩
      exact ⟨.errno 3, How.ended_one _ _, .inr ⟨3, rfl⟩, T', P', OnxX.of o, rfl⟩))) hs).mono ?_
    rintro e w' ⟨⟨e, _⟩ | ⟨i, P, e, rfl⟩, x⟩
    · exact (well_errno e).elim
    · obtain rfl := errno_inj e
      exact ⟨3, rfl, rfl, x⟩
  · refine (hc.same (g := 30) (fi := #[]) (ca := #[ptr bh, ptr ba]) (R := fun h _ => h = .errno 1) (fun P h => (well_errno h).elim) (fun w3 f3 => acts_of (fun _ _ => by kernel_rfl) ((wrC3no (hc.toHp.still f3) (by rw [sy]; exact hps) at_ (by rw [sy]; exact hn) (f3.cell' bh'.c (fun x => x)) (f3.cell' ba'.c (fun x => x))).mono (by
      rintro e w4 ⟨rfl, f4⟩
      exact ⟨.errno 1, How.ended_one _ _, .inr ⟨1, rfl⟩, T, [], OnxX.of ((Onx.start (hc.hd.st.still f3)).quiet f4), rfl⟩))) hs).mono ?_
    rintro e w' ⟨⟨e, _⟩ | ⟨i, P, e, rfl⟩, x⟩
    · exact (well_errno e).elim
    · obtain rfl := errno_inj e
      exact ⟨1, rfl, rfl, x⟩

set_option maxRecDepth 20000 in
theorem wr_do4 (hc : HpC w0 X w hb sb b T A 2048 True s base) (hps : HpS (rb base)) (ws : Int) (bh' : Box w bh (ptr hb)) (ba' : Box w ba (.int .i64 ws)) (hs : s + 30729 < 4294967296) :
    Calls Tryz.prog 10 #[ptr sb, .func (.func 31) #[] #[ptr bh, ptr ba]] w fun e w' => ∃ i : Int, (i = 1 ↔ ¬ (1 ≤ ws ∧ ws ≤ 512)) ∧ e = .returned (.int .i64 i) ∧ (∃ T' A', HpC w0 X w' hb sb b T' A' 2048 True (s + 30729) base) ∧ Fr (fun k => tfoot sb b T k ∨ False) w w' := by
  have sy := hc.says []
  rw [homed_nil] at sy
  by_cases hg : 1 ≤ ws ∧ ws ≤ 512
  · obtain ⟨x, rfl⟩ : ∃ x : Nat, ws = x := ⟨ws.toNat, by omega⟩
    refine (hc.same (g := 31) (fi := #[]) (ca := #[ptr bh, ptr ba]) (R := fun h _ => h = .errno 3 ∨ h = .errno 60) (fun P h => by rcases h with h | h <;> exact (well_errno h).elim) (fun w3 f3 => acts_of (fun _ _ => by kernel_rfl) ((wrC4 (hc.toHp.still f3) (by rw [sy]; exact hps) x (by omega) (by omega) (f3.cell' bh'.c (fun x => x)) (f3.cell' ba'.c (fun x => x))).mono (by
      rintro e w4 (⟨rfl, T', P', o⟩ | ⟨rfl, f4⟩)
      · exact ⟨.errno 3, How.ended_one _ _, .inr ⟨3, rfl⟩, T', P', OnxX.of o, .inl rfl⟩
      · exact ⟨.errno 60, How.ended_one _ _, .inr ⟨60, rfl⟩, T, [], OnxX.of ((Onx.start (hc.hd.st.still f3)).quiet f4), .inr rfl⟩))) hs).mono ?_
    rintro e w' ⟨⟨e, _⟩ | ⟨i, P, e, rfl⟩, x⟩
    · rcases e with e | e <;> exact (well_errno e).elim
    · refine ⟨i, ?_, rfl, x⟩
      rcases e with e | e
      · obtain rfl := errno_inj e
        exact ⟨fun h => by omega, fun h => absurd hg h⟩
      · obtain rfl := errno_inj e
        exact ⟨fun h => by omega, fun h => absurd hg h⟩
  · refine (hc.same (g := 31) (fi := #[]) (ca := #[ptr bh, ptr ba]) (R := fun h _ => h = .errno 1) (fun P h => (well_errno h).elim) (fun w3 f3 => acts_of (fun _ _ => by kernel_rfl) ((wrC4no ws (by omega) (f3.cell' bh'.c (fun x => x)) (f3.cell' ba'.c (fun x => x))).mono (by
      rintro e w4 ⟨rfl, rfl⟩
      exact ⟨.errno 1, How.ended_one _ _, .inr ⟨1, rfl⟩, T, [], OnxX.of (Onx.start (hc.hd.st.still f3)), rfl⟩))) hs).mono ?_
    rintro e w' ⟨⟨e, _⟩ | ⟨i, P, e, rfl⟩, x⟩
    · exact (well_errno e).elim
    · obtain rfl := errno_inj e
      exact ⟨1, ⟨fun _ => hg, fun _ => rfl⟩, rfl, x⟩
end

/-- What is no piece's place. -/
theorem noPiece_of {K : Nat → Nat} {ls : List (Nat × Nat)} (l : Lists K ls) (at_ : Int) (h : ∀ y ∈ ls, ((160 + y.1 * 8 : Nat) : Int) ≠ at_) : NoPiece K at_ := by
  intro u hu e
  unfold begs
  refine decide_eq_false fun ⟨h0, _⟩ => ?_
  exact h _ (l.all u h0) (by rw [e]; simp)
end
end Go.Proofs.YtgehfmonfofbiaaGreatDoor
