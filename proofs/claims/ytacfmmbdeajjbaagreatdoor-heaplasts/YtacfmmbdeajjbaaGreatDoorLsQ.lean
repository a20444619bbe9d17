/- HeapLasts: Do where the power may go, the fuse, rows of pieces, behind the loss, within a round. -/
import Derived.Test.YtacfmmbdeajjbaaGreatDoorPmB
import Derived.Test.YtacfmmbdeajjbaaGreatDoorPmA
import Derived.Test.YtacfmmbdeajjbaaGreatDoorLw
import Derived.Deep.Slices
import Derived.ChangeSame
import Derived.ChangeArms
import Derived.Deep.RegionLaw
namespace Go.Proofs.YtacfmmbdeajjbaaGreatDoor
open Go.RowKit

section
variable {w w' w0 : World} {X V : Nat → Prop} {hb sb b : Nat} {T : Tay} {A : Ab} {P : List (Int × Int)} {N : Nat} {free : Prop} {s : Int} {base : Nat → Int}

set_option maxHeartbeats 1000000 in
/-- A list of another length than the heap's pieces is not sound. -/
theorem l8_sound_no (h : Hp w hb sb b T A P) (s : HpS (says P A)) (a : Option Addr) (len cap : Nat) (hne : len ≠ cnt (ask (says P A))) :
    Calls Tryz.prog 17 #[ptr hb, .slice a len cap, .int .i64 3824] w fun e w' => e = .returned (.bool false) ∧ Still w w' := by
  have PS := h_pieces h s
  have HPS := hide PS
  clear PS h s
  go_enter Tryz.func17, Tryz.ntmps17
  go_wp2_with fail
  refine (unhide HPS).mono ?_
  clear HPS
  rintro e w1 ⟨v, rfl, own, f1⟩
  obtain ⟨ad, cp, ev⟩ : ∃ ad cp, v = .slice ad (cnt (ask (says P A))) cp := by
    rcases row_form own with ⟨ev, e0⟩ | ⟨gg, cp, ev⟩
    · exact ⟨none, 0, by rw [ev, e0]⟩
    · exact ⟨_, cp, ev⟩
  subst ev
  have HF := hide f1
  clear own f1
  generalize cnt (ask (says P A)) = m at *
  have hm : ¬ (m : Int) = (len : Int) := by omega
  go_wp2
  go_ret
  exact ⟨rfl, unhide HF⟩

/-- How a change ends where the power may go. -/
def DidF (w0 : World) (X V : Nat → Prop) (w : World) (hb sb b : Nat) (T : Tay) (A : Ab) (N : Nat) (free : Prop) (s : Int) (base : Nat → Int) (R : How → List (Int × Int) → World → Prop) (e : Ending) (w' : World) : Prop :=
  Fr (fun k => tfoot sb b T k ∨ V k) w w' ∧ ((∃ P' T' A', R .well P' w' ∧ e = .returned (.int .i64 0) ∧ HpC w0 X w' hb sb b T' A' N free (s + 30729) (homed P' base)) ∨
  (∃ P' T' A', R .well P' w' ∧ e = .returned (.int .i64 50) ∧ Hold w0 X w' sb b 3984 T' A' P' true ∧ Gone N free (s + 30729) base P' A') ∨
  (∃ i P' T', R (.errno i) P' w' ∧ e = .returned (.int .i64 i) ∧ HpC w0 X w' hb sb b T' A N free s base))

theorem HpC.doF {g : Nat} {fi ca : Array Value} {R : How → List (Int × Int) → World → Prop} (h : HpC w0 X w hb sb b T A N free s base) (hV : ∀ k, V k → X k) (hn : ¬ V hb) (hR : Stays V R)
    (hf : ChangeX V w sb b T 3984 A (.func (.func g) fi ca) R) (hs : s + 30729 < 4294967296) :
    Calls Tryz.prog 9 #[ptr sb, .func (.func g) fi ca] w (DidF w0 X V w hb sb b T A N free s base R) := by
  obtain ⟨f, c, k⟩ := h.cl
  refine (t_doX h.hd.st c k (fun k hk => ⟨(h.hd.xl k (hV k hk)).2, h.hd.ap k (hV k hk)⟩) hR hf hs).mono ?_
  have key : ∀ {w' : World} {T' : Tay} {A' : Ab} {P' : List (Int × Int)} {d : Bool}, OnxX V w sb b T w' T' 3984 A' P' d → Hold w0 X w' sb b 3984 T' A' P' d ∧ HpL w' hb sb := by
    intro w' T' A' P' d o
    refine ⟨⟨o.st, h.hd.fr.trans' o.fr (fun k hk => .inr (hk.elim (h.hd.new k) (fun x => (h.hd.xl k (hV k x)).1))), fun k hk => (o.sub k hk).elim (h.hd.new k) (fun x => Nat.le_trans h.hd.fr.size x), fun k hk => o.other (h.hd.xl k hk).2 (h.hd.ap k hk), fun k hk => ⟨(h.hd.xl k hk).1, Nat.lt_of_lt_of_le (h.hd.xl k hk).2 o.fr.size⟩⟩, ?_⟩
    refine h.hp.kept o.fr (fun e => e.elim (h.hd.ap hb h.xh) hn) (fun e => ?_)
    have l0 := h.l0
    rcases e with e | e
    · have := h.hd.new 0 e; omega
    · have := (h.hd.xl 0 (hV 0 e)).1; omega
  rintro e w' (⟨P', r, rfl, T', A', o, f', c', k'⟩ | ⟨P', r, rfl, T', A', o, hg⟩ | ⟨i, P', r, rfl, T', o⟩)
  · exact ⟨o.fr, .inl ⟨P', T', A', r, rfl, (key o).1, ⟨f', c', k'⟩, (key o).2, h.xh, h.l0⟩⟩
  · exact ⟨o.fr, .inr (.inl ⟨P', T', A', r, rfl, (key o).1, hg⟩)⟩
  · exact ⟨o.fr, .inr (.inr ⟨i, P', T', r, rfl, (key o).1, ⟨f, c, k⟩, (key o).2, h.xh, h.l0⟩)⟩
end

/-- What the closure of HeapLasts finds. -/
structure LsW (w : World) (hb sb b : Nat) (T : Tay) (A : Ab) (P : List (Int × Int)) (bt bh bw ba bl bk : Nat) (tk : Bool) (x : Nat) (va : Value) (al : Option Addr) (len cap k : Nat) : Prop where
  h : Hp w hb sb b T A P
  s : HpS (says P A)
  ct : w.cell? ⟨bt, 0, none⟩ = some (.bool tk)
  ch : w.cell? ⟨bh, 0, none⟩ = some (ptr hb)
  cw : w.cell? ⟨bw, 0, none⟩ = some (.int .i64 x)
  cl : w.cell? ⟨bl, 0, none⟩ = some (.slice al len cap)
  ck : w.cell? ⟨bk, 0, none⟩ = some (.int .i64 k)
  ca : Box w ba va
  na : ¬ tfoot sb b T ba
  ne : hb ≠ ba ∧ 0 ≠ ba

section
variable {w w' w0 : World} {X : Nat → Prop} {hb sb b bt bh bw ba bl bk : Nat} {T : Tay} {A : Ab} {P : List (Int × Int)} {tk : Bool} {x k : Nat} {va : Value} {al : Option Addr} {len cap : Nat} {free : Prop} {s : Int} {base : Nat → Int}

set_option maxRecDepth 20000 in
set_option maxHeartbeats 2000000 in
theorem lsC0 (W0 : LsW w hb sb b T A P bt bh bw ba bl bk true x va al len cap k) (hx1 : 1 ≤ x) (hx : x ≤ 512) :
    Calls Tryz.prog 10 #[ptr bt, ptr bh, ptr bw, ptr ba, ptr bl, ptr bk] w fun e w' => (e = .returned (.tuple #[]) ∧ ∃ T' P', OnxX (fun k => k = ba) w sb b T w' T' 3984 A P' false ∧ ∃ u : Nat, Box w' ba (.int .i64 (160 + u * 8)) ∧ Took (says P A) x u (says P' A)) ∨ (e = .panicked (errnoP 60) ∧ Still w w') := by
  have TK := h_takeP W0.h W0.s x hx1 hx
  have HTK := hide TK; have HW0 := hide W0
  have lt := W0.ca.lt
  have ct := W0.ct; have cw := W0.cw; have ch := W0.ch
  clear TK W0
  go_enter Tryz.func10, Tryz.ntmps10
  go_wp2_with fail
  refine (unhide HTK).mono ?_
  clear HTK
  rintro e w1 (⟨u, g, rfl, t, tk⟩ | ⟨rfl, D, _⟩)
  · obtain ⟨T1, P1, o1, eg⟩ := t
    subst eg
    have W0 := unhide HW0
    have bx : Box w1 ba va := W0.ca.kept o1.fr W0.na
    have na1 : ¬ tfoot sb b T1 ba := o1.other lt W0.na
    have oW : OnxX (fun k => k = ba) w sb b T (w1.setCell ⟨ba, 0, none⟩ (.int .i64 (160 + u * 8))) T1 3984 A P1 false := (OnxX.of o1).var (Fr.box w1 ba _) (fun k hk => hk) (fun k hk => by have hk : k = ba := hk; subst hk; exact na1)
    have bxW : Box (w1.setCell ⟨ba, 0, none⟩ (.int .i64 (160 + u * 8))) ba (.int .i64 (160 + u * 8)) := bx.set _
    have c := bx.c; have z := bx.z
    have HX := hide (And.intro tk (And.intro oW bxW))
    clear tk oW bxW bx o1 na1 W0 ct cw ch
    go_wp2
    go_end0
    obtain ⟨tk, oW, bxW⟩ := unhide HX
    exact .inl ⟨rfl, T1, P1, oW, u, bxW, tk⟩
  · exact ⟨rfl, .inr ⟨rfl, D⟩⟩

set_option maxRecDepth 20000 in
set_option maxHeartbeats 2000000 in
theorem lsC1 (ls : List (Nat × Nat)) (y : Nat × Nat) (W0 : LsW w hb sb b T A P bt bh bw ba bl bk false x va al ls.length cap k) (pc : PcsAt w al ls) (hy : ls[k]? = some y) (hu : ask (says P A) y.1 ≠ 0) :
    Calls Tryz.prog 10 #[ptr bt, ptr bh, ptr bw, ptr ba, ptr bl, ptr bk] w fun e w' => e = .returned (.tuple #[]) ∧ ∃ T' P', Onx w sb b T w' T' 3984 A P' false ∧ Gave (says P A) y.1 (says P' A) := by
  have HK := hide (fun q => h_give (W0.h.still ((Fr.refl _ w).drewN q)) W0.s y.1 hu)
  have ct := W0.ct; have ck := W0.ck; have ch := W0.ch; have cl := W0.cl
  obtain ⟨xb, xo, rfl, p1, _⟩ := pc _ _ hy
  have hk : k < ls.length := (List.getElem?_eq_some_iff.1 hy).1
  clear W0 pc hu hy
  generalize ls.length = n at *
  go_enter Tryz.func10, Tryz.ntmps10
  go_wp2_with fail
  refine region_tailP 6 (by kernel_rfl) (by kernel_rfl) ?_
  simp only [List.take, List.drop]
  repeat (go_big_quiet_step (fail))
  refine wpQuiet_nil ?_
  rintro _ ⟨nq, rfl⟩
  have HK1 := hide (unhide HK nq)
  have HFW := hide ((Fr.refl (fun _ => False) w).drewN nq)
  clear HK ct ck ch cl p1
  generalize w.drewN nq = wd at *
  go_wp2_with fail
  refine (unhide HK1).mono ?_
  clear HK1
  rintro e w1 ⟨rfl, g, ⟨T', P', o, eg⟩, gv⟩
  subst eg
  have HX := hide (And.intro o gv)
  clear o gv
  go_wp2
  go_end0
  exact ⟨rfl, T', P', (unhide HX).1.after (unhide HFW), (unhide HX).2⟩

/-- What the change makes of the heap. -/
def LsNext (tk : Bool) (x : Nat) (ls : List (Nat × Nat)) (k : Nat) (g : Nat → Int) (at_ : Int) : Prop :=
  HpS g ∧ ((tk = true ∧ ∃ u : Nat, at_ = 160 + u * 8 ∧ u ≤ 478 ∧ Lists (ask g) (ls ++ [(u, x)])) ∨ (tk = false ∧ at_ = 0 ∧ Lists (ask g) (ls.eraseIdx k)))
/-- How Do ends here. -/
def LsDid (w0 : World) (X : Nat → Prop) (w : World) (hb sb b : Nat) (T : Tay) (ba : Nat) (free : Prop) (s : Int) (base : Nat → Int) (tk : Bool) (x : Nat) (ls : List (Nat × Nat)) (k : Nat) (e : Ending) (w' : World) : Prop :=
  Fr (fun k => tfoot sb b T k ∨ k = ba) w w' ∧ ∃ (at_ : Int) (T' : Tay) (A' : Ab) (P' : List (Int × Int)), Box w' ba (.int .i64 at_) ∧
    ((e = .returned (.int .i64 0) ∧ HpC w0 X w' hb sb b T' A' 2048 free (s + 30729) (homed P' base) ∧ LsNext tk x ls k (rb (homed P' base)) at_) ∨
     (e = .returned (.int .i64 50) ∧ ¬ free ∧ Hold w0 X w' sb b 3984 T' A' P' true ∧ LogTorn 2048 0 12304 base P' (s + 30729) A' ∧ LsNext tk x ls k (rb (homed P'.reverse base)) at_) ∨
     (e = .returned (.int .i64 60) ∧ tk = true ∧ at_ = 0))

theorem ls_by (hc : HpC w0 X w hb sb b T A 2048 free s base) (hX : X ba) (hn : hb ≠ ba) {g : Nat} {fi ca : Array Value} {Q : How → (Nat → Int) → Int → Prop} {ls : List (Nat × Nat)}
    (hf : ChangeX (fun k => k = ba) w sb b T 3984 A (.func (.func g) fi ca) (fun h P w => ∃ a : Int, Box w ba (.int .i64 a) ∧ Q h (says P A) a)) (hs : s + 30729 < 4294967296)
    (hw : ∀ g at_, Q .well g at_ → LsNext tk x ls k g at_) (he : ∀ c g at_, Q (.errno c) g at_ → c = 60 ∧ tk = true ∧ at_ = 0) :
    Calls Tryz.prog 9 #[ptr sb, .func (.func g) fi ca] w (LsDid w0 X w hb sb b T ba free s base tk x ls k) := by
  refine (hc.doF (V := fun k => k = ba) (fun k hk => by rw [hk]; exact hX) (fun e => hn e) (by
    rintro h P w w' F ⟨a, bx, q⟩ hf hn
    exact ⟨a, bx.kept hf (hn _ rfl), q⟩) hf hs).mono ?_
  rintro e w' ⟨fr, ⟨P', T', A', ⟨a, bx, q⟩, rfl, hc'⟩ | ⟨P', T', A', ⟨a, bx, q⟩, rfl, hd, hg⟩ | ⟨c, P', T', ⟨a, bx, q⟩, rfl, hc'⟩⟩
  · rw [hc.says P'] at q
    exact ⟨fr, a, T', A', P', bx, .inl ⟨rfl, hc', hw _ _ q⟩⟩
  · rw [hc.says P'] at q
    exact ⟨fr, a, T', A', P', bx, .inr (.inl ⟨rfl, hg.1, hd, hg.2, by rw [once_reverse hd.st.once]; exact hw _ _ q⟩)⟩
  · obtain ⟨rfl, h2, h3⟩ := he _ _ _ q
    exact ⟨fr, a, T', A, P', bx, .inr (.inr ⟨rfl, h2, h3⟩)⟩

set_option maxRecDepth 20000 in
set_option maxHeartbeats 2000000 in
theorem ls_do (hc : HpC w0 X w hb sb b T A 2048 free s base) (hps : HpS (rb base)) (ls : List (Nat × Nat)) (lst : Lists (ask (rb base)) ls) (pc : PcsAt w al ls) (hX : X ba)
    (W0 : ∀ w3, Still w w3 → LsW w3 hb sb b T A [] bt bh bw ba bl bk tk x (.int .i64 0) al ls.length cap k) (hx1 : 1 ≤ x) (hx : x ≤ 512) (hk : tk = false → k < ls.length) (hs : s + 30729 < 4294967296) :
    Calls Tryz.prog 9 #[ptr sb, .func (.func 10) #[] #[ptr bt, ptr bh, ptr bw, ptr ba, ptr bl, ptr bk]] w (LsDid w0 X w hb sb b T ba free s base tk x ls k) := by
  have sy := hc.says []
  rw [homed_nil] at sy
  have hn : hb ≠ ba := (W0 w (Fr.refl _ w)).ne.1
  have st : ∀ w3, Still w w3 → Onx w3 sb b T w3 T 3984 A [] false := fun w3 f3 => Onx.start (hc.hd.st.still f3)
  cases tk with
  | true =>
    refine ls_by hc hX hn (Q := fun h g a => (h = .well ∧ ∃ u : Nat, a = 160 + u * 8 ∧ Took (rb base) x u g) ∨ (h = .errno 60 ∧ a = 0)) (fun w3 f3 => acts_of (fun _ _ => by kernel_rfl) ((lsC0 (W0 w3 f3) hx1 hx).mono ?_)) hs ?_ ?_
    · rintro e w4 (⟨rfl, T', P', o, u, bx, tk⟩ | ⟨rfl, f4⟩)
      · rw [sy] at tk
        exact ⟨.well, rfl, .inl rfl, T', P', o, _, bx, .inl ⟨rfl, u, rfl, tk⟩⟩
      · exact ⟨.errno 60, How.ended_one _ _, .inr ⟨60, rfl⟩, T, [], OnxX.of ((st w3 f3).quiet f4), 0, (W0 w3 f3).ca.kept f4 (fun x => x), .inr ⟨rfl, rfl⟩⟩
    · rintro g a (⟨_, u, rfl, tk⟩ | h)
      · obtain ⟨cc, hu, hcc⟩ := tk.blk
        have hb4 := block_lt hcc
        rw [← hu] at hb4
        refine ⟨tk.st, .inl ⟨rfl, u, rfl, Nat.le_trans (Nat.le_add_right _ _) hb4, ?_⟩⟩
        rw [tk.ak, hu]
        exact lst.push hcc rfl (by omega) (by rw [← hu]; exact tk.was)
      · exact (well_errno h.1).elim
    · rintro c g a (⟨h, _⟩ | ⟨h, ha⟩)
      · exact (well_errno h.symm).elim
      · exact ⟨errno_inj h, rfl, ha⟩
  | false =>
    have hkl := hk rfl
    obtain ⟨y, hy⟩ : ∃ y, ls[k]? = some y := ⟨_, List.getElem?_eq_getElem hkl⟩
    have ho := lst.only y (List.mem_of_getElem? hy)
    refine ls_by hc hX hn (Q := fun h g a => h = .well ∧ a = 0 ∧ Gave (rb base) y.1 g) (fun w3 f3 => acts_of (fun _ _ => by kernel_rfl) ((lsC1 ls y (W0 w3 f3) (pc.kept f3) hy (by rw [sy, ho.1]; exact ho.2)).mono ?_)) hs ?_ ?_
    · rintro e w4 ⟨rfl, T', P', o, gv⟩
      rw [sy] at gv
      exact ⟨.well, rfl, .inl rfl, T', P', OnxX.of o, 0, (W0 w3 f3).ca.kept o.fr (W0 w3 f3).na, rfl, rfl, gv⟩
    · rintro g a ⟨_, rfl, gv⟩
      exact ⟨gv.st, .inr ⟨rfl, rfl, gv.lists hps lst hy⟩⟩
    · rintro c g a ⟨h, _⟩; exact (well_errno h.symm).elim
end

section
variable {w w' w0 : World} {X : Nat → Prop} {hb sb b N : Nat} {T : Tay} {L : Lay} {A : Ab} {free : Prop} {s : Int} {base h : Nat → Int} {xs : List (Int × Int)}

/-- The fuse is set beneath a heap. -/
theorem HpC.fuse (hc : HpC w0 X w hb sb b T A N free s base) (k : Int) (hk : k < 9223372036854775808) :
    Calls Tryz.prog 8 #[ptr b, .int .i64 k] w fun e w' => e = .returned (.tuple #[]) ∧ (∃ T' A', HpC w0 X w' hb sb b T' A' N False s base) ∧ Fr (tfoot sb b T) w w' := by
  obtain ⟨f, c, kk⟩ := hc.cl
  refine (d_fuse hc.hd.st.dev c k hk).mono ?_
  rintro e w' ⟨rfl, fr, d, c'⟩
  have o := hc.hd.st.ondev ⟨d, fr.mono (fun r hr => .inl (.inl hr)), fun _ => .inl⟩ rfl
  exact ⟨rfl, ⟨_, _, hc.hd.call o, ⟨f, c', kk⟩, hc.hp.kept o.fr (hc.hd.ap hb hc.xh) (fun e => by have := hc.hd.new 0 e; have := hc.l0; omega), hc.xh, hc.l0⟩, o.fr⟩
/-- The fuse of a device is set. -/
theorem x_fuse (D : Dvx w0 X w b L A) (c : Calm N free A s h) (k : Int) (hk : k < 9223372036854775808) :
    Calls Tryz.prog 8 #[ptr b, .int .i64 k] w fun e w' => e = .returned (.tuple #[]) ∧ (∃ A', Dvx w0 X w' b L A' ∧ Calm N False A' s h) ∧ Fr (foot b L) w w' := by
  refine (d_fuse D.d c k hk).mono ?_
  rintro e w' ⟨rfl, fr, d, c'⟩
  have f : Fr (foot b L) w w' := fr.mono (fun r hr => .inl (.inl hr))
  exact ⟨rfl, ⟨_, ⟨d, D.fr.trans' f (fun k hk => .inr (D.new k hk)), D.new, D.ap, fun k hk => ⟨(D.xl k hk).1, Nat.lt_of_lt_of_le (D.xl k hk).2 f.size⟩⟩, c'⟩, f⟩
/-- A store's device, also where the power is gone. -/
theorem Hold.dv {n : Nat} {P : List (Int × Int)} {d : Bool} (hd : Hold w0 X w sb b n T A P d) : Dvx w0 X w b T.L A :=
  ⟨hd.st.dev, hd.fr, fun k hk => hd.new k (.inl hk), fun k hk x => hd.ap k hk (.inl x), hd.xl⟩
theorem LogTorn.more {t : Int} (lt : LogTorn N 0 12304 base xs s A) (hs : s ≤ t) : LogTorn N 0 12304 base xs t A := ⟨lt.1, Int.le_trans lt.2.1 hs, lt.2.2⟩

/-- What the device may hold when the power has gone: the heap with ls, or the heap with nw behind xs. -/
def LsE (base : Nat → Int) (xs : List (Int × Int)) (ls nw : List (Nat × Nat)) : Prop :=
  HpS (rb base) ∧ Lists (ask (rb base)) ls ∧ (xs = [] ∨ (HpS (rb (homed xs.reverse base)) ∧ Lists (ask (rb (homed xs.reverse base))) nw ∧ nw.length ≠ ls.length))
/-- What an opened store then holds. -/
theorem LsE.pick {ls nw : List (Nat × Nat)} (le : LsE base xs ls nw) (ei : Either base xs h) :
    ∃ base', Clean 0 12304 base' h ∧ HpS (rb base') ∧ (Lists (ask (rb base')) ls ∨ (Lists (ask (rb base')) nw ∧ nw.length ≠ ls.length)) := by
  obtain ⟨h1, h2, h3⟩ := le
  rcases ei with e | e
  · exact ⟨base, e, h1, .inl h2⟩
  · rcases h3 with rfl | ⟨h4, h5, h6⟩
    · rw [List.reverse_nil, homed_nil] at e
      exact ⟨base, e, h1, .inl h2⟩
    · exact ⟨_, e, h4, .inr ⟨h5, h6⟩⟩
theorem LsNext.even {tk : Bool} {x k : Nat} {ls : List (Nat × Nat)} {at_ : Int} {P : List (Int × Int)} (st : HpS (rb base)) (li : Lists (ask (rb base)) ls) (hk : tk = false → k < ls.length) (nx : LsNext tk x ls k (rb (homed P.reverse base)) at_) :
    ∃ nw, LsE base P ls nw ∧ ((tk = true ∧ ∃ u : Nat, at_ = 160 + u * 8 ∧ nw = ls ++ [(u, x)]) ∨ (tk = false ∧ at_ = 0 ∧ nw = ls.eraseIdx k)) := by
  obtain ⟨n1, ⟨rfl, u, rfl, _, n2⟩ | ⟨rfl, rfl, n2⟩⟩ := nx
  · exact ⟨_, ⟨st, li, .inr ⟨n1, n2, by simp⟩⟩, .inl ⟨rfl, u, rfl, rfl⟩⟩
  · refine ⟨_, ⟨st, li, .inr ⟨n1, n2, ?_⟩⟩, .inr ⟨rfl, rfl, rfl⟩⟩
    rw [List.length_eraseIdx_of_lt (hk rfl)]
    have := hk rfl
    omega
end

theorem wpList_load_rowG {P : Program} {ops : Array Oper} {rest : List Oper} {o : Oper} {a : Act} {w : World} {Q : Exit → Act → World → Prop} (hw : Region.wanted o (yielded ops a.tmps) = true) (ty : TypeId) (x : Operand) (ho : o.op = .load ty x)
    (g : Nat) (hx : a.eval x = .pointer (some ⟨g, 0, none⟩)) (t : TypeId) (cs : Array Value) (fr : Nat × Nat) (d : TypeDesc) (hg : w.heap[g]? = some (.cells cs t fr))
    (hu : P.underlying ty = some d) (hd : (match d with | .struct _ | .array _ _ => true | _ => false) = true) (hi : (P.info? ty).map (·.size) = some cs.size)
    (h : wpList P ops Q rest (a.put o.dst (.agg cs)) w) : wpList P ops Q (o :: rest) a w := by
  simp only [wpList, hw, if_true]
  exact .inl (wp_load_row ty x ho g hx t cs fr d hg hu hd hi h)

/-- An op: its kind, its word, its value. -/
structure Op7 where
  kd : Int
  i : Int
  v : Int

/-- Ops that came in: the first 'len'. -/
def OpsAt (w : World) (a : Option Addr) (len : Nat) (z : Nat → Op7) : Prop :=
  ∀ k, k < len → ∃ xb xo, a = some ⟨xb, xo, none⟩ ∧ w.cell? ⟨xb, xo + k * 3, none⟩ = some (.int .i64 (z k).kd) ∧ w.cell? ⟨xb, xo + k * 3 + 1, none⟩ = some (.int .i64 (z k).i) ∧ w.cell? ⟨xb, xo + k * 3 + 2, none⟩ = some (u64 (z k).v)

theorem OpsAt.still {w w' : World} {a : Option Addr} {len : Nat} {z : Nat → Op7} (h : OpsAt w a len z) (f : Still w w') : OpsAt w' a len z := fun k hk => by
  obtain ⟨xb, xo, e, h1, h2, h3⟩ := h k hk
  exact ⟨xb, xo, e, f.cell' h1 (fun x => x), f.cell' h2 (fun x => x), f.cell' h3 (fun x => x)⟩

theorem add_none (xb xo k : Nat) : (⟨xb, xo, none⟩ : Addr).add k = ⟨xb, xo + k, none⟩ := by unfold Addr.add; split <;> simp_all

section
variable {H : Type} {enc : TypeId × Value → H} {P : Program} {w : World} {base : Nat} {held : Bool}

/-- One element of three one-cell fields, from what is read. -/
theorem three_cells {e : TypeId} {f0 f1 f2 : Field} {n : Nat} {y : Addr} {k : Nat} {d : DataW H × List MemPlace} {cs : List Value} (he : P.underlying e = some (.struct #[f0, f1, f2]))
    (o0 : f0.offset = 0) (o1 : f1.offset = 1) (o2 : f2.offset = 2) (c0 : P.cellsOf f0.type = 1) (c1 : P.cellsOf f1.type = 1) (c2 : P.cellsOf f2.type = 1)
    (h1 : w.cells? base (y.add (k * 3)) 3 = some cs) (h2 : DataW.trod enc P w base (fun _ => true) held n e cs = some d) :
    ∃ (v0 v1 v2 : Value) (q : Nat) (y0 y1 y2 : DataW H × List MemPlace), w.cell? (y.add (k * 3)) = some v0 ∧ w.cell? (y.add (k * 3 + 1)) = some v1 ∧ w.cell? (y.add (k * 3 + 2)) = some v2 ∧
      DataW.trod enc P w base (fun _ => true) held q f0.type [v0] = some y0 ∧ DataW.trod enc P w base (fun _ => true) held q f1.type [v1] = some y1 ∧ DataW.trod enc P w base (fun _ => true) held q f2.type [v2] = some y2 := by
  obtain ⟨_, hlen, hcell⟩ := World.cells?_some h1
  obtain ⟨xs, q, hq, hxy, _, hxl, hf⟩ := DataW.trod_struct he h2
  match xs, hxl, cs, hlen with
  | [y0, y1, y2], _, [v0, v1, v2], _ =>
    have g0 := hf 0 f0 rfl
    have g1 := hf 1 f1 rfl
    have g2 := hf 2 f2 rfl
    simp [o0, o1, o2, c0, c1, c2] at g0 g1 g2
    have e0 := hcell 0 (by omega)
    have e1 := hcell 1 (by omega)
    have e2 := hcell 2 (by omega)
    rw [Go.Deep.add_add] at e0 e1 e2
    exact ⟨v0, v1, v2, q, y0, y1, y2, by simpa using e0, by simpa using e1, by simpa using e2, g0, g1, g2⟩
end

section
variable {H : Type} {enc : TypeId × Value → H} {w : World} {base : Nat} {held : Bool}

end

/-- Ops that came in, each a word that is one. -/
def Ops8 (w : World) (a : Option Addr) (len : Nat) (z : Nat → Op7) : Prop := OpsAt w a len z ∧ ∀ k, k < len → 0 ≤ (z k).v ∧ (z k).v < 18446744073709551616

section
variable {H : Type} {enc : TypeId × Value → H} {w : World} {base : Nat} {held : Bool}

theorem in_ops8 {fuel : Nat} {a : Option Addr} {len cap : Nat} {x : DataW H × List MemPlace} (h : DataW.trod enc Tryz.prog w base (fun _ => true) held fuel 22 [.slice a len cap] = some x) :
    ∃ z, Ops8 w a len z ∧ len ≤ maxLen := by
  rcases Go.Deep.open_slice Tryz.underlying22 h with ⟨hcs, rfl⟩ | ⟨y, l, c, m, n, D, Pl, hcs, _, hl, hm, hmm, rfl, hx⟩
  · simp at hcs
    obtain ⟨rfl, rfl, rfl⟩ := hcs
    exact ⟨fun _ => ⟨0, 0, 0⟩, ⟨fun k hk => by omega, fun k hk => by omega⟩, Nat.zero_le _⟩
  · simp at hcs
    obtain ⟨rfl, rfl, rfl⟩ := hcs
    have hlm : len ≤ m := by rw [hmm]; split <;> omega
    have ce : Tryz.prog.cellsOf 34 = 3 := by kernel_rfl
    rw [ce] at hx
    have each : ∀ k, k < len → ∃ z : Op7, w.cell? (y.add (k * 3)) = some (.int .i64 z.kd) ∧ w.cell? (y.add (k * 3 + 1)) = some (.int .i64 z.i) ∧ w.cell? (y.add (k * 3 + 2)) = some (u64 z.v) ∧ 0 ≤ z.v ∧ z.v < 18446744073709551616 := by
      intro k hk
      obtain ⟨cs', h1, h2⟩ := hx k (by omega)
      obtain ⟨v0, v1, v2, q, y0, y1, y2, e0, e1, e2, g0, g1, g2⟩ := three_cells Tryz.underlying34 rfl rfl rfl (by kernel_rfl) (by kernel_rfl) (by kernel_rfl) h1 h2
      obtain ⟨n0, hn0, _⟩ := DataW.trod_int Tryz.underlying3 g0
      obtain ⟨n1, hn1, _⟩ := DataW.trod_int Tryz.underlying3 g1
      obtain ⟨n2, hn2, hw⟩ := DataW.trod_int Tryz.underlying32 g2
      simp at hn0 hn1 hn2
      have hb : 0 ≤ n2 ∧ n2 < 18446744073709551616 := by
        have := hw.2
        simp [Lit.wf, IntKind.min, IntKind.max, IntKind.signed, IntKind.bits] at this
        omega
      exact ⟨⟨n0, n1, n2⟩, by rw [e0, hn0], by rw [e1, hn1], by rw [e2, hn2], hb⟩
    have hz : ∃ z : Nat → Op7, ∀ k, k < len → w.cell? (y.add (k * 3)) = some (.int .i64 (z k).kd) ∧ w.cell? (y.add (k * 3 + 1)) = some (.int .i64 (z k).i) ∧ w.cell? (y.add (k * 3 + 2)) = some (u64 (z k).v) ∧ 0 ≤ (z k).v ∧ (z k).v < 18446744073709551616 := by
      classical
      refine ⟨fun k => if hk : k < len then Classical.choose (each k hk) else ⟨0, 0, 0⟩, fun k hk => ?_⟩
      simp only [dif_pos hk]
      exact Classical.choose_spec (each k hk)
    obtain ⟨z, hz⟩ := hz
    refine ⟨z, ⟨fun k hk => ?_, fun k hk => (hz k hk).2.2.2⟩, Nat.le_trans hl hm⟩
    obtain ⟨xb, xo, sp⟩ := y
    cases sp with
    | none =>
      have e := hz k hk
      rw [add_none, add_none, add_none] at e
      exact ⟨xb, xo, rfl, e.1, by rw [Nat.add_assoc]; exact e.2.1, by rw [Nat.add_assoc]; exact e.2.2.1⟩
    | some q =>
      exfalso
      have c0 := (hz 0 (by omega)).1
      have hadd : (⟨xb, xo, some q⟩ : Addr).add (0 * 3) = ⟨xb, xo, some q⟩ := by unfold Addr.add; split <;> simp_all
      rw [hadd] at c0
      simp only [World.cell?] at c0
      split at c0
      · simp at c0
      · simp at c0
end

theorem arr_zero : arr 16 (fun _ => 0) = #[u64 0, u64 0, u64 0, u64 0, u64 0, u64 0, u64 0, u64 0, u64 0, u64 0, u64 0, u64 0, u64 0, u64 0, u64 0, u64 0] := by kernel_rfl
theorem pcells_get : ∀ {ls : List (Nat × Nat)} {j : Nat} {u : Value}, (pcells ls)[j]? = some u → ∃ k y, ls[k]? = some y ∧ ((j = k * 2 ∧ u = .int .i64 (160 + (y.1 : Int) * 8)) ∨ (j = k * 2 + 1 ∧ u = .int .i64 (y.2 : Nat))) := by
  intro ls
  induction ls with
  | nil => intro j u h; simp [pcells] at h
  | cons z ls ih =>
    intro j u h
    match j, h with
    | 0, h => simp [pcells] at h; exact ⟨0, z, rfl, .inl ⟨rfl, h.symm⟩⟩
    | 1, h => simp [pcells] at h; exact ⟨0, z, rfl, .inr ⟨rfl, h.symm⟩⟩
    | j + 2, h =>
      simp [pcells] at h
      obtain ⟨k, y, hy, e⟩ := ih h
      refine ⟨k + 1, y, by simpa using hy, ?_⟩
      rcases e with ⟨rfl, e⟩ | ⟨rfl, e⟩
      · exact .inl ⟨by omega, e⟩
      · exact .inr ⟨by omega, e⟩
theorem pcells_one {ls : List (Nat × Nat)} : ∀ u ∈ pcells ls, u.oneCell' = true := by
  induction ls with
  | nil => intro u h; simp [pcells] at h
  | cons z ls ih =>
    intro u h
    simp [pcells] at h
    rcases h with rfl | rfl | h
    · rfl
    · rfl
    · exact ih u h
theorem pcs_cells {w : World} {ad : Addr} {ls : List (Nat × Nat)} (h : PcsAt w (some ad) ls) : ∀ j u, (pcells ls)[j]? = some u → w.cell? (ad.add j) = some u := by
  intro j u hu
  obtain ⟨k, y, hy, e⟩ := pcells_get hu
  obtain ⟨xb, xo, e1, c1, c2⟩ := h k y hy
  cases e1
  rcases e with ⟨rfl, rfl⟩ | ⟨rfl, rfl⟩
  · rw [add_none]; exact c1
  · rw [add_none, ← Nat.add_assoc]; exact c2
theorem info_parts8 : ∃ i, Tryz.prog.info? 39 = some i ∧ i.zero = some (.agg #[.int .i64 0, .int .i64 0]) ∧ i.size = 2 ∧ i.bytes = 16 := by
  have hi := info_piece
  cases h : Tryz.prog.info? 39 with
  | none => rw [h] at hi; simp at hi
  | some i => rw [h] at hi; simp only [Option.map_some, Option.some.injEq, Prod.mk.injEq] at hi; exact ⟨i, rfl, hi⟩

/-- What an append of pieces leaves. -/
structure MoreP (w : World) (lo : Nat) (v v' : Value) (l : List (Nat × Nat)) (w' : World) : Prop where
  own : w'.ownsRow lo 39 2 v' l.length (pcells l)
  gr : w.grownBy w' v.ownBlock
  loc : v'.ownBlock = v.ownBlock ∨ v'.ownBlock = some w.heap.size

/-- The run of an append of pieces to a row of one's own. -/
theorem run_pcs (w : World) (lo : Nat) (ty : TypeId) (v : Value) (l ls : List (Nat × Nat)) (hown : w.ownsRow lo 39 2 v l.length (pcells l)) (xa : Option Addr) (xc : Nat) (hx : xa = none → ls = [] ∧ xc = 0) (hp : PcsAt w xa ls) (hl : l.length + ls.length ≤ 100000) (hlo : lo ≤ w.heap.size) :
    ∃ v' w', (Builtin.append_ #[31, 31] ty #[v, .slice xa ls.length xc]).run Tryz.prog w = .ok v' w' ∧ MoreP w lo v v' (l ++ ls) w' := by
  obtain ⟨i, hi, hz, hsize, hby⟩ := info_parts8
  cases xa with
  | none =>
    obtain ⟨rfl, rfl⟩ := hx rfl
    refine ⟨v, w, run_append_owned_none (P := Tryz.prog) (w := w) lo 31 ty 39 i 2 Tryz.underlying31 hi v _ _ hown, by simpa using hown, ⟨rfl, rfl, rfl, Nat.le_refl _, fun _ _ _ => rfl⟩, .inl rfl⟩
  | some ad =>
    obtain ⟨v', w', hr, h2, h3, _, h5⟩ := run_append_own_at (P := Tryz.prog) w lo 31 ty 39 i (.agg #[.int .i64 0, .int .i64 0]) 2 16 Tryz.underlying31 hi hz hsize hby rfl (by decide) v l.length (pcells l) hown ad ls.length xc (pcells ls) (by rw [pcells_len]; omega) (pcs_cells hp) pcells_one (by unfold maxLen; omega) (by omega) hlo
    exact ⟨v', w', hr, by rw [List.length_append, pcells_app]; exact h2, h3, h5⟩
/-- An append whose run is known. -/
theorem wpList_append_run {P : Program} {w : World} {ops : Array Oper} {rest : List Oper} {o : Oper} {a : Act} {Q : Exit → Act → World → Prop} (hgd : o.guard = none) (s x : Operand) (t : TypeId)
    (ho : o.op = .call { callee := .builtin .append, args := #[s, x], argTypes := #[t, t] }) (vs vx : Value) (hs : a.eval s = vs) (hx : a.eval x = vx) (v' : Value) (w' : World) (hr : (Builtin.append_ #[t, t] o.type #[vs, vx]).run P w = .ok v' w')
    (h : wpList P ops Q rest (a.put o.dst v') w') : wpList P ops Q (o :: rest) a w := by
  refine wpList_plain hgd fun K hK => ?_
  unfold Oper.wp execOp
  simp only [ho, resolve, invoke, builtin, Sem.run_bind, Sem.run_pure, Result.andThen_ok, List.map_toArray, List.map_cons, List.map_nil, hs, hx, hr]
  exact hK _ _ h
/-- A whole array read, in whatever order. -/
theorem wpQuiet_load_row {P : Program} {ops : Array Oper} {C : World → Prop} {Q : Act → Prop} {rest : List Oper} {o : Oper} {a : Act} (hgd : o.guard = none) (ty : TypeId) (x : Operand) (ho : o.op = .load ty x)
    (g : Nat) (hx : a.eval x = .pointer (some ⟨g, 0, none⟩)) (t : TypeId) (cs : Array Value) (fr : Nat × Nat) (d : TypeDesc) (hg : ∀ w, C w → w.heap[g]? = some (.cells cs t fr))
    (hu : P.underlying ty = some d) (hd : (match d with | .struct _ | .array _ _ => true | _ => false) = true) (hi : (P.info? ty).map (·.size) = some cs.size)
    (h : wpQuiet P ops C Q rest (a.put o.dst (.agg cs))) : wpQuiet P ops C Q (o :: rest) a := by
  have hw : Region.wanted o (yielded ops a.tmps) = true := by simp [Region.wanted, hgd]
  unfold wpQuiet
  rw [if_pos hw]
  refine ⟨.agg cs, fun w hC => ?_, h⟩
  unfold Oper.quietAt execOp
  simp only [ho, hx, Instr.loadAt, Instr.sureAddr, Sem.run_bind, Sem.run_pure, Result.andThen_ok, run_loadVar_row w g t ty cs fr d (hg w hC) hu hd hi]
  exact ⟨rfl, rfl⟩
theorem step_load_row {P : Program} {ops : Array Oper} {o : Oper} {a : Act} {w : World} {K : Act → World → Prop} {Q : Exit → Act → World → Prop} {E : Prop} (hgd : o.guard = none) (ty : TypeId) (x : Operand) (ho : o.op = .load ty x)
    (g : Nat) (hx : a.eval x = .pointer (some ⟨g, 0, none⟩)) (t : TypeId) (cs : Array Value) (fr : Nat × Nat) (d : TypeDesc) (hg : w.heap[g]? = some (.cells cs t fr))
    (hu : P.underlying ty = some d) (hd : (match d with | .struct _ | .array _ _ => true | _ => false) = true) (hi : (P.info? ty).map (·.size) = some cs.size)
    (h : K (a.put o.dst (.agg cs)) w) : if Region.wanted o (yielded ops a.tmps) = true then Oper.wp P o a w K Q else E := by
  rw [if_pos (by simp [Region.wanted, hgd])]
  exact wp_load_row ty x ho g hx t cs fr d hg hu hd hi h
theorem step_store_row {P : Program} {ops : Array Oper} {o : Oper} {a : Act} {w : World} {K : Act → World → Prop} {Q : Exit → Act → World → Prop} {E : Prop} (hgd : o.guard = none) (ty : TypeId) (x y : Operand) (ho : o.op = .store ty x y)
    (g : Nat) (cells : Array Value) (hx : a.eval x = .pointer (some ⟨g, 0, none⟩)) (hy : a.eval y = .agg cells) (t : TypeId) (old : Array Value) (hg : w.heap[g]? = some (.cells old t (0, 0))) (hi : (P.info? ty).map (·.size) = some cells.size)
    (hold : old.size = cells.size) (h1 : cells.all (·.oneCell') = true) (h : K (a.put o.dst undef) (w.setRow g cells)) : if Region.wanted o (yielded ops a.tmps) = true then Oper.wp P o a w K Q else E := by
  rw [if_pos (by simp [Region.wanted, hgd])]
  exact wp_store_row ty x y ho g cells hx hy t old hg hi hold h1 h
theorem step_append_run {P : Program} {ops : Array Oper} {o : Oper} {a : Act} {w : World} {K : Act → World → Prop} {Q : Exit → Act → World → Prop} {E : Prop} (hgd : o.guard = none) (s x : Operand) (t : TypeId)
    (ho : o.op = .call { callee := .builtin .append, args := #[s, x], argTypes := #[t, t] }) (vs vx : Value) (hs : a.eval s = vs) (hx : a.eval x = vx) (v' : Value) (w' : World) (hr : (Builtin.append_ #[t, t] o.type #[vs, vx]).run P w = .ok v' w')
    (h : K (a.put o.dst v') w') : if Region.wanted o (yielded ops a.tmps) = true then Oper.wp P o a w K Q else E := by
  rw [if_pos (by simp [Region.wanted, hgd])]
  unfold Oper.wp execOp
  simp only [ho, resolve, invoke, builtin, Sem.run_bind, Sem.run_pure, Result.andThen_ok, List.map_toArray, List.map_cons, List.map_nil, hs, hx, hr]
  exact h
/-- Where a row of pieces begins whose first l are left out. -/
def cutP (a : Option Addr) (cap l : Nat) : Option Addr := if cap = l then a else a.map (·.add (l * 2))
theorem size_piece (w : World) : (sizeOf 39).run Tryz.prog w = .ok 2 w := by
  obtain ⟨i, hi, _, hsize, _⟩ := info_parts8
  simp [sizeOf, typeInfo, hi, hsize]
theorem slice_fromP (a : Option Addr) (len cap l : Nat) (w : World) (hl : l ≤ len) : (Instr.slice 31 (.slice a len cap) (some (.int .i64 (l : Nat))) none none).run Tryz.prog w = .ok (.slice (cutP a cap l) (len - l) (cap - l)) w := by
  have he : Tryz.prog.elem 31 = 39 := by kernel_rfl
  rw [run_slice_l (P := Tryz.prog) w 31 a len cap (by rw [he]; exact Tryz.underlying31) .i64 (l : Nat) (by omega) (by omega), he, size_piece]
  simp [Result.andThen, sliced, cutP]
theorem slice_toP (a : Option Addr) (len cap l : Nat) (w : World) (hl : l ≤ cap) : (Instr.slice 31 (.slice a len cap) none (some (.int .i64 (l : Nat))) none).run Tryz.prog w = .ok (.slice a l cap) w := by
  have he : Tryz.prog.elem 31 = 39 := by kernel_rfl
  have ha : a.map (fun x : Addr => x.add 0) = a := by
    cases a with
    | none => rfl
    | some x => obtain ⟨b, o, s⟩ := x; simp [Addr.add]
  rw [run_slice_h (P := Tryz.prog) w 31 a len cap (by rw [he]; exact Tryz.underlying31) .i64 (l : Nat) (by omega) (by omega), he, size_piece]
  simp [Result.andThen, sliced, ha]
theorem PcsAt.take {w : World} {a : Option Addr} {ls : List (Nat × Nat)} (h : PcsAt w a ls) (k : Nat) : PcsAt w a (ls.take k) := fun j y hy => by
  rw [List.getElem?_take] at hy
  split at hy
  · exact h j y hy
  · cases hy
theorem PcsAt.drop {w : World} {a : Option Addr} {ls : List (Nat × Nat)} (h : PcsAt w a ls) (cap k : Nat) (hc : ls.length ≤ cap) : PcsAt w (cutP a cap k) (ls.drop k) := fun j y hy => by
  rw [List.getElem?_drop] at hy
  obtain ⟨xb, xo, rfl, c1, c2⟩ := h (k + j) y hy
  have hlt := (List.getElem?_eq_some_iff.1 hy).1
  unfold cutP
  rw [if_neg (by omega)]
  refine ⟨xb, xo + k * 2, by simp only [Option.map_some, add_none], ?_, ?_⟩
  · rw [show xo + k * 2 + j * 2 = xo + (k + j) * 2 by omega]; exact c1
  · rw [show xo + k * 2 + j * 2 + 1 = xo + (k + j) * 2 + 1 by omega]; exact c2

/-- All but the k-th piece, in a new row: two appends. -/
theorem run_but (w : World) (lo n : Nat) (ls : List (Nat × Nat)) (ad : Option Addr) (cp k : Nat) (hnil : ad = none → ls = [] ∧ cp = 0) (hp : PcsAt w ad ls) (hk : k < ls.length) (hcp : ls.length ≤ cp) (hl : ls.length ≤ 1000) (hlo : lo ≤ w.heap.size) (hn : w.heap.size = n) :
    ∃ v6 w6 v7 w7, (Builtin.append_ #[31, 31] 31 #[.slice (some ⟨n, 0, none⟩) 0 0, .slice ad k cp]).run Tryz.prog (w.alloc (.cells #[] 39)) = .ok v6 w6 ∧
      (Builtin.append_ #[31, 31] 31 #[v6, .slice (cutP ad cp (k + 1)) (ls.length - (k + 1)) (cp - (k + 1))]).run Tryz.prog w6 = .ok v7 w7 ∧ Still w w6 ∧ Still w w7 ∧
      w7.ownsRow lo 39 2 v7 (ls.eraseIdx k).length (pcells (ls.eraseIdx k)) ∧ ∀ j, v7.ownBlock = some j → w.heap.size ≤ j := by
  subst hn
  have fA : Still w (w.alloc (.cells #[] 39)) := (Fr.refl _ w).alloc _
  have zA : (w.alloc (.cells #[] 39)).heap.size = w.heap.size + 1 := by simp
  have own0 : (w.alloc (.cells #[] 39)).ownsRow lo 39 2 (.slice (some ⟨w.heap.size, 0, none⟩) 0 0) ([] : List (Nat × Nat)).length (pcells []) :=
    ⟨rfl, .inr ⟨w.heap.size, 0, #[], rfl, hlo, heap_alloc_new w _, Nat.le_refl _, by unfold maxLen; omega, rfl, rfl⟩⟩
  have tk : (ls.take k).length = k := by rw [List.length_take]; omega
  have hne : ad ≠ none := fun e => by have := (hnil e).1; subst this; simp at hk
  obtain ⟨v6, w6, h6, M6⟩ := run_pcs (w.alloc (.cells #[] 39)) lo 31 _ [] (ls.take k) own0 ad cp (fun e => absurd e hne) ((hp.kept fA).take k) (by simp; omega) (by omega)
  rw [tk] at h6
  have f6 : Still w w6 := by
    have : Fr (fun j => (Value.slice (some ⟨w.heap.size, 0, none⟩) 0 0).ownBlock = some j) (w.alloc (.cells #[] 39)) w6 := (Fr.refl _ _).grown M6.gr (fun r e => .inl e)
    exact fA.trans' this (fun j hj => .inr (by simp [Value.ownBlock] at hj; omega))
  have l6 : ∀ j, v6.ownBlock = some j → w.heap.size ≤ j := fun j hj => by
    rcases M6.loc with e | e
    · rw [hj] at e; simp [Value.ownBlock] at e; omega
    · rw [hj] at e; have := Option.some.inj e; omega
  have dl : (ls.drop (k + 1)).length = ls.length - (k + 1) := by simp
  obtain ⟨v7, w7, h7, M7⟩ := run_pcs w6 lo 31 v6 (ls.take k) (ls.drop (k + 1)) (by simpa using M6.own) (cutP ad cp (k + 1)) (cp - (k + 1)) (fun e => by
    unfold cutP at e
    split at e
    · exact absurd e hne
    · cases ad with
      | none => exact absurd rfl hne
      | some x => simp at e) ((hp.kept f6).drop cp (k + 1) hcp) (by simp; omega) (by have := f6.size; omega)
  rw [dl] at h7
  have f7 : Still w w7 := by
    have : Fr (fun j => v6.ownBlock = some j) w6 w7 := (Fr.refl _ _).grown M7.gr (fun r e => .inl e)
    exact f6.trans' this (fun j hj => .inr (l6 j hj))
  refine ⟨v6, w6, v7, w7, by simpa using h6, h7, f6, f7, ?_, fun j hj => ?_⟩
  · rw [List.eraseIdx_eq_take_drop_succ]; exact M7.own
  · rcases M7.loc with e | e
    · exact l6 j (by rw [← e]; exact hj)
    · rw [hj] at e; have := Option.some.inj e; have := f6.size; omega

theorem row_formP {w : World} {lo n : Nat} {v : Value} {xs : List Value} (h : w.ownsRow lo 39 2 v n xs) : (v = .slice none 0 0 ∧ n = 0) ∨ ∃ g cap, v = .slice (some ⟨g, 0, none⟩) n cap := by
  rcases h.2 with ⟨e1, e2⟩ | ⟨g, cap, cur, e, _⟩
  · exact .inl ⟨e1, e2⟩
  · exact .inr ⟨g, cap, e⟩
theorem pcs_of_row {w : World} {lo cp : Nat} {ad : Option Addr} {st : List (Nat × Nat)} (rsA : w.ownsRow lo 39 2 (.slice ad st.length cp) st.length (pcells st)) : PcsAt w ad st := fun k y hy => by
  have hk : k < st.length := (List.getElem?_eq_some_iff.1 hy).1
  rcases row_formP rsA with ⟨_, e0⟩ | ⟨gg, cp', ev⟩
  · omega
  · injection ev with ev1 ev2 ev3
    subst ev1
    obtain ⟨p1, p2⟩ := pcells_at hy
    refine ⟨gg, 0, rfl, ?_, ?_⟩
    · rw [Nat.zero_add, rsA.cellAt (k * 2) (by omega)]; exact p1
    · rw [Nat.zero_add, rsA.cellAt (k * 2 + 1) (by omega)]; exact p2
theorem own_nilS {k : Nat} : ¬ (Value.slice none 0 0).ownBlock = some k := by simp [Value.ownBlock]
theorem Nums.still {w w' : World} {a : Option Addr} {len : Nat} {zs : Nat → Int} (h : Nums w a len zs) (f : Still w w') : Nums w' a len zs := fun k hk => by
  obtain ⟨xb, xo, e, c⟩ := h k hk
  exact ⟨xb, xo, e, f.cell' c (fun x => x)⟩

/-- A heap's words tell the one list or the other. -/
def LsO (base : Nat → Int) (ls nw : List (Nat × Nat)) : Prop := HpS (rb base) ∧ (Lists (ask (rb base)) ls ∨ (Lists (ask (rb base)) nw ∧ nw.length ≠ ls.length))
def LsF (base : Nat → Int) (xs : List (Int × Int)) (ls nw : List (Nat × Nat)) : Prop := LsO base ls nw ∧ (xs = [] ∨ LsO (homed xs.reverse base) ls nw)
/-- The law's own blocks behind the changes. -/
def LsX (n2 : Nat) (vl vn : Value) : Nat → Prop := fun k => k = n2 ∨ vl.ownBlock = some k ∨ vn.ownBlock = some k
/-- What stands of the lists. -/
structure LsR (w0 w : World) (n2 : Nat) (vl vn : Value) (ls nw : List (Nat × Nat)) : Prop where
  cl : Box w n2 vl
  rl : w.ownsRow w0.heap.size 39 2 vl ls.length (pcells ls)
  rn : nw = ls ∨ w.ownsRow w0.heap.size 39 2 vn nw.length (pcells nw)
/-- The power may be gone. -/
def LsM (w0 w : World) (b n2 : Nat) (vl vn : Value) (ls nw : List (Nat × Nat)) (t : Int) : Prop :=
  ∃ L A base xs s, Dvx w0 (LsX n2 vl vn) w b L A ∧ LogTorn 2048 0 12304 base xs s A ∧ s ≤ t ∧ xs.length ≤ 6144 ∧ LsF base xs ls nw ∧ LsR w0 w n2 vl vn ls nw
/-- The power has come back. -/
def LsP (w0 w : World) (b n2 : Nat) (vl vn : Value) (ls nw : List (Nat × Nat)) (t : Int) (free : Prop) : Prop :=
  ∃ L A base xs s h, Dvx w0 (LsX n2 vl vn) w b L A ∧ Calm 2048 free A s h ∧ Stand 2048 base xs h ∧ s ≤ t ∧ xs.length ≤ 6144 ∧ LsF base xs ls nw ∧ LsR w0 w n2 vl vn ls nw
/-- The store is opened. -/
def LsS (w0 w : World) (sb b n2 : Nat) (vl vn : Value) (ls nw : List (Nat × Nat)) (t : Int) (free : Prop) : Prop :=
  ∃ T A base s h, Hold w0 (LsX n2 vl vn) w sb b 3984 T A [] false ∧ Calm 2048 free A s h ∧ Clean 0 12304 base h ∧ s ≤ t ∧ LsO base ls nw ∧ LsR w0 w n2 vl vn ls nw
/-- The heap is opened. -/
def LsG (w0 w : World) (hb sb b n2 : Nat) (vl vn : Value) (ls nw : List (Nat × Nat)) (t : Int) (free : Prop) : Prop :=
  ∃ T A base s, HpC w0 (fun k => LsX n2 vl vn k ∨ k = hb) w hb sb b T A 2048 free s base ∧ s ≤ t ∧ LsO base ls nw ∧ LsR w0 w n2 vl vn ls nw

section
variable {w0 w w' : World} {b sb hb n2 : Nat} {vl vn : Value} {ls nw : List (Nat × Nat)} {t : Int} {free : Prop} {base h : Nat → Int} {xs : List (Int × Int)}

theorem LsE.f (le : LsE base xs ls nw) : LsF base xs ls nw := by
  obtain ⟨h1, h2, h3⟩ := le
  exact ⟨⟨h1, .inl h2⟩, h3.imp id (fun x => ⟨x.1, .inr x.2⟩)⟩
theorem LsF.pick (le : LsF base xs ls nw) (ei : Either base xs h) : ∃ base', Clean 0 12304 base' h ∧ LsO base' ls nw := by
  obtain ⟨h1, h3⟩ := le
  rcases ei with e | e
  · exact ⟨base, e, h1⟩
  · rcases h3 with rfl | h4
    · rw [List.reverse_nil, homed_nil] at e
      exact ⟨base, e, h1⟩
    · exact ⟨_, e, h4⟩
theorem LsR.kept (r : LsR w0 w n2 vl vn ls nw) {F : Nat → Prop} (f : Fr F w w') (hF : ∀ k, LsX n2 vl vn k → ¬ F k) : LsR w0 w' n2 vl vn ls nw :=
  ⟨r.cl.kept f (hF _ (.inl rfl)), row_kept r.rl f (fun k hk => hF k (.inr (.inl hk))), r.rn.imp id (fun o => row_kept o f (fun k hk => hF k (.inr (.inr hk))))⟩
theorem Dvx.sub {X Y : Nat → Prop} {L : Lay} {A : Ab} (D : Dvx w0 X w b L A) (hY : ∀ k, Y k → X k) : Dvx w0 Y w b L A := ⟨D.d, D.fr, D.new, fun k hk => D.ap k (hY k hk), fun k hk => D.xl k (hY k hk)⟩

theorem ls_power (M : LsM w0 w b n2 vl vn ls nw t) (ht : t < 4294967296) (flip : Bool) (la : Option Addr) (len cap : Nat) (zs : Nat → Int) (hlen : len ≤ maxLen) (hl : Nums w0 la len zs) :
    Calls Tryz.prog 14 #[ptr b, .bool flip, .slice la len cap] w fun e w' => e = .returned (.tuple #[]) ∧ ∀ free, LsP w0 w' b n2 vl vn ls nw t free := by
  obtain ⟨L, A, base, xs, s, D, lt, hs, hx, le, r⟩ := M
  refine (x_power D lt (by omega) flip la len cap zs hlen (hl.still D.fr)).mono ?_
  rintro e w' ⟨rfl, ⟨L', A', h, D', c, st⟩, fr⟩
  exact ⟨rfl, fun free => ⟨L', A', base, xs, s, h, D', c free, st, hs, hx, le, r.kept fr D.ap⟩⟩
theorem ls_fuse (M : LsP w0 w b n2 vl vn ls nw t free) (k : Int) (hk : k < 9223372036854775808) :
    Calls Tryz.prog 8 #[ptr b, .int .i64 k] w fun e w' => e = .returned (.tuple #[]) ∧ LsP w0 w' b n2 vl vn ls nw t False := by
  obtain ⟨L, A, base, xs, s, h, D, c, st, hs, hx, le, r⟩ := M
  refine (x_fuse D c k hk).mono ?_
  rintro e w' ⟨rfl, ⟨A', D', c'⟩, fr⟩
  exact ⟨rfl, L, A', base, xs, s, h, D', c', st, hs, hx, le, r.kept fr D.ap⟩
theorem ls_open (M : LsP w0 w b n2 vl vn ls nw t free) (ht : t + 12292 < 4294967296) :
    Calls Tryz.prog 15 #[ptr b] w fun e w' => (∃ sb, e = .returned (.tuple #[ptr sb, .int .i64 0]) ∧ LsS w0 w' sb b n2 vl vn ls nw (t + 12292) free) ∨
      (e = .returned (.tuple #[.pointer none, .int .i64 50]) ∧ ¬ free ∧ LsM w0 w' b n2 vl vn ls nw (t + 12292)) := by
  obtain ⟨L, A, base, xs, s, h, D, c, st, hs, hx, le, r⟩ := M
  refine (x_open D c st hx (by omega) (by omega)).mono ?_
  rintro e w' ⟨⟨sb, T, A', h', rfl, hd, c', ei⟩ | ⟨rfl, hn, L', A', D', lt⟩, fr⟩
  · obtain ⟨base', k', lo⟩ := le.pick ei
    exact .inl ⟨sb, rfl, T, A', base', s + 12292, h', hd, c', k', by omega, lo, r.kept fr D.ap⟩
  · exact .inr ⟨rfl, hn, L', A', base, xs, s + 12292, D', lt, by omega, hx, le, r.kept fr D.ap⟩
theorem ls_heap (M : LsS w0 w sb b n2 vl vn ls nw t free) (tab : TabL w0) (ht : t + 30729 < 4294967296) :
    Calls Tryz.prog 16 #[ptr sb] w fun e w' => (∃ hb, e = .returned (.tuple #[ptr hb, .int .i64 0]) ∧ LsG w0 w' hb sb b n2 vl vn ls nw (t + 30729) free) ∨
      (e = .returned (.tuple #[.pointer none, .int .i64 50]) ∧ ¬ free ∧ LsM w0 w' b n2 vl vn ls nw (t + 30729)) := by
  obtain ⟨T, A, base, s, h, hd, c, k, hs, lo, r⟩ := M
  refine (x_heap hd c k tab lo.1 (by omega)).mono ?_
  rintro e w' ⟨⟨hb, T', A', rfl, hc⟩ | ⟨rfl, hn, T', A', hd', lt⟩, fr⟩
  · exact .inl ⟨hb, rfl, T', A', base, s + 30729, hc, by omega, lo, r.kept fr hd.ap⟩
  · exact .inr ⟨rfl, hn, T'.L, A', base, [], s + 30729, hd'.dv, lt, by omega, by simp, ⟨lo, .inl rfl⟩, r.kept fr hd.ap⟩
theorem LsP.le {t' : Int} (M : LsP w0 w b n2 vl vn ls nw t free) (e : t ≤ t') : LsP w0 w b n2 vl vn ls nw t' free := by
  obtain ⟨L, A, base, xs, s, h, D, c, st, hs, hx, le, r⟩ := M
  exact ⟨L, A, base, xs, s, h, D, c, st, by omega, hx, le, r⟩
theorem LsG.m (M : LsG w0 w hb sb b n2 vl vn ls nw t free) : LsM w0 w b n2 vl vn ls nw t := by
  obtain ⟨T, A, base, s, hc, hs, lo, r⟩ := M
  obtain ⟨f, c, k⟩ := hc.cl
  exact ⟨T.L, A, base, [], s, hc.dv.sub (fun k hk => .inl hk), stand_calm c (.inl k), hs, by simp, ⟨lo, .inl rfl⟩, r⟩
end

section
variable {w0 w w' : World} {b sb hb n1 n2 : Nat} {T T' : Tay} {A A' : Ab} {vl vn : Value} {ls nw : List (Nat × Nat)} {s : Int} {free : Prop} {base : Nat → Int}

/-- The law's own blocks while changes are made. -/
def LsY (hb n1 n2 : Nat) (vl : Value) : Nat → Prop := fun k => k = hb ∨ k = n1 ∨ k = n2 ∨ vl.ownBlock = some k
/-- Between two changes. -/
structure LsH (w0 wr : World) (b n1 n2 hb sb : Nat) (T : Tay) (A : Ab) (s : Int) (base : Nat → Int) (ls : List (Nat × Nat)) (vl : Value) : Prop where
  hc : HpC w0 (LsY hb n1 n2 vl) wr hb sb b T A 2048 False s base
  st : HpS (rb base)
  li : Lists (ask (rb base)) ls
  ch : Box wr n1 (ptr hb)
  cl : Box wr n2 vl
  rl : wr.ownsRow w0.heap.size 39 2 vl ls.length (pcells ls)
  d1 : hb < n1 ∧ n1 < n2
  d2 : ∀ k, vl.ownBlock = some k → n2 < k

/-- The changes have ended by themselves. -/
theorem LsH.m (S : LsH w0 w b n1 n2 hb sb T A s base ls vl) : LsM w0 w b n2 vl vl ls ls s := by
  obtain ⟨f, c, k⟩ := S.hc.cl
  refine ⟨T.L, A, base, [], s, S.hc.dv.sub (fun k hk => ?_), stand_calm c (.inl k), Int.le_refl _, by simp, ⟨⟨S.st, .inl S.li⟩, .inl rfl⟩, S.cl, S.rl, .inl rfl⟩
  rcases hk with hk | hk | hk
  · exact .inr (.inr (.inl hk))
  · exact .inr (.inr (.inr hk))
  · exact .inr (.inr (.inr hk))
end

/-- The law's own blocks within a round. -/
def LsZ (hb n1 n2 : Nat) (vl vn : Value) (n4 : Nat) : Nat → Prop := fun k => LsY hb n1 n2 vl k ∨ (k = n4 ∨ k = n4 + 1 ∨ k = n4 + 2 ∨ k = n4 + 3) ∨ vn.ownBlock = some k
/-- The variables of a round, and the two rows. -/
structure LsB (w0 w : World) (n1 n2 hb : Nat) (vl vn : Value) (ls nx : List (Nat × Nat)) (n4 x k : Nat) (tk : Bool) (at_ : Int) : Prop where
  ch : Box w n1 (ptr hb)
  cl : Box w n2 vl
  rl : w.ownsRow w0.heap.size 39 2 vl ls.length (pcells ls)
  rn : w.ownsRow w0.heap.size 39 2 vn nx.length (pcells nx)
  bw : Box w n4 (.int .i64 x)
  ba : Box w (n4 + 1) (.int .i64 at_)
  bt : Box w (n4 + 2) (.bool tk)
  bk : Box w (n4 + 3) (.int .i64 k)
  d1 : hb < n1 ∧ n1 < n2 ∧ n2 < n4 ∧ 0 < n4
  d2 : ∀ k, vl.ownBlock = some k → n2 < k ∧ k < n4
  d3 : ∀ k, vn.ownBlock = some k → n2 < k ∧ vl.ownBlock ≠ some k ∧ (k < n4 ∨ n4 + 3 < k)

section
variable {w0 w w' : World} {b sb hb n1 n2 : Nat} {T T' : Tay} {A A' : Ab} {vl vn vn' : Value} {ls nx nx' : List (Nat × Nat)} {n4 x k : Nat} {tk : Bool} {at_ at' s : Int} {al : Option Addr} {len cap : Nat} {free : Prop} {base : Nat → Int}

/-- Nothing of it turns but 'at'. -/
theorem LsB.kept (B : LsB w0 w n1 n2 hb vl vn ls nx n4 x k tk at_) {F : Nat → Prop} (f : Fr F w w') (hF : ∀ k, LsZ hb n1 n2 vl vn n4 k → k ≠ n4 + 1 → ¬ F k) (ba : Box w' (n4 + 1) (.int .i64 at')) : LsB w0 w' n1 n2 hb vl vn ls nx n4 x k tk at' := by
  have d1 := B.d1
  refine { B with ch := B.ch.kept f (hF _ (.inl (.inr (.inl rfl))) (by omega)), cl := B.cl.kept f (hF _ (.inl (.inr (.inr (.inl rfl)))) (by omega)), rl := row_kept B.rl f (fun k hk => hF k (.inl (.inr (.inr (.inr hk)))) (by have := B.d2 k hk; omega)), rn := row_kept B.rn f (fun k hk => hF k (.inr (.inr hk)) (by have := B.d3 k hk; omega)), bw := B.bw.kept f (hF _ (.inr (.inl (.inl rfl))) (by omega)), ba := ba, bt := B.bt.kept f (hF _ (.inr (.inl (.inr (.inr (.inl rfl))))) (by omega)), bk := B.bk.kept f (hF _ (.inr (.inl (.inr (.inr (.inr rfl))))) (by omega)) }
theorem LsB.still (B : LsB w0 w n1 n2 hb vl vn ls nx n4 x k tk at_) (f : Still w w') : LsB w0 w' n1 n2 hb vl vn ls nx n4 x k tk at_ := B.kept f (fun _ _ _ x => x) (B.ba.kept f (fun x => x))

/-- Which one is chosen. -/
theorem LsB.pick (B : LsB w0 w n1 n2 hb vl vn ls nx n4 x k tk at_) (j : Nat) : LsB w0 (w.setCell ⟨n4 + 3, 0, none⟩ (.int .i64 j)) n1 n2 hb vl vn ls nx n4 x j tk at_ := by
  have d1 := B.d1
  have f := Fr.box w (n4 + 3) (.int .i64 j)
  have ne : ∀ k, k ≠ n4 + 3 → ¬ (fun r => r = n4 + 3) k := fun k hk e => hk e
  exact { B with ch := B.ch.kept f (ne _ (by omega)), cl := B.cl.kept f (ne _ (by omega)), rl := row_kept B.rl f (fun k hk => ne _ (by have := B.d2 k hk; omega)), rn := row_kept B.rn f (fun k hk => ne _ (by have := B.d3 k hk; omega)), bw := B.bw.kept f (ne _ (by omega)), ba := B.ba.kept f (ne _ (by omega)), bt := B.bt.kept f (ne _ (by omega)), bk := B.bk.set _ }

/-- What Do's closure finds. -/
theorem LsB.finds (B : LsB w0 w n1 n2 hb (.slice al len cap) vn ls nx n4 x k tk 0) (hc : HpC w0 (LsZ hb n1 n2 (.slice al len cap) vn n4) w hb sb b T A 2048 free s base) (st : HpS (rb base)) : ∀ w3, Still w w3 → LsW w3 hb sb b T A [] (n4 + 2) n1 n4 (n4 + 1) n2 (n4 + 3) tk x (.int .i64 0) al len cap k := fun w3 f3 => by
  have B3 := B.still f3
  have sy := hc.says []
  rw [homed_nil] at sy
  have d1 := B.d1
  exact ⟨(hc.still f3).toHp, by rw [sy]; exact st, B3.bt.c, B3.ch.c, B3.bw.c, B3.cl.c, B3.bk.c, B3.ba, hc.hd.ap _ (.inr (.inl (.inr (.inl rfl)))), ⟨by omega, by omega⟩⟩

/-- The next list becomes the list. -/
theorem LsB.next (B : LsB w0 w n1 n2 hb vl vn ls nx n4 x k tk at_) (hc : HpC w0 (LsZ hb n1 n2 vl vn n4) w hb sb b T A 2048 False s base) (st : HpS (rb base)) (li : Lists (ask (rb base)) nx') {F : Nat → Prop} (f : Fr F w w') (hF : ∀ k, F k → k = n2 ∨ vn.ownBlock = some k)
    (cl : Box w' n2 vn') (rn : w'.ownsRow w0.heap.size 39 2 vn' nx'.length (pcells nx')) (hv : ∀ k, vn'.ownBlock = some k → vn.ownBlock = some k ∨ w.heap.size ≤ k) : LsH w0 w' b n1 n2 hb sb T A s base nx' vn' := by
  have d1 := B.d1
  have l1 := B.ch.lt
  have l2 := B.bk.lt
  have hF2 : ∀ k, F k → n2 ≤ k := fun k hk => by
    rcases hF k hk with e | e
    · omega
    · have := B.d3 k e; omega
  refine ⟨hc.grow f (fun k hk => ?_) (fun e => by have := hF2 _ e; omega) (fun k hk => ?_) (.inl rfl), st, li, B.ch.kept f (fun e => by have := hF2 _ e; omega), cl, rn, ⟨d1.1, d1.2.1⟩, fun k hk => ?_⟩
  · rcases hF k hk with e | e
    · exact .inl (.inr (.inr (.inl e)))
    · exact .inr (.inr e)
  · rcases hk with e | e | e | e
    · exact .inl (.inl (.inl e))
    · exact .inl (.inl (.inr (.inl e)))
    · exact .inl (.inl (.inr (.inr (.inl e))))
    · rcases hv k e with h | h
      · exact .inl (.inr (.inr h))
      · exact .inr ⟨h, (rn.lt k e).2⟩
  · rcases hv k hk with h | h
    · exact (B.d3 k h).1
    · omega

/-- The power is gone. -/
theorem LsB.gone {n : Nat} {P : List (Int × Int)} {d : Bool} (B : LsB w0 w n1 n2 hb vl vn ls nx n4 x k tk at_) (hd : Hold w0 (LsZ hb n1 n2 vl vn n4) w sb b n T A P d) {xs : List (Int × Int)} (hx : xs.length ≤ 6144) (lt : LogTorn 2048 0 12304 base xs s A) (le : LsF base xs ls nx') {F : Nat → Prop} (f : Fr F w w') (hF : ∀ k, F k → vn.ownBlock = some k)
    (rn : w'.ownsRow w0.heap.size 39 2 vn' nx'.length (pcells nx')) (hv : ∀ k, vn'.ownBlock = some k → vn.ownBlock = some k ∨ w.heap.size ≤ k) : LsM w0 w' b n2 vl vn' ls nx' s := by
  have D := hd.dv
  have hFX : ∀ k, F k → LsZ hb n1 n2 vl vn n4 k := fun k hk => .inr (.inr (hF k hk))
  have hY : ∀ k, LsX n2 vl vn' k → LsZ hb n1 n2 vl vn n4 k ∨ (w.heap.size ≤ k ∧ k < w'.heap.size) := fun k hk => by
    rcases hk with e | e | e
    · exact .inl (.inl (.inr (.inr (.inl e))))
    · exact .inl (.inl (.inr (.inr (.inr e))))
    · rcases hv k e with h | h
      · exact .inl (.inr (.inr h))
      · exact .inr ⟨h, (rn.lt k e).2⟩
  refine ⟨T.L, A, base, xs, s, ⟨D.d.kept f (fun k hk hF' => D.ap k (hFX k hF') hk), D.fr.trans' f (fun k hk => .inr (D.xl k (hFX k hk)).1), D.new, fun k hk => ?_, fun k hk => ?_⟩, lt, Int.le_refl _, hx, le, B.cl.kept f (fun e => by have := B.d3 _ (hF _ e); omega), row_kept B.rl f (fun k hk hF' => (B.d3 k (hF k hF')).2.1 hk), .inr rn⟩
  · rcases hY k hk with h | h
    · exact D.ap k h
    · exact fun x => by have := D.d.lt k x; omega
  · rcases hY k hk with h | h
    · exact ⟨(D.xl k h).1, Nat.lt_of_lt_of_le (D.xl k h).2 f.size⟩
    · exact ⟨Nat.le_trans D.fr.size h.1, h.2⟩
end
end Go.Proofs.YtacfmmbdeajjbaaGreatDoor
