/- Joined: Ry Rz. -/
import Derived.Test.YtflnaiijdpihcaaGreatDoorP17
namespace Go.Proofs.YtflnaiijdpihcaaGreatDoor
open Go.RowKit

section
structure PyW (nu sz : Nat) (w : World) (hb sb b : Nat) (T : Tay) (A : Ab) (P : List (Int × Int)) (bo bs bh bw ba bl bk bg : Nat) (kd : Int) (rs : List Rc) (ad : Option Addr) (cp kx : Nat) (wa : Option Addr) (n wc : Nat) (bt : Nat → Nat) : Prop where
  hp : Hp nu sz w hb sb b T A P
  R : Recs nu sz (says P A) rs
  len : P = []
  co : w.cell? ⟨bo, 0, none⟩ = some (.int .i64 kd)
  cs : w.cell? ⟨bs, 0, none⟩ = some (ptr sb)
  ch : w.cell? ⟨bh, 0, none⟩ = some (ptr hb)
  cw : w.cell? ⟨bw, 0, none⟩ = some (.slice wa n wc)
  nt : Nats .u8 w wa n bt
  hbt : ∀ i, i < n → bt i < 256
  nw : ∀ x, wa = some x → ¬ tfoot sb b T x.block
  cl : w.cell? ⟨bl, 0, none⟩ = some (.slice ad rs.length cp)
  rl : RcsAt nu w ad rs
  nr : ∀ x, ad = some x → ¬ tfoot sb b T x.block
  ck : w.cell? ⟨bk, 0, none⟩ = some (.int .i64 kx)
  kl : rs ≠ [] → kx < rs.length
  l2 : rs.length ≤ 100
  ca : Box w ba (.int .i64 0)
  cg : Box w bg (.bool false)
  no : ∀ k, k = bo ∨ k = bs ∨ k = bh ∨ k = bw ∨ k = ba ∨ k = bl ∨ k = bk ∨ k = bg → ¬ tfoot sb b T k
  kb : ∀ r ∈ rs, r.k ≤ 100

section
variable {nu sz : Nat} {w w' w0 : World} {hb sb b bo bs bh bw ba bl bk bg : Nat} {T : Tay} {A : Ab} {P : List (Int × Int)} {kd : Int} {rs : List Rc} {ad : Option Addr} {cp kx : Nat} {wa : Option Addr} {n wc : Nat} {bt : Nat → Nat}

set_option maxRecDepth 20000 in
set_option maxHeartbeats 2000000 in
theorem pyC0 (S : PyW nu sz w hb sb b T A P bo bs bh bw ba bl bk bg 0 rs ad cp kx wa n wc bt) :
    Calls Tryz.prog 12 #[ptr bo, ptr bs, ptr bh, ptr bw, ptr ba, ptr bl, ptr bk, ptr bg] w fun e w' => (n ≤ 4096 ∧ e = .returned (.tuple #[]) ∧ ∃ T' P' u us, OnxX (fun k => k = ba) w sb b T w' T' sz A P' false ∧ Box w' ba (.int .i64 (fi nu + 8 * u : Nat)) ∧ RecS nu sz (says P' A) u us n 1 (wordN bt n) ∧ Mde nu (says P A) (u :: us) (says P' A)) ∨ (e = .panicked (errnoQ 60) ∧ ∃ T' P', Onx w sb b T w' T' sz A P' false) ∨ (4096 < n ∧ e = .panicked (errnoQ 5) ∧ w' = w) := by
  have co := S.co; have cs := S.cs; have ch := S.ch; have cw := S.cw
  by_cases n4 : n ≤ 4096
  · have MK := r_makeB (cp := wc) S.hp S.R.st S.nt S.hbt n4 (by rw [S.len]; simp) S.nw
    have HMK := hide MK; have HS := hide S
    clear MK S
    go_enter Tryz.func12, Tryz.ntmps12
    go_wp2_with fail
    refine (unhide HMK).mono ?_
    clear HMK
    rintro e w1 (⟨u, us, g, rfl, t, rc, md⟩ | ⟨rfl, T', P', o⟩)
    · have S := unhide HS
      obtain ⟨T', P', o, eg, _⟩ := id t
      have nba := S.no ba (by simp)
      have bx := S.ca.kept o.fr nba
      have c := bx.c; have z := bx.z
      have lt := S.ca.lt
      have HX := hide (And.intro o (And.intro eg (And.intro rc (And.intro md (And.intro bx nba)))))
      clear t o eg rc md bx nba S
      go_wp2
      go_end0
      obtain ⟨o, eg, rc, md, bx, nba⟩ := unhide HX
      subst eg
      exact .inl ⟨n4, rfl, T', P', u, us, (OnxX.of o).var (Fr.box w1 ba _) (fun k hk => hk) (fun k hk => by have hk : k = ba := hk; subst hk; exact o.other lt nba), bx.set _, rc, md⟩
    · exact ⟨rfl, .inr (.inl ⟨rfl, T', P', o⟩)⟩
  · have MK := r_big (sb := sb) (hb := hb) (a := wa) (cp := wc) (show 4096 < n by omega) w
    have HMK := hide MK
    clear MK S
    go_enter Tryz.func12, Tryz.ntmps12
    go_wp2_with fail
    refine (unhide HMK).mono ?_
    rintro e w1 ⟨rfl, hh⟩
    exact ⟨rfl, .inr (.inr ⟨by omega, rfl, hh⟩)⟩

set_option maxRecDepth 20000 in
set_option maxHeartbeats 2000000 in
theorem pyCe (S : PyW nu sz w hb sb b T A P bo bs bh bw ba bl bk bg kd [] ad cp kx wa n wc bt) (h0 : kd ≠ 0) (h3 : kd ≠ 3) :
    Calls Tryz.prog 12 #[ptr bo, ptr bs, ptr bh, ptr bw, ptr ba, ptr bl, ptr bk, ptr bg] w fun e w' => e = .returned (.tuple #[]) ∧ w' = w := by
  have co := S.co; have cl := S.cl
  have k0 : (kd == 0) = false := by simpa using h0
  have k3 : (kd == 3) = false := by simpa using h3
  rw [List.length_nil] at cl
  clear S
  go_enter Tryz.func12, Tryz.ntmps12
  go_wp2
  go_end0
  exact ⟨rfl, rfl⟩

set_option maxRecDepth 20000 in
set_option maxHeartbeats 2000000 in
theorem pyC1 (S : PyW nu sz w hb sb b T A P bo bs bh bw ba bl bk bg 1 rs ad cp kx wa n wc bt) {r : Rc} (hr : rs[kx]? = some r) :
    Calls Tryz.prog 12 #[ptr bo, ptr bs, ptr bh, ptr bw, ptr ba, ptr bl, ptr bk, ptr bg] w fun e w' => e = .returned (.tuple #[]) ∧ To sz w sb b T A w' (upd (says P A) (fi nu + 8 * r.u + 1) ((r.k + 1 : Nat) : Int)) (P.length + 1) := by
  have co := S.co; have cs := S.cs; have cl := S.cl; have ck := S.ck
  have hlt := (List.getElem?_eq_some_iff.1 hr).1
  have hm := List.mem_of_getElem? hr
  obtain ⟨xb, xo, ea, y0, y1, y2⟩ := S.rl kx r hr
  have HD : ∀ w1, Still w w1 → Calls Tryz.prog 15 #[ptr sb, .int .i64 (fi nu + 8 * r.u : Nat)] w1 _ := fun w1 f1 => r_hold (S.hp.still f1) (by rw [S.len]; simp) (S.R.rc r hm).1
  have l0 : ((0 : Int) < rs.length) = True := by simp; omega
  have lk : ((kx : Int) < rs.length) = True := by simp; omega
  have l2 := S.l2
  have HHD := @hide _ HD
  clear HD S
  generalize rs.length = nl at *
  obtain ⟨p0, hp0⟩ : ∃ p0 : Int, ((fi nu + 8 * r.u : Nat) : Int) = p0 := ⟨_, rfl⟩
  simp only [hp0] at HHD y0
  clear hp0
  subst ea
  go_enter Tryz.func12, Tryz.ntmps12
  go_upto_region 8 with fail
  refine region_tailP 6 (by kernel_rfl) (by kernel_rfl) ?_
  simp only [List.take_succ_cons, List.take_zero, List.drop_succ_cons, List.drop_zero]
  repeat (go_big_quiet_step (first | fail))
  refine wpQuiet_nil ?_
  rintro _ ⟨nq, rfl⟩
  have H1 := hide (unhide HHD (w.drewN nq) ((Fr.refl _ w).drewN nq))
  clear HHD
  go_wp2_with fail
  refine (unhide H1).mono ?_
  clear H1
  rintro e w2 ⟨rfl, t⟩
  have HT := hide (t.after ((Fr.refl _ w).drewN nq))
  clear t
  go_wp2
  go_end0
  exact ⟨rfl, unhide HT⟩

def DrR (nu : Nat) (f : Nat → Int) (r : Rc) (g : Bool) (f' : Nat → Int) : Prop := (g = true ∧ r.k = 1 ∧ Dropped nu f r.u r.us f') ∨ (g = false ∧ 2 ≤ r.k ∧ f' = upd f (fi nu + 8 * r.u + 1) ((r.k - 1 : Nat) : Int))
theorem r_drop (h : Hp nu sz w hb sb b T A P) (s : HpS nu (says P A)) (hm : P.length + 200 ≤ 6144) {r : Rc} (rc : RecS nu sz (says P A) r.u r.us r.n r.k (wordN r.bt r.n)) :
    Calls Tryz.prog 14 #[ptr sb, ptr hb, .int .i64 (fi nu + 8 * r.u : Nat)] w fun e w' => ∃ g f', e = .returned (.bool g) ∧ To sz w sb b T A w' f' (P.length + 200) ∧ DrR nu (says P A) r g f' := by
  by_cases h1 : r.k = 1
  · rw [h1] at rc
    refine (r_drop1 h s hm rc).mono ?_
    rintro e w' ⟨rfl, g, t, d⟩
    exact ⟨true, g, rfl, t, .inl ⟨rfl, h1, d⟩⟩
  · have h2 : 2 ≤ r.k := by have := rc.k1; omega
    refine (r_drop2 h s (by omega) rc h2).mono ?_
    rintro e w' ⟨rfl, t⟩
    exact ⟨false, _, rfl, t.le (by omega), .inr ⟨rfl, h2, rfl⟩⟩

set_option maxRecDepth 20000 in
set_option maxHeartbeats 2000000 in
theorem pyC2 (S : PyW nu sz w hb sb b T A P bo bs bh bw ba bl bk bg kd rs ad cp kx wa n wc bt) {r : Rc} (hr : rs[kx]? = some r) (h0 : kd ≠ 0) (h3 : kd ≠ 3) (h1 : kd ≠ 1) :
    Calls Tryz.prog 12 #[ptr bo, ptr bs, ptr bh, ptr bw, ptr ba, ptr bl, ptr bk, ptr bg] w fun e w' => e = .returned (.tuple #[]) ∧ ∃ g T' P', OnxX (fun k => k = bg) w sb b T w' T' sz A P' false ∧ Box w' bg (.bool g) ∧ DrR nu (says P A) r g (says P' A) := by
  have co := S.co; have cs := S.cs; have ch := S.ch; have cl := S.cl; have ck := S.ck
  have hlt := (List.getElem?_eq_some_iff.1 hr).1
  have hm := List.mem_of_getElem? hr
  obtain ⟨xb, xo, ea, y0, y1, y2⟩ := S.rl kx r hr
  have HD : ∀ w1, Still w w1 → Calls Tryz.prog 14 #[ptr sb, ptr hb, .int .i64 (fi nu + 8 * r.u : Nat)] w1 _ := fun w1 f1 => r_drop (S.hp.still f1) S.R.st (by rw [S.len]; simp) (S.R.rc r hm).1
  have l0 : ((0 : Int) < rs.length) = True := by simp; omega
  have lk : ((kx : Int) < rs.length) = True := by simp; omega
  have l2 := S.l2
  have k0 : (kd == 0) = false := by simpa using h0
  have k3 : (kd == 3) = false := by simpa using h3
  have k1 : (kd == 1) = false := by simpa using h1
  have HHD := @hide _ HD; have HB := hide (And.intro S.cg (S.no bg (by simp)))
  clear HD S
  generalize rs.length = nl at *
  obtain ⟨p0, hp0⟩ : ∃ p0 : Int, ((fi nu + 8 * r.u : Nat) : Int) = p0 := ⟨_, rfl⟩
  simp only [hp0] at HHD y0
  clear hp0
  subst ea
  go_enter Tryz.func12, Tryz.ntmps12
  go_upto_region 10 with fail
  refine region_tailP 7 (by kernel_rfl) (by kernel_rfl) ?_
  simp only [List.take_succ_cons, List.take_zero, List.drop_succ_cons, List.drop_zero]
  repeat (go_big_quiet_step (first | fail))
  refine wpQuiet_nil ?_
  rintro _ ⟨nq, rfl⟩
  have H1 := hide (unhide HHD (w.drewN nq) ((Fr.refl _ w).drewN nq))
  clear HHD
  go_wp2_with fail
  refine (unhide H1).mono ?_
  clear H1
  rintro e w2 ⟨g, f', rfl, t, d⟩
  obtain ⟨cg, nbg⟩ := unhide HB
  have lt := cg.lt
  obtain ⟨T2, P2, o, e2, _⟩ := t.after ((Fr.refl _ w).drewN nq)
  have bx := cg.kept o.fr nbg
  have c := bx.c; have z := bx.z
  have HX := hide (And.intro o (And.intro e2 (And.intro d (And.intro bx nbg))))
  clear t o e2 d bx nbg cg HB
  go_wp2
  go_end0
  obtain ⟨o, e2, d, bx, nbg⟩ := unhide HX
  subst e2
  exact ⟨rfl, g, T2, P2, (OnxX.of o).var (Fr.box w2 bg _) (fun k hk => hk) (fun k hk => by have hk : k = bg := hk; subst hk; exact o.other lt nbg), bx.set _, d⟩

def undB : Nat → Nat := fun i => if i = 0 then 117 else if i = 1 then 110 else if i = 2 then 100 else if i = 3 then 111 else if i = 4 then 110 else 101

set_option maxRecDepth 20000 in
set_option maxHeartbeats 4000000 in
theorem pyC3 (S : PyW nu sz w hb sb b T A P bo bs bh bw ba bl bk bg 3 rs ad cp kx wa n wc bt) :
    Calls Tryz.prog 12 #[ptr bo, ptr bs, ptr bh, ptr bw, ptr ba, ptr bl, ptr bk, ptr bg] w fun e w' => (e = .panicked (errnoQ 61) ∨ e = .panicked (errnoQ 60)) ∧ ∃ T' P', Onx w sb b T w' T' sz A P' false := by
  have co := S.co; have cs := S.cs; have ch := S.ch
  obtain ⟨W1, hW1⟩ : ∃ W1, w.alloc (.cells #[.int .u8 117, .int .u8 110, .int .u8 100, .int .u8 111, .int .u8 110, .int .u8 101] 5 (6, 7)) = W1 := ⟨_, rfl⟩
  have f1 : Still w W1 := hW1 ▸ (Fr.refl _ w).alloc _
  have o1 : W1.heap[w.heap.size]? = some (.cells #[.int .u8 117, .int .u8 110, .int .u8 100, .int .u8 111, .int .u8 110, .int .u8 101] 5 (6, 7)) := hW1 ▸ heap_alloc_new w _
  have hN : Nats .u8 W1 (some ⟨w.heap.size, 0, none⟩) 6 undB := fun i hi => by
    refine ⟨_, _, rfl, ?_⟩
    rcases (show i = 0 ∨ i = 1 ∨ i = 2 ∨ i = 3 ∨ i = 4 ∨ i = 5 by omega) with rfl | rfl | rfl | rfl | rfl | rfl
    · exact cell_of_obj o1 0
    · exact cell_of_obj o1 1
    · exact cell_of_obj o1 2
    · exact cell_of_obj o1 3
    · exact cell_of_obj o1 4
    · exact cell_of_obj o1 5
  have hb6 : ∀ i, i < 6 → undB i < 256 := fun i _ => by unfold undB; (repeat' split) <;> omega
  have MK := r_makeB (cp := 6) (S.hp.still f1) S.R.st hN hb6 (by omega) (by rw [S.len]; simp) (fun x hx => by
    injection hx with hx
    rw [← hx]
    exact fun y => by have := S.hp.st.lt _ y; simp at this)
  have cv : (convert 30 30 (.slice (some ⟨w.heap.size, 0, none⟩) 6 6)).run Tryz.prog (w.alloc (.cells #[.int .u8 117, .int .u8 110, .int .u8 100, .int .u8 111, .int .u8 110, .int .u8 101] 5)) = .ok (.slice (some ⟨w.heap.size, 0, none⟩) 6 6) (w.alloc (.cells #[.int .u8 117, .int .u8 110, .int .u8 100, .int .u8 111, .int .u8 110, .int .u8 101] 5 (6, 7))) := Lib.run_convert_bytes_const w 30 5 #[.int .u8 117, .int .u8 110, .int .u8 100, .int .u8 111, .int .u8 110, .int .u8 101] 6 6 Tryz.underlying30 Tryz.underlying5
  have HMK := hide MK; have HS := hide (And.intro S (And.intro f1 hW1)); have HB6 := @hide _ hb6
  clear MK S f1 hW1 o1 hN hb6
  go_enter Tryz.func12, Tryz.ntmps12
  go_wp2_with fail
  rw [(unhide HS).2.2]
  refine (unhide HMK).mono ?_
  clear HMK cv
  rintro e w1 (⟨u, us, g, rfl, t, rc, md⟩ | ⟨rfl, T', P', o⟩)
  · obtain ⟨S, f1, hW1⟩ := unhide HS
    obtain ⟨T2, P2, o2, e2, l2⟩ := t
    subst e2
    have o02 := o2.after f1
    have cl : w1.cell? ⟨bl, 0, none⟩ = some (.slice ad rs.length cp) := o02.fr.cell' S.cl (S.no bl (by simp))
    by_cases hne : rs = []
    · subst hne
      rw [List.length_nil] at cl
      have HO := hide o02
      clear S f1 hW1 o2 o02 rc md
      go_wp2
      exact ⟨rfl, .inl rfl, T2, P2, unhide HO⟩
    · have kl := S.kl hne
      obtain ⟨r, hr⟩ : ∃ r, rs[kx]? = some r := ⟨_, List.getElem?_eq_getElem (l := rs) (i := kx) kl⟩
      have hm := List.mem_of_getElem? hr
      have R2 := S.R.made md rc (unhide HB6)
      have h2 := S.hp.call o02
      obtain ⟨xb, xo, ea, y0, y1, y2⟩ := (S.rl.fr o02.fr S.nr) kx r hr
      have lp : P2.length + 200 ≤ 6144 := by have := S.len; subst this; simp at l2; omega
      have HD : ∀ w3, Still w1 w3 → Calls Tryz.prog 14 #[ptr sb, ptr hb, .int .i64 (fi nu + 8 * r.u : Nat)] w3 _ := fun w3 f3 => r_drop (h2.still f3) R2.st lp (R2.rc r (by simp [hm])).1
      have cs2 : w1.cell? ⟨bs, 0, none⟩ = some (ptr sb) := o02.fr.cell' S.cs (S.no bs (by simp))
      have ch2 : w1.cell? ⟨bh, 0, none⟩ = some (ptr hb) := o02.fr.cell' S.ch (S.no bh (by simp))
      have ck2 : w1.cell? ⟨bk, 0, none⟩ = some (.int .i64 kx) := o02.fr.cell' S.ck (S.no bk (by simp))
      have l0 : ((0 : Int) < rs.length) = True := by simp; omega
      have lk : ((kx : Int) < rs.length) = True := by simp; omega
      have l2' := S.l2
      have HHD := @hide _ HD; have HO := hide o02
      clear HD S f1 hW1 o2 o02 rc md R2 h2 l2 lp hr hm HS
      generalize rs.length = nl at *
      obtain ⟨p0, hp0⟩ : ∃ p0 : Int, ((fi nu + 8 * r.u : Nat) : Int) = p0 := ⟨_, rfl⟩
      simp only [hp0] at HHD y0
      clear hp0 co cs ch hne
      subst ea
      go_upto_region 5 with fail
      refine region_tailP 7 (by kernel_rfl) (by kernel_rfl) ?_
      simp only [List.take_succ_cons, List.take_zero, List.drop_succ_cons, List.drop_zero]
      repeat (go_big_quiet_step (first | fail))
      refine wpQuiet_nil ?_
      rintro _ ⟨nq, rfl⟩
      have H1 := hide (unhide HHD (w1.drewN nq) ((Fr.refl _ w1).drewN nq))
      clear HHD
      go_wp2_with fail
      refine (unhide H1).mono ?_
      clear H1
      rintro e w2 ⟨g, f', rfl, t, d⟩
      obtain ⟨T3, P3, o3, e3, _⟩ := t.after ((Fr.refl _ w1).drewN nq)
      have HO3 := hide ((unhide HO).trans o3)
      clear t o3 e3 d
      go_wp2
      exact ⟨rfl, .inl rfl, T3, P3, unhide HO3⟩
  · obtain ⟨S, f1, hW1⟩ := unhide HS
    exact ⟨rfl, .inr rfl, T', P', o.after f1⟩
end
end

section
section
variable {nu sz : Nat} {w w' w0 : World} {hb sb b bs bh bl bn bo : Nat} {T : Tay} {A : Ab} {rs : List Rc} {ad : Option Addr} {cp : Nat}

theorem allU_take {rs : List Rc} {m : Nat} {r : Rc} (h : rs[m]? = some r) : (allU (rs.take (m + 1))).length = (allU (rs.take m)).length + (r.us.length + 1) := by
  rw [List.take_add_one, h, allU_app, List.length_append]
  simp [allU, Rc.all]
theorem allU_take_le (rs : List Rc) (m : Nat) : (allU (rs.take m)).length ≤ (allU rs).length := by
  conv => rhs; rw [← List.take_append_drop m rs, allU_app, List.length_append]
  omega
theorem Recs.few {f : Nat → Int} (R : Recs nu sz f rs) (hn : nu ≤ 4000) : (allU rs).length ≤ 4000 := by
  rw [← R.cnt]; have := cnt_le nu (ask nu f); omega

set_option maxRecDepth 20000 in
set_option maxHeartbeats 8000000 in
theorem sdC (hp : Hp nu sz w hb sb b T A []) (R : Recs nu sz (says [] A) rs) (cl : w.cell? ⟨bl, 0, none⟩ = some (.slice ad rs.length cp)) (cs : w.cell? ⟨bs, 0, none⟩ = some (ptr sb)) (ch : w.cell? ⟨bh, 0, none⟩ = some (ptr hb)) (rl : RcsAt nu w ad rs) (Bn : Box w bn (.int .i64 0)) (Bo : Box w bo (.bool true))
    (nt : ¬ tfoot sb b T bn ∧ ¬ tfoot sb b T bo) (ne : bl ≠ bn ∧ bl ≠ bo ∧ bs ≠ bn ∧ bs ≠ bo ∧ bh ≠ bn ∧ bh ≠ bo ∧ bn ≠ bo ∧ hb ≠ bn ∧ hb ≠ bo ∧ 0 ≠ bn ∧ 0 ≠ bo) (nr : ∀ x, ad = some x → x.block ≠ bn ∧ x.block ≠ bo) (l100 : rs.length ≤ 100) :
    Calls Tryz.prog 65 #[ptr bl, ptr bs, ptr bh, ptr bn, ptr bo] w fun e w' => e = .returned (.tuple #[]) ∧ Fr (fun k => k = bn ∨ k = bo) w w' ∧ Box w' bn (.int .i64 ((allU rs).length : Nat)) ∧ Box w' bo (.bool true) := by
  obtain ⟨g1, g2, g3, g4, g5, g6⟩ := hp.hp.geo.b
  have few := R.few (by omega)
  obtain ⟨nl, hnl⟩ : ∃ nl, rs.length = nl := ⟨_, rfl⟩
  rw [hnl] at cl l100
  have HX := hide (And.intro hp (And.intro R (And.intro rl (And.intro Bn (And.intro Bo (And.intro nt few))))))
  have HNR := @hide _ nr; have HNL := hide hnl
  have HC := hide (And.intro cl (And.intro cs ch))
  clear hp R rl Bn Bo nt few nr hnl g1 g2 g3 g4 g5 g6
  go_enter Tryz.func65, Tryz.ntmps65
  go_wp2_with fail
  go_loopw [5] (fun iv wr => ∃ m : Nat, m ≤ nl ∧ iv = .int .i64 m ∧ Fr (fun k => k = bn ∨ k = bo) w wr ∧ Box wr bn (.int .i64 ((allU (rs.take m)).length : Nat)) ∧ Box wr bo (.bool true)) (fun iv wr => nl - (intOf iv).toNat)
  case atStart =>
    obtain ⟨hp, R, rl, Bn, Bo, nt, few⟩ := unhide HX
    exact ⟨0, by omega, rfl, Fr.refl _ _, by simpa [allU] using Bn, Bo⟩
  case round =>
    obtain ⟨m, hm, rfl, fr, bxn, bxo⟩ := hrel
    generalize wr = wq at *
    clear wr
    obtain ⟨hp, R, rl, Bn, Bo, nt, few⟩ := unhide HX
    have nf : ∀ k, k ≠ bn → k ≠ bo → ¬ (fun k => k = bn ∨ k = bo) k := fun k h1 h2 e => e.elim h1 h2
    replace cl := fr.cell' cl (nf bl ne.1 ne.2.1)
    replace cs := fr.cell' cs (nf bs ne.2.2.1 ne.2.2.2.1)
    replace ch := fr.cell' ch (nf bh ne.2.2.2.2.1 ne.2.2.2.2.2.1)
    by_cases hlt : m < nl
    · have hlt' : ((m : Int) < nl) = True := by simp; omega
      obtain ⟨r, hr⟩ : ∃ r, rs[m]? = some r := ⟨_, List.getElem?_eq_getElem (l := rs) (i := m) (by rw [unhide HNL]; exact hlt)⟩
      have hrm := List.mem_of_getElem? hr
      obtain ⟨xb, xo, ea, y0, y1, y2⟩ := (rl.fr fr (fun x hx => nf _ (unhide HNR x hx).1 (unhide HNR x hx).2)) m r hr
      have xn := unhide HNR _ ea
      have hq := hp.turn fr (fun k hk => by rcases hk with rfl | rfl; exact nt.1; exact nt.2) (nf hb ne.2.2.2.2.2.2.2.1 ne.2.2.2.2.2.2.2.2.1) (nf 0 ne.2.2.2.2.2.2.2.2.2.1 ne.2.2.2.2.2.2.2.2.2.2)
      obtain ⟨rc, rb8⟩ := R.rc r hrm
      have tun : ∀ w1, Fr (fun k => k = bn ∨ k = bo) wq w1 → Hp nu sz w1 hb sb b T A [] := fun w1 f1 => hq.turn f1 (fun k hk => by rcases hk with rfl | rfl; exact nt.1; exact nt.2) (nf hb ne.2.2.2.2.2.2.2.1 ne.2.2.2.2.2.2.2.2.1) (nf 0 ne.2.2.2.2.2.2.2.2.2.1 ne.2.2.2.2.2.2.2.2.2.2)
      have PC : ∀ w1, Fr (fun k => k = bn ∨ k = bo) wq w1 → Calls Tryz.prog 21 #[ptr sb, ptr hb, .int .i64 (fi nu + 8 * r.u : Nat)] w1 _ := fun w1 f1 => r_pieces (tun w1 f1) R.st rc
      have RD : ∀ w1, Fr (fun k => k = bn ∨ k = bo) wq w1 → Calls Tryz.prog 20 #[ptr sb, ptr hb, .int .i64 (fi nu + 8 * r.u : Nat)] w1 _ := fun w1 f1 => r_read (tun w1 f1) R.st r.bt rb8 rc
      have LN : ∀ w1, Fr (fun k => k = bn ∨ k = bo) wq w1 → Calls Tryz.prog 48 #[ptr sb, .int .i64 (fi nu + 8 * r.u : Nat)] w1 _ := fun w1 f1 => r_len (tun w1 f1) rc
      have HL : ∀ w1, Fr (fun k => k = bn ∨ k = bo) wq w1 → Calls Tryz.prog 49 #[ptr sb, .int .i64 (fi nu + 8 * r.u : Nat)] w1 _ := fun w1 f1 => r_held (tun w1 f1) rc
      have hul := rc.len
      have hal := allU_take hr
      have hle := allU_take_le rs (m + 1)
      have hsz := strB_size r.bt r.n
      have n4 := rc.ch.1.n4
      have rk2 := rc.k2
      have HPC := @hide _ PC; have HRD := @hide _ RD; have HLN := @hide _ LN; have HHL := @hide _ HL
      have HB := hide (And.intro fr (And.intro bxn (And.intro bxo (And.intro hal hle))))
      have pl0 : (natVals (plcs nu (r.u :: r.us)))[0]? = some (.int .i64 (fi nu + 8 * r.u : Nat)) := by simp [natVals, plcs]
      have HPL := hide pl0
      have cbn := bxn.c
      obtain ⟨Al, hAl⟩ : ∃ Al, (allU (rs.take m)).length = Al := ⟨_, rfl⟩
      rw [hAl] at cbn hal
      have hA4 : Al ≤ 4000 := by omega
      have HAL := hide hAl
      clear PC RD LN HL tun hq rc rb8 hp R rl Bn Bo nt few fr bxn bxo hal hle hr hrm pl0 hAl
      obtain ⟨p0, hp0⟩ : ∃ p0 : Int, ((fi nu + 8 * r.u : Nat) : Int) = p0 := ⟨_, rfl⟩
      simp only [hp0] at HPC HRD HLN HHL y0 HPL
      clear hp0
      obtain ⟨rk, hrk⟩ : ∃ rk, r.k = rk := ⟨_, rfl⟩
      obtain ⟨dt, hdt⟩ : ∃ dt, strB r.bt r.n = dt := ⟨_, rfl⟩
      rw [hrk] at y1 HHL rk2
      rw [hdt] at y2 hsz
      have HDT := hide (And.intro hrk hdt)
      clear hrk hdt
      subst ea
      go_upto_region 3 with fail
      refine region_tailP 7 (by kernel_rfl) (by kernel_rfl) ?_
      simp only [List.take_succ_cons, List.take_zero, List.drop_succ_cons, List.drop_zero]
      repeat (go_big_quiet_step (first | fail))
      refine wpQuiet_nil ?_
      rintro _ ⟨nq, rfl⟩
      have fq0 : Still wq (wq.drewN nq) := (Fr.refl _ wq).drewN nq
      have H1 := hide (unhide HPC (wq.drewN nq) (fq0.mono (fun _ hk => hk.elim)))
      clear HPC
      go_wp2_with fail
      refine (unhide H1).mono ?_
      clear H1
      rintro e w2 ⟨vp, rfl, ow, f2'⟩
      have f2 : Still wq w2 := fq0.trans' f2' (fun _ x => x.elim)
      obtain ⟨pg, pc, rfl⟩ : ∃ pg pc, vp = .slice (some ⟨pg, 0, none⟩) (r.us.length + 1) pc := by
        rcases row_form ow with ⟨_, e0⟩ | ⟨gp, capp, e0⟩
        · omega
        · exact ⟨gp, capp, e0⟩
      have yp : w2.cell? ⟨pg, 0, none⟩ = some (.int .i64 p0) := by
        have h0 := ow.cellAt 0 (by omega)
        rw [h0]
        exact unhide HPL
      have pgl := (ow.lt pg rfl).1
      have bxn := (unhide HB).2.1; have bxo := (unhide HB).2.2.1
      have lbn := bxn.lt; have lbo := bxo.lt
      have pgn : pg ≠ bn ∧ pg ≠ bo := by
        have e : (wq.drewN nq).heap.size = wq.heap.size := rfl
        omega
      have bxn2 := bxn.kept f2 (fun x => x); have bxo2 := bxo.kept f2 (fun x => x)
      obtain ⟨ul, hul'⟩ : ∃ ul, r.us.length = ul := ⟨_, rfl⟩
      rw [hul'] at hul
      obtain ⟨W4, hW4⟩ : ∃ W4, w2.setCell ⟨bn, 0, none⟩ (.int .i64 ((Al : Int) + ((ul : Int) + 1))) = W4 := ⟨_, rfl⟩
      have f4 : Fr (fun k => k = bn) w2 W4 := hW4 ▸ Fr.box w2 bn _
      have B4n : Box W4 bn (.int .i64 ((Al : Int) + ((ul : Int) + 1))) := hW4 ▸ bxn2.set _
      have B4o : Box W4 bo (.bool true) := bxo2.kept f4 (fun e => ne.2.2.2.2.2.2.1 e.symm)
      have F4 : Fr (fun k => k = bn ∨ k = bo) wq W4 := (f2.mono (G := fun k => k = bn ∨ k = bo) (fun _ hk => hk.elim)).trans (f4.mono (fun k hk => .inl (.inl hk)))
      have c2n := bxn2.c; have z2n := bxn2.z
      rw [unhide HAL] at c2n
      have e4 : (Al : Int) + ((ul : Int) + 1) = ((Al + (ul + 1) : Nat) : Int) := by omega
      have w4a : IntKind.i64.wrap ((Al : Int) + ((ul : Int) + 1)) = (Al : Int) + ((ul : Int) + 1) := (wrap_small _ (by omega) (by omega)).1
      have nfn : ∀ k, k ≠ bn → ¬ (fun k => k = bn) k := fun k h e => h e
      have hS4 : (fun w' => w'.cell? ⟨bl, 0, none⟩ = some (.slice (some ⟨xb, xo, none⟩) nl cp) ∧ w'.cell? ⟨bs, 0, none⟩ = some (ptr sb) ∧ w'.cell? ⟨bh, 0, none⟩ = some (ptr hb) ∧ w'.cell? ⟨bo, 0, none⟩ = some (.bool true) ∧ w'.cell? ⟨pg, 0, none⟩ = some (.int .i64 p0) ∧ w'.cell? ⟨xb, xo + m * 3, none⟩ = some (.int .i64 p0) ∧ w'.cell? ⟨xb, xo + m * 3 + 1, none⟩ = some (.int .i64 rk) ∧ w'.cell? ⟨xb, xo + m * 3 + 2, none⟩ = some (.string dt)) W4 := ⟨f4.cell' (f2.cell' cl (fun x => x)) (nfn _ ne.1), f4.cell' (f2.cell' cs (fun x => x)) (nfn _ ne.2.2.1), f4.cell' (f2.cell' ch (fun x => x)) (nfn _ ne.2.2.2.2.1), B4o.c, f4.cell' yp (nfn _ pgn.1), f4.cell' (f2.cell' y0 (fun x => x)) (nfn _ xn.1), f4.cell' (f2.cell' y1 (fun x => x)) (nfn _ xn.1), f4.cell' (f2.cell' y2 (fun x => x)) (nfn _ xn.1)⟩
      have HW4 := hide hW4; have H4 := hide (And.intro B4n (And.intro B4o F4)); have HUL := hide hul'
      rw [hul']
      clear ow yp f2' f2 fq0 bxn bxo bxn2 bxo2 hW4 f4 B4n B4o F4 y0 y1 y2 cl cs ch cbn e4 hul' lbn lbo pgl
      go_upto_region 5 with fail
      rw [unhide HW4]
      obtain ⟨W, hW⟩ : ∃ W, W4.drew = W := ⟨_, rfl⟩
      have fW : Still W4 W := hW ▸ (Fr.refl _ W4).drewN 1
      refine wp_region_held_drew (S := fun w' => w'.cell? ⟨bl, 0, none⟩ = some (.slice (some ⟨xb, xo, none⟩) nl cp) ∧ w'.cell? ⟨bs, 0, none⟩ = some (ptr sb) ∧ w'.cell? ⟨bh, 0, none⟩ = some (ptr hb) ∧ w'.cell? ⟨bo, 0, none⟩ = some (.bool true) ∧ w'.cell? ⟨pg, 0, none⟩ = some (.int .i64 p0) ∧ w'.cell? ⟨xb, xo + m * 3, none⟩ = some (.int .i64 p0) ∧ w'.cell? ⟨xb, xo + m * 3 + 1, none⟩ = some (.int .i64 rk) ∧ w'.cell? ⟨xb, xo + m * 3 + 2, none⟩ = some (.string dt)) (by kernel_rfl) ?_ (fun hHeld => ?_)
      · rw [hW]; exact ⟨fW.cell' hS4.1 (fun x => x), fW.cell' hS4.2.1 (fun x => x), fW.cell' hS4.2.2.1 (fun x => x), fW.cell' hS4.2.2.2.1 (fun x => x), fW.cell' hS4.2.2.2.2.1 (fun x => x), fW.cell' hS4.2.2.2.2.2.1 (fun x => x), fW.cell' hS4.2.2.2.2.2.2.1 (fun x => x), fW.cell' hS4.2.2.2.2.2.2.2 (fun x => x)⟩
      rw [hW] at hHeld ⊢
      clear hW hS4
      have FW : Fr (fun k => k = bn ∨ k = bo) wq W := (unhide H4).2.2.trans (fW.mono (G := fun k => k = bn ∨ k = bo) (fun _ hk => hk.elim))
      refine take_l 0 (v := ?_) rfl (by kernel_rfl) (by kernel_rfl) (by kernel_rfl) (fun _ _ _ h => h) (Or.inl ⟨by rfl, ?_⟩) hHeld ?_
      rotate_left
      · (intro w hSw; (try dsimp only at hSw); go_simp; (try with_reducible rfl))
      simp only [Act.put, List.setIfInBounds_toArray, List.set_cons_zero, List.set_cons_succ]
      refine take_l 1 (v := ?_) rfl (by kernel_rfl) (by kernel_rfl) (by kernel_rfl) (fun _ _ _ h => h) (Or.inl ⟨by rfl, ?_⟩) hHeld ?_
      rotate_left
      · (intro w hSw; (try dsimp only at hSw); go_simp; (try with_reducible rfl))
      simp only [Act.put, List.setIfInBounds_toArray, List.set_cons_zero, List.set_cons_succ]
      refine take_l 2 (v := ?_) rfl (by kernel_rfl) (by kernel_rfl) (by kernel_rfl) (fun _ _ _ h => h) (Or.inl ⟨by rfl, ?_⟩) hHeld ?_
      rotate_left
      · (intro w hSw; (try dsimp only at hSw); go_simp; (try with_reducible rfl))
      simp only [Act.put, List.setIfInBounds_toArray, List.set_cons_zero, List.set_cons_succ]
      refine take_l 3 (v := ?_) rfl (by kernel_rfl) (by kernel_rfl) (by kernel_rfl) (fun _ _ _ h => h) (Or.inl ⟨by rfl, ?_⟩) hHeld ?_
      rotate_left
      · (intro w hSw; (try dsimp only at hSw); go_simp; (try with_reducible rfl))
      simp only [Act.put, List.setIfInBounds_toArray, List.set_cons_zero, List.set_cons_succ]
      refine take_l 4 (v := ?_) rfl (by kernel_rfl) (by kernel_rfl) (by kernel_rfl) (fun _ _ _ h => h) (Or.inl ⟨by rfl, ?_⟩) hHeld ?_
      rotate_left
      · (intro w hSw; (try dsimp only at hSw); go_simp; (try with_reducible rfl))
      simp only [Act.put, List.setIfInBounds_toArray, List.set_cons_zero, List.set_cons_succ]
      refine take_l 5 (v := ?_) rfl (by kernel_rfl) (by kernel_rfl) (by kernel_rfl) (fun _ _ _ h => h) (Or.inl ⟨by rfl, ?_⟩) hHeld ?_
      rotate_left
      · (intro w hSw; (try dsimp only at hSw); go_simp; (try with_reducible rfl))
      simp only [Act.put, List.setIfInBounds_toArray, List.set_cons_zero, List.set_cons_succ]
      refine take_l 6 (v := ?_) rfl (by kernel_rfl) (by kernel_rfl) (by kernel_rfl) (fun _ _ _ h => h) (Or.inl ⟨by rfl, ?_⟩) hHeld ?_
      rotate_left
      · (intro w hSw; (try dsimp only at hSw); go_simp; (try with_reducible rfl))
      simp only [Act.put, List.setIfInBounds_toArray, List.set_cons_zero, List.set_cons_succ]
      refine take_l 7 (v := ?_) rfl (by kernel_rfl) (by kernel_rfl) (by kernel_rfl) (fun _ _ _ h => h) (Or.inl ⟨by rfl, ?_⟩) hHeld ?_
      rotate_left
      · (intro w hSw; (try dsimp only at hSw); go_simp; (try with_reducible rfl))
      simp only [Act.put, List.setIfInBounds_toArray, List.set_cons_zero, List.set_cons_succ]
      refine take_l 8 (v := ?_) rfl (by kernel_rfl) (by kernel_rfl) (by kernel_rfl) (fun _ _ _ h => h) (Or.inl ⟨by rfl, ?_⟩) hHeld ?_
      rotate_left
      · (intro w hSw; (try dsimp only at hSw); go_simp; (try with_reducible rfl))
      simp only [Act.put, List.setIfInBounds_toArray, List.set_cons_zero, List.set_cons_succ]
      refine take_l 9 (v := ?_) rfl (by kernel_rfl) (by kernel_rfl) (by kernel_rfl) (fun _ _ _ h => h) (Or.inl ⟨by rfl, ?_⟩) hHeld ?_
      rotate_left
      · (intro w hSw; (try dsimp only at hSw); go_simp; (try with_reducible rfl))
      simp only [Act.put, List.setIfInBounds_toArray, List.set_cons_zero, List.set_cons_succ]
      refine take_l 10 (v := ?_) rfl (by kernel_rfl) (by kernel_rfl) (by kernel_rfl) (fun _ _ _ h => h) (Or.inl ⟨by rfl, ?_⟩) hHeld ?_
      rotate_left
      · (intro w hSw; (try dsimp only at hSw); go_simp; (try with_reducible rfl))
      simp only [Act.put, List.setIfInBounds_toArray, List.set_cons_zero, List.set_cons_succ]
      refine take_l 11 (v := ?_) rfl (by kernel_rfl) (by kernel_rfl) (by kernel_rfl) (fun _ _ _ h => h) (Or.inl ⟨by rfl, ?_⟩) hHeld ?_
      rotate_left
      · (intro w hSw; (try dsimp only at hSw); go_simp; (try with_reducible rfl))
      simp only [Act.put, List.setIfInBounds_toArray, List.set_cons_zero, List.set_cons_succ]
      refine take_l 12 (v := ?_) rfl (by kernel_rfl) (by kernel_rfl) (by kernel_rfl) (fun _ _ _ h => h) (Or.inl ⟨by rfl, ?_⟩) hHeld ?_
      rotate_left
      · (intro w hSw; (try dsimp only at hSw); go_simp; (try with_reducible rfl))
      simp only [Act.put, List.setIfInBounds_toArray, List.set_cons_zero, List.set_cons_succ]
      refine take_l 13 (v := ?_) rfl (by kernel_rfl) (by kernel_rfl) (by kernel_rfl) (fun _ _ _ h => h) (Or.inl ⟨by rfl, ?_⟩) hHeld ?_
      rotate_left
      · (intro w hSw; (try dsimp only at hSw); go_simp; (try with_reducible rfl))
      simp only [Act.put, List.setIfInBounds_toArray, List.set_cons_zero, List.set_cons_succ]
      refine take_l 14 (v := ?_) rfl (by kernel_rfl) (by kernel_rfl) (by kernel_rfl) (fun _ _ _ h => h) (Or.inl ⟨by rfl, ?_⟩) hHeld ?_
      rotate_left
      · (intro w hSw; (try dsimp only at hSw); go_simp; (try with_reducible rfl))
      simp only [Act.put, List.setIfInBounds_toArray, List.set_cons_zero, List.set_cons_succ]
      refine take_l 15 (v := ?_) rfl (by kernel_rfl) (by kernel_rfl) (by kernel_rfl) (fun _ _ _ h => h) (Or.inl ⟨by rfl, ?_⟩) hHeld ?_
      rotate_left
      · (intro w hSw; (try dsimp only at hSw); go_simp; (try with_reducible rfl))
      simp only [Act.put, List.setIfInBounds_toArray, List.set_cons_zero, List.set_cons_succ]
      refine take_l 16 (v := ?_) rfl (by kernel_rfl) (by kernel_rfl) (by kernel_rfl) (fun _ _ _ h => h) (Or.inl ⟨by rfl, ?_⟩) hHeld ?_
      rotate_left
      · (intro w hSw; (try dsimp only at hSw); go_simp; (try with_reducible rfl))
      simp only [Act.put, List.setIfInBounds_toArray, List.set_cons_zero, List.set_cons_succ]
      refine take_l 17 (v := ?_) rfl (by kernel_rfl) (by kernel_rfl) (by kernel_rfl) (fun _ _ _ h => h) (Or.inl ⟨by rfl, ?_⟩) hHeld ?_
      rotate_left
      · (intro w hSw; (try dsimp only at hSw); go_simp; (try with_reducible rfl))
      simp only [Act.put, List.setIfInBounds_toArray, List.set_cons_zero, List.set_cons_succ]
      refine take_l 18 (v := ?_) rfl (by kernel_rfl) (by kernel_rfl) (by kernel_rfl) (fun _ _ _ h => h) (Or.inl ⟨by rfl, ?_⟩) hHeld ?_
      rotate_left
      · (intro w hSw; (try dsimp only at hSw); go_simp; (try with_reducible rfl))
      simp only [Act.put, List.setIfInBounds_toArray, List.set_cons_zero, List.set_cons_succ]
      refine take_l 19 (v := ?_) rfl (by kernel_rfl) (by kernel_rfl) (by kernel_rfl) (fun _ _ _ h => h) (Or.inl ⟨by rfl, ?_⟩) hHeld ?_
      rotate_left
      · (intro w hSw; (try dsimp only at hSw); go_simp; (try with_reducible rfl))
      simp only [Act.put, List.setIfInBounds_toArray, List.set_cons_zero, List.set_cons_succ]
      refine take_l 20 (v := ?_) rfl (by kernel_rfl) (by kernel_rfl) (by kernel_rfl) (fun _ _ _ h => h) (Or.inl ⟨by rfl, ?_⟩) hHeld ?_
      rotate_left
      · (intro w hSw; (try dsimp only at hSw); go_simp; (try with_reducible rfl))
      simp only [Act.put, List.setIfInBounds_toArray, List.set_cons_zero, List.set_cons_succ]
      refine take_l 21 (v := ?_) rfl (by kernel_rfl) (by kernel_rfl) (by kernel_rfl) (fun _ _ _ h => h) (Or.inl ⟨by rfl, ?_⟩) hHeld ?_
      rotate_left
      · (intro w hSw; (try dsimp only at hSw); go_simp; (try with_reducible rfl))
      simp only [Act.put, List.setIfInBounds_toArray, List.set_cons_zero, List.set_cons_succ]
      refine take_l 22 (v := ?_) rfl (by kernel_rfl) (by kernel_rfl) (by kernel_rfl) (fun _ _ _ h => h) (Or.inl ⟨by rfl, ?_⟩) hHeld ?_
      rotate_left
      · (intro w hSw; (try dsimp only at hSw); go_simp; (try with_reducible rfl))
      simp only [Act.put, List.setIfInBounds_toArray, List.set_cons_zero, List.set_cons_succ]
      refine take_l 23 (v := ?_) rfl (by kernel_rfl) (by kernel_rfl) (by kernel_rfl) (fun _ _ _ h => h) (Or.inl ⟨by rfl, ?_⟩) hHeld ?_
      rotate_left
      · (intro w hSw; (try dsimp only at hSw); go_simp; (try with_reducible rfl))
      simp only [Act.put, List.setIfInBounds_toArray, List.set_cons_zero, List.set_cons_succ]
      refine take_l 24 (v := ?_) rfl (by kernel_rfl) (by kernel_rfl) (by kernel_rfl) (fun _ _ _ h => h) (Or.inl ⟨by rfl, ?_⟩) hHeld ?_
      rotate_left
      · (intro w hSw; (try dsimp only at hSw); go_simp; (try with_reducible rfl))
      simp only [Act.put, List.setIfInBounds_toArray, List.set_cons_zero, List.set_cons_succ]
      refine take_l 27 (v := ?_) rfl (by kernel_rfl) (by kernel_rfl) (by kernel_rfl) (fun _ _ _ h => h) (Or.inl ⟨by rfl, ?_⟩) hHeld ?_
      rotate_left
      · (intro w hSw; (try dsimp only at hSw); go_simp; (try with_reducible rfl))
      simp only [Act.put, List.setIfInBounds_toArray, List.set_cons_zero, List.set_cons_succ]
      refine take_l 28 (v := ?_) rfl (by kernel_rfl) (by kernel_rfl) (by kernel_rfl) (fun _ _ _ h => h) (Or.inl ⟨by rfl, ?_⟩) hHeld ?_
      rotate_left
      · (intro w hSw; (try dsimp only at hSw); go_simp; (try with_reducible rfl))
      simp only [Act.put, List.setIfInBounds_toArray, List.set_cons_zero, List.set_cons_succ]
      refine take_l 29 (v := ?_) rfl (by kernel_rfl) (by kernel_rfl) (by kernel_rfl) (fun _ _ _ h => h) (Or.inl ⟨by rfl, ?_⟩) hHeld ?_
      rotate_left
      · (intro w hSw; (try dsimp only at hSw); go_simp; (try with_reducible rfl))
      simp only [Act.put, List.setIfInBounds_toArray, List.set_cons_zero, List.set_cons_succ]
      refine take_l 30 (v := ?_) rfl (by kernel_rfl) (by kernel_rfl) (by kernel_rfl) (fun _ _ _ h => h) (Or.inl ⟨by rfl, ?_⟩) hHeld ?_
      rotate_left
      · (intro w hSw; (try dsimp only at hSw); go_simp; (try with_reducible rfl))
      simp only [Act.put, List.setIfInBounds_toArray, List.set_cons_zero, List.set_cons_succ]
      refine take_l 31 (v := ?_) rfl (by kernel_rfl) (by kernel_rfl) (by kernel_rfl) (fun _ _ _ h => h) (Or.inl ⟨by rfl, ?_⟩) hHeld ?_
      rotate_left
      · (intro w hSw; (try dsimp only at hSw); go_simp; (try with_reducible rfl))
      simp only [Act.put, List.setIfInBounds_toArray, List.set_cons_zero, List.set_cons_succ]
      refine wpAnyH_ready (rs := [25]) (by kernel_rfl) (by simp) ?_
      refine AllReadyH.cons rfl (fun K hK => ?_) AllReadyH.nil
      go_simp
      go_wp2_with fail
      refine (unhide HRD W FW).mono ?_
      clear HRD
      rintro e w3 ⟨gr, rfl, mm⟩
      have f3 : Still W w3 := Fr.ofBelow mm.bel
      have hS3 : (fun w' => w'.cell? ⟨bl, 0, none⟩ = some (.slice (some ⟨xb, xo, none⟩) nl cp) ∧ w'.cell? ⟨bs, 0, none⟩ = some (ptr sb) ∧ w'.cell? ⟨bh, 0, none⟩ = some (ptr hb) ∧ w'.cell? ⟨bo, 0, none⟩ = some (.bool true) ∧ w'.cell? ⟨pg, 0, none⟩ = some (.int .i64 p0) ∧ w'.cell? ⟨xb, xo + m * 3, none⟩ = some (.int .i64 p0) ∧ w'.cell? ⟨xb, xo + m * 3 + 1, none⟩ = some (.int .i64 rk) ∧ w'.cell? ⟨xb, xo + m * 3 + 2, none⟩ = some (.string dt)) w3 := ⟨f3.cell' hHeld.1 (fun x => x), f3.cell' hHeld.2.1 (fun x => x), f3.cell' hHeld.2.2.1 (fun x => x), f3.cell' hHeld.2.2.2.1 (fun x => x), f3.cell' hHeld.2.2.2.2.1 (fun x => x), f3.cell' hHeld.2.2.2.2.2.1 (fun x => x), f3.cell' hHeld.2.2.2.2.2.2.1 (fun x => x), f3.cell' hHeld.2.2.2.2.2.2.2 (fun x => x)⟩
      have cv := conv_str w3 (some ⟨gr, 0, none⟩) r.n r.n r.bt mm.nats
      rw [(unhide HDT).2] at cv
      have F3 : Fr (fun k => k = bn ∨ k = bo) wq w3 := FW.trans (f3.mono (G := fun k => k = bn ∨ k = bo) (fun _ hk => hk.elim))
      refine hK.out _ _ hS3 (fun _ => ?_)
      clear hK K mm hHeld
      refine wpAnyH_ready (rs := [26]) (by kernel_rfl) (by simp) ?_
      refine AllReadyH.cons rfl (fun K hK => ?_) AllReadyH.nil
      go_simp
      refine hK.out _ _ hS3 (fun _ => ?_)
      clear hK K cv
      refine take_l 32 (v := ?_) rfl (by kernel_rfl) (by kernel_rfl) (by kernel_rfl) (fun _ _ _ h => h) (Or.inl ⟨by rfl, ?_⟩) hS3 ?_
      rotate_left
      · (intro w hSw; (try dsimp only at hSw); go_simp; (try with_reducible rfl))
      simp only [Act.put, List.setIfInBounds_toArray, List.set_cons_zero, List.set_cons_succ]
      refine take_l 33 (v := ?_) rfl (by kernel_rfl) (by kernel_rfl) (by kernel_rfl) (fun _ _ _ h => h) (Or.inl ⟨by rfl, ?_⟩) hS3 ?_
      rotate_left
      · (intro w hSw; (try dsimp only at hSw); go_simp; (try with_reducible rfl))
      simp only [Act.put, List.setIfInBounds_toArray, List.set_cons_zero, List.set_cons_succ]
      refine take_l 34 (v := ?_) rfl (by kernel_rfl) (by kernel_rfl) (by kernel_rfl) (fun _ _ _ h => h) (Or.inl ⟨by rfl, ?_⟩) hS3 ?_
      rotate_left
      · (intro w hSw; (try dsimp only at hSw); go_simp; (try with_reducible rfl))
      simp only [Act.put, List.setIfInBounds_toArray, List.set_cons_zero, List.set_cons_succ]
      refine take_l 35 (v := ?_) rfl (by kernel_rfl) (by kernel_rfl) (by kernel_rfl) (fun _ _ _ h => h) (Or.inl ⟨by rfl, ?_⟩) hS3 ?_
      rotate_left
      · (intro w hSw; (try dsimp only at hSw); go_simp; (try with_reducible rfl))
      simp only [Act.put, List.setIfInBounds_toArray, List.set_cons_zero, List.set_cons_succ]
      refine take_l 36 (v := ?_) rfl (by kernel_rfl) (by kernel_rfl) (by kernel_rfl) (fun _ _ _ h => h) (Or.inl ⟨by rfl, ?_⟩) hS3 ?_
      rotate_left
      · (intro w hSw; (try dsimp only at hSw); go_simp; (try with_reducible rfl))
      simp only [Act.put, List.setIfInBounds_toArray, List.set_cons_zero, List.set_cons_succ]
      refine take_l 37 (v := ?_) rfl (by kernel_rfl) (by kernel_rfl) (by kernel_rfl) (fun _ _ _ h => h) (Or.inl ⟨by rfl, ?_⟩) hS3 ?_
      rotate_left
      · (intro w hSw; (try dsimp only at hSw); go_simp; (try with_reducible rfl))
      simp only [Act.put, List.setIfInBounds_toArray, List.set_cons_zero, List.set_cons_succ]
      refine take_l 38 (v := ?_) rfl (by kernel_rfl) (by kernel_rfl) (by kernel_rfl) (fun _ _ _ h => h) (Or.inl ⟨by rfl, ?_⟩) hS3 ?_
      rotate_left
      · (intro w hSw; (try dsimp only at hSw); go_simp; (try with_reducible rfl))
      simp only [Act.put, List.setIfInBounds_toArray, List.set_cons_zero, List.set_cons_succ]
      refine take_l 39 (v := ?_) rfl (by kernel_rfl) (by kernel_rfl) (by kernel_rfl) (fun _ _ _ h => h) (Or.inl ⟨by rfl, ?_⟩) hS3 ?_
      rotate_left
      · (intro w hSw; (try dsimp only at hSw); go_simp; (try with_reducible rfl))
      simp only [Act.put, List.setIfInBounds_toArray, List.set_cons_zero, List.set_cons_succ]
      refine take_l 40 (v := ?_) rfl (by kernel_rfl) (by kernel_rfl) (by kernel_rfl) (fun _ _ _ h => h) (Or.inl ⟨by rfl, ?_⟩) hS3 ?_
      rotate_left
      · (intro w hSw; (try dsimp only at hSw); go_simp; (try with_reducible rfl))
      simp only [Act.put, List.setIfInBounds_toArray, List.set_cons_zero, List.set_cons_succ]
      refine take_l 42 (v := ?_) rfl (by kernel_rfl) (by kernel_rfl) (by kernel_rfl) (fun _ _ _ h => h) (Or.inl ⟨by rfl, ?_⟩) hS3 ?_
      rotate_left
      · (intro w hSw; (try dsimp only at hSw); go_simp; (try with_reducible rfl))
      simp only [Act.put, List.setIfInBounds_toArray, List.set_cons_zero, List.set_cons_succ]
      refine take_l 43 (v := ?_) rfl (by kernel_rfl) (by kernel_rfl) (by kernel_rfl) (fun _ _ _ h => h) (Or.inl ⟨by rfl, ?_⟩) hS3 ?_
      rotate_left
      · (intro w hSw; (try dsimp only at hSw); go_simp; (try with_reducible rfl))
      simp only [Act.put, List.setIfInBounds_toArray, List.set_cons_zero, List.set_cons_succ]
      refine take_l 44 (v := ?_) rfl (by kernel_rfl) (by kernel_rfl) (by kernel_rfl) (fun _ _ _ h => h) (Or.inl ⟨by rfl, ?_⟩) hS3 ?_
      rotate_left
      · (intro w hSw; (try dsimp only at hSw); go_simp; (try with_reducible rfl))
      simp only [Act.put, List.setIfInBounds_toArray, List.set_cons_zero, List.set_cons_succ]
      refine take_l 45 (v := ?_) rfl (by kernel_rfl) (by kernel_rfl) (by kernel_rfl) (fun _ _ _ h => h) (Or.inl ⟨by rfl, ?_⟩) hS3 ?_
      rotate_left
      · (intro w hSw; (try dsimp only at hSw); go_simp; (try with_reducible rfl))
      simp only [Act.put, List.setIfInBounds_toArray, List.set_cons_zero, List.set_cons_succ]
      refine take_l 46 (v := ?_) rfl (by kernel_rfl) (by kernel_rfl) (by kernel_rfl) (fun _ _ _ h => h) (Or.inl ⟨by rfl, ?_⟩) hS3 ?_
      rotate_left
      · (intro w hSw; (try dsimp only at hSw); go_simp; (try with_reducible rfl))
      simp only [Act.put, List.setIfInBounds_toArray, List.set_cons_zero, List.set_cons_succ]
      refine take_l 47 (v := ?_) rfl (by kernel_rfl) (by kernel_rfl) (by kernel_rfl) (fun _ _ _ h => h) (Or.inl ⟨by rfl, ?_⟩) hS3 ?_
      rotate_left
      · (intro w hSw; (try dsimp only at hSw); go_simp; (try with_reducible rfl))
      simp only [Act.put, List.setIfInBounds_toArray, List.set_cons_zero, List.set_cons_succ]
      refine wpAnyH_ready (rs := [41]) (by kernel_rfl) (by simp) ?_
      refine AllReadyH.cons rfl (fun K hK => ?_) AllReadyH.nil
      go_simp
      go_wp2_with fail
      refine (unhide HLN w3 F3).mono ?_
      clear HLN
      rintro e w5 ⟨rfl, f5⟩
      have hS5 : (fun w' => w'.cell? ⟨bl, 0, none⟩ = some (.slice (some ⟨xb, xo, none⟩) nl cp) ∧ w'.cell? ⟨bs, 0, none⟩ = some (ptr sb) ∧ w'.cell? ⟨bh, 0, none⟩ = some (ptr hb) ∧ w'.cell? ⟨bo, 0, none⟩ = some (.bool true) ∧ w'.cell? ⟨pg, 0, none⟩ = some (.int .i64 p0) ∧ w'.cell? ⟨xb, xo + m * 3, none⟩ = some (.int .i64 p0) ∧ w'.cell? ⟨xb, xo + m * 3 + 1, none⟩ = some (.int .i64 rk) ∧ w'.cell? ⟨xb, xo + m * 3 + 2, none⟩ = some (.string dt)) w5 := ⟨f5.cell' hS3.1 (fun x => x), f5.cell' hS3.2.1 (fun x => x), f5.cell' hS3.2.2.1 (fun x => x), f5.cell' hS3.2.2.2.1 (fun x => x), f5.cell' hS3.2.2.2.2.1 (fun x => x), f5.cell' hS3.2.2.2.2.2.1 (fun x => x), f5.cell' hS3.2.2.2.2.2.2.1 (fun x => x), f5.cell' hS3.2.2.2.2.2.2.2 (fun x => x)⟩
      have F5 : Fr (fun k => k = bn ∨ k = bo) wq w5 := F3.trans (f5.mono (G := fun k => k = bn ∨ k = bo) (fun _ hk => hk.elim))
      refine hK.out _ _ hS5 (fun _ => ?_)
      clear hK K hS3
      refine take_l 48 (v := ?_) rfl (by kernel_rfl) (by kernel_rfl) (by kernel_rfl) (fun _ _ _ h => h) (Or.inl ⟨by rfl, ?_⟩) hS5 ?_
      rotate_left
      · (intro w hSw; (try dsimp only at hSw); go_simp; (try with_reducible rfl))
      simp only [Act.put, List.setIfInBounds_toArray, List.set_cons_zero, List.set_cons_succ]
      refine take_l 49 (v := ?_) rfl (by kernel_rfl) (by kernel_rfl) (by kernel_rfl) (fun _ _ _ h => h) (Or.inl ⟨by rfl, ?_⟩) hS5 ?_
      rotate_left
      · (intro w hSw; (try dsimp only at hSw); go_simp; (try with_reducible rfl))
      simp only [Act.put, List.setIfInBounds_toArray, List.set_cons_zero, List.set_cons_succ]
      refine take_l 50 (v := ?_) rfl (by kernel_rfl) (by kernel_rfl) (by kernel_rfl) (fun _ _ _ h => h) (Or.inl ⟨by rfl, ?_⟩) hS5 ?_
      rotate_left
      · (intro w hSw; (try dsimp only at hSw); go_simp; (try with_reducible rfl))
      simp only [Act.put, List.setIfInBounds_toArray, List.set_cons_zero, List.set_cons_succ]
      refine take_l 51 (v := ?_) rfl (by kernel_rfl) (by kernel_rfl) (by kernel_rfl) (fun _ _ _ h => h) (Or.inl ⟨by rfl, ?_⟩) hS5 ?_
      rotate_left
      · (intro w hSw; (try dsimp only at hSw); go_simp; (try with_reducible rfl))
      simp only [Act.put, List.setIfInBounds_toArray, List.set_cons_zero, List.set_cons_succ]
      refine take_l 52 (v := ?_) rfl (by kernel_rfl) (by kernel_rfl) (by kernel_rfl) (fun _ _ _ h => h) (Or.inl ⟨by rfl, ?_⟩) hS5 ?_
      rotate_left
      · (intro w hSw; (try dsimp only at hSw); go_simp; (try with_reducible rfl))
      simp only [Act.put, List.setIfInBounds_toArray, List.set_cons_zero, List.set_cons_succ]
      refine take_l 53 (v := ?_) rfl (by kernel_rfl) (by kernel_rfl) (by kernel_rfl) (fun _ _ _ h => h) (Or.inl ⟨by rfl, ?_⟩) hS5 ?_
      rotate_left
      · (intro w hSw; (try dsimp only at hSw); go_simp; (try with_reducible rfl))
      simp only [Act.put, List.setIfInBounds_toArray, List.set_cons_zero, List.set_cons_succ]
      refine take_l 54 (v := ?_) rfl (by kernel_rfl) (by kernel_rfl) (by kernel_rfl) (fun _ _ _ h => h) (Or.inl ⟨by rfl, ?_⟩) hS5 ?_
      rotate_left
      · (intro w hSw; (try dsimp only at hSw); go_simp; (try with_reducible rfl))
      simp only [Act.put, List.setIfInBounds_toArray, List.set_cons_zero, List.set_cons_succ]
      refine take_l 55 (v := ?_) rfl (by kernel_rfl) (by kernel_rfl) (by kernel_rfl) (fun _ _ _ h => h) (Or.inl ⟨by rfl, ?_⟩) hS5 ?_
      rotate_left
      · (intro w hSw; (try dsimp only at hSw); go_simp; (try with_reducible rfl))
      simp only [Act.put, List.setIfInBounds_toArray, List.set_cons_zero, List.set_cons_succ]
      refine take_l 56 (v := ?_) rfl (by kernel_rfl) (by kernel_rfl) (by kernel_rfl) (fun _ _ _ h => h) (Or.inl ⟨by rfl, ?_⟩) hS5 ?_
      rotate_left
      · (intro w hSw; (try dsimp only at hSw); go_simp; (try with_reducible rfl))
      simp only [Act.put, List.setIfInBounds_toArray, List.set_cons_zero, List.set_cons_succ]
      refine take_l 58 (v := ?_) rfl (by kernel_rfl) (by kernel_rfl) (by kernel_rfl) (fun _ _ _ h => h) (Or.inl ⟨by rfl, ?_⟩) hS5 ?_
      rotate_left
      · (intro w hSw; (try dsimp only at hSw); go_simp; (try with_reducible rfl))
      simp only [Act.put, List.setIfInBounds_toArray, List.set_cons_zero, List.set_cons_succ]
      refine take_l 59 (v := ?_) rfl (by kernel_rfl) (by kernel_rfl) (by kernel_rfl) (fun _ _ _ h => h) (Or.inl ⟨by rfl, ?_⟩) hS5 ?_
      rotate_left
      · (intro w hSw; (try dsimp only at hSw); go_simp; (try with_reducible rfl))
      simp only [Act.put, List.setIfInBounds_toArray, List.set_cons_zero, List.set_cons_succ]
      refine take_l 60 (v := ?_) rfl (by kernel_rfl) (by kernel_rfl) (by kernel_rfl) (fun _ _ _ h => h) (Or.inl ⟨by rfl, ?_⟩) hS5 ?_
      rotate_left
      · (intro w hSw; (try dsimp only at hSw); go_simp; (try with_reducible rfl))
      simp only [Act.put, List.setIfInBounds_toArray, List.set_cons_zero, List.set_cons_succ]
      refine take_l 61 (v := ?_) rfl (by kernel_rfl) (by kernel_rfl) (by kernel_rfl) (fun _ _ _ h => h) (Or.inl ⟨by rfl, ?_⟩) hS5 ?_
      rotate_left
      · (intro w hSw; (try dsimp only at hSw); go_simp; (try with_reducible rfl))
      simp only [Act.put, List.setIfInBounds_toArray, List.set_cons_zero, List.set_cons_succ]
      refine take_l 62 (v := ?_) rfl (by kernel_rfl) (by kernel_rfl) (by kernel_rfl) (fun _ _ _ h => h) (Or.inl ⟨by rfl, ?_⟩) hS5 ?_
      rotate_left
      · (intro w hSw; (try dsimp only at hSw); go_simp; (try with_reducible rfl))
      simp only [Act.put, List.setIfInBounds_toArray, List.set_cons_zero, List.set_cons_succ]
      refine wpAnyH_ready (rs := [57]) (by kernel_rfl) (by simp) ?_
      refine AllReadyH.cons rfl (fun K hK => ?_) AllReadyH.nil
      go_simp
      go_wp2_with fail
      refine (unhide HHL w5 F5).mono ?_
      clear HHL
      rintro e w6 ⟨rfl, f6⟩
      have hS6 : (fun w' => w'.cell? ⟨bl, 0, none⟩ = some (.slice (some ⟨xb, xo, none⟩) nl cp) ∧ w'.cell? ⟨bs, 0, none⟩ = some (ptr sb) ∧ w'.cell? ⟨bh, 0, none⟩ = some (ptr hb) ∧ w'.cell? ⟨bo, 0, none⟩ = some (.bool true) ∧ w'.cell? ⟨pg, 0, none⟩ = some (.int .i64 p0) ∧ w'.cell? ⟨xb, xo + m * 3, none⟩ = some (.int .i64 p0) ∧ w'.cell? ⟨xb, xo + m * 3 + 1, none⟩ = some (.int .i64 rk) ∧ w'.cell? ⟨xb, xo + m * 3 + 2, none⟩ = some (.string dt)) w6 := ⟨f6.cell' hS5.1 (fun x => x), f6.cell' hS5.2.1 (fun x => x), f6.cell' hS5.2.2.1 (fun x => x), f6.cell' hS5.2.2.2.1 (fun x => x), f6.cell' hS5.2.2.2.2.1 (fun x => x), f6.cell' hS5.2.2.2.2.2.1 (fun x => x), f6.cell' hS5.2.2.2.2.2.2.1 (fun x => x), f6.cell' hS5.2.2.2.2.2.2.2 (fun x => x)⟩
      have F6 : Fr (fun k => k = bn ∨ k = bo) wq w6 := F5.trans (f6.mono (G := fun k => k = bn ∨ k = bo) (fun _ hk => hk.elim))
      refine hK.out _ _ hS6 (fun _ => ?_)
      clear hK K hS5
      refine take_l 63 (v := ?_) rfl (by kernel_rfl) (by kernel_rfl) (by kernel_rfl) (fun _ _ _ h => h) (Or.inl ⟨by rfl, ?_⟩) hS6 ?_
      rotate_left
      · (intro w hSw; (try dsimp only at hSw); go_simp; (try with_reducible rfl))
      simp only [Act.put, List.setIfInBounds_toArray, List.set_cons_zero, List.set_cons_succ]
      refine take_l 64 (v := ?_) rfl (by kernel_rfl) (by kernel_rfl) (by kernel_rfl) (fun _ _ _ h => h) (Or.inl ⟨by rfl, ?_⟩) hS6 ?_
      rotate_left
      · (intro w hSw; (try dsimp only at hSw); go_simp; (try with_reducible rfl))
      simp only [Act.put, List.setIfInBounds_toArray, List.set_cons_zero, List.set_cons_succ]
      have f46 : Still W4 w6 := ((fW.trans' f3 (fun _ x => x.elim)).trans' f5 (fun _ x => x.elim)).trans' f6 (fun _ x => x.elim)
      have B6n := (unhide H4).1.kept f46 (fun x => x)
      have B6o := (unhide H4).2.1.kept f46 (fun x => x)
      have z6 := B6o.z; have c6 := B6o.c
      have H6 := hide (And.intro B6n B6o)
      clear f46 B6n B6o
      refine wpAnyH_ready (rs := [65]) (by kernel_rfl) (by simp) ?_
      refine AllReadyH.cons rfl (fun K hK => ?_) AllReadyH.nil
      go_simp
      obtain ⟨W7, hW7⟩ : ∃ W7, w6.setCell ⟨bo, 0, none⟩ (.bool true) = W7 := ⟨_, rfl⟩
      have f7 : Fr (fun k => k = bo) w6 W7 := hW7 ▸ Fr.box w6 bo _
      have B7o : Box W7 bo (.bool true) := hW7 ▸ (unhide H6).2.set _
      have B7n := (unhide H6).1.kept f7 (show ¬ bn = bo from ne.2.2.2.2.2.2.1)
      have nfo : ∀ k, k ≠ bo → ¬ (fun k => k = bo) k := fun k h e => h e
      rw [hW7]
      have hS7 : (fun w' => w'.cell? ⟨bl, 0, none⟩ = some (.slice (some ⟨xb, xo, none⟩) nl cp) ∧ w'.cell? ⟨bs, 0, none⟩ = some (ptr sb) ∧ w'.cell? ⟨bh, 0, none⟩ = some (ptr hb) ∧ w'.cell? ⟨bo, 0, none⟩ = some (.bool true) ∧ w'.cell? ⟨pg, 0, none⟩ = some (.int .i64 p0) ∧ w'.cell? ⟨xb, xo + m * 3, none⟩ = some (.int .i64 p0) ∧ w'.cell? ⟨xb, xo + m * 3 + 1, none⟩ = some (.int .i64 rk) ∧ w'.cell? ⟨xb, xo + m * 3 + 2, none⟩ = some (.string dt)) W7 := ⟨f7.cell' hS6.1 (nfo _ ne.2.1), f7.cell' hS6.2.1 (nfo _ ne.2.2.2.1), f7.cell' hS6.2.2.1 (nfo _ ne.2.2.2.2.2.1), B7o.c, f7.cell' hS6.2.2.2.2.1 (nfo _ pgn.2), f7.cell' hS6.2.2.2.2.2.1 (nfo _ xn.2), f7.cell' hS6.2.2.2.2.2.2.1 (nfo _ xn.2), f7.cell' hS6.2.2.2.2.2.2.2 (nfo _ xn.2)⟩
      refine hK.out _ _ hS7 (fun _ => ?_)
      have HE := hide (And.intro (F6.trans (f7.mono (G := fun k => k = bn ∨ k = bo) (fun k hk => .inl (.inr hk)))) (And.intro B7n B7o))
      clear hK K hS6 hS7 hW7 f7 B7o B7n z6 c6
      refine wpAnyH_done (by kernel_rfl) ?_ _
      go_wp2
      obtain ⟨F7, B7n, B7o⟩ := unhide HE
      obtain ⟨fr, bxn, bxo, hal, hle⟩ := unhide HB
      refine ⟨⟨m + 1, by omega, by go_num, fr.trans F7, ?_, B7o⟩, by simp [intOf]; omega⟩
      rw [hal, unhide HAL, unhide HUL, show ((Al + (ul + 1) : Nat) : Int) = (Al : Int) + ((ul : Int) + 1) by omega]
      exact B7n
    · have em : m = nl := by omega
      subst em
      have hlt' : ((m : Int) < m) = False := by simp
      have HB := hide (And.intro fr (And.intro bxn bxo))
      clear fr bxn bxo hp R rl Bn Bo nt few
      go_wp2
      go_end0
      obtain ⟨fr, bxn, bxo⟩ := unhide HB
      rw [List.take_of_length_le (by rw [unhide HNL]; exact Nat.le_refl _)] at bxn
      exact ⟨rfl, fr, bxn, bxo⟩
end
end
end Go.Proofs.YtflnaiijdpihcaaGreatDoor
