/- Joined: Sa Sc Sd. -/
import Derived.Test.YtdgobaknbjlahaaGreatDoorXRo
import Derived.Test.YtdgobaknbjlahaaGreatDoorXRh
import Derived.Test.YtdgobaknbjlahaaGreatDoorXRl
import Derived.Test.YtdgobaknbjlahaaGreatDoorGLq
import Derived.Lib.SlBytesConst
namespace Go.Proofs.YtdgobaknbjlahaaGreatDoor
open Go.RowKit

section
theorem Fr.box (w : World) (r : Nat) (v : Value) : Fr (fun k => k = r) w (w.setCell ⟨r, 0, none⟩ v) := (Fr.refl (fun k => k = r) w).setCell (.inl rfl) v

theorem chain_many {nu sz : Nat} {f : Nat → Int} : ∀ {fr : Bool} {n : Nat} {us : List Nat}, Chain nu sz f fr n us → n ≤ 504 * us.length
  | _, _, [], h => h.elim
  | fr, n, u :: us, h => by
    obtain ⟨pa, _, h2⟩ := h
    have hb : n ≤ bhN fr n + 504 := by unfold bhN ahd; split <;> omega
    rcases h2 with e | h2
    · subst e
      have := pa.nx.1 (by simp [nxq])
      simp; omega
    · have := chain_many h2
      simp only [List.length_cons]; omega

/-- What was made and dropped has left no piece. -/
theorem Mde.gone {nu : Nat} {f g g' : Nat → Int} {u : Nat} {us : List Nat} (m : Mde nu f (u :: us) g) (d : Dropped nu g u us g') : ask nu g' = ask nu f := by
  obtain ⟨xs, f2, t, e, _, _⟩ := m.tk
  rw [d.ak, e]
  funext v
  unfold clr
  by_cases h : v ∈ u :: us
  · rw [if_pos h]; exact (t.was v h).symm
  · rw [if_neg h]; exact t.ak v h

section
variable {nu sz : Nat} {w w' w0 : World} {hb sb b bs bh bb ba bo bn bk bg : Nat} {T : Tay} {A : Ab} {P : List (Int × Int)} {v : Value}

set_option maxHeartbeats 1000000 in
theorem r_big {a : Option Addr} {n cp : Nat} (n4 : 4096 < n) (w : World) : Calls Tryz.prog 9 #[ptr sb, ptr hb, .slice a n cp] w fun e w' => e = .panicked (errnoQ 5) ∧ w' = w := by
  have big : ((4096 : Int) < n) = True := by simp; omega
  go_enter Tryz.func9, Tryz.ntmps9
  go_wp2
  exact ⟨rfl, rfl, rfl⟩

/-- A record was made, and its place told by a variable. -/
def MadeAt (nu sz : Nat) (f : Nat → Int) (A : Ab) (n : Nat) (bt : Nat → Nat) (ba : Nat) (P' : List (Int × Int)) (w' : World) : Prop := ∃ u us, Box w' ba (.int .i64 (fi nu + 8 * u : Nat)) ∧ RecS nu sz (says P' A) u us n 1 (wordN bt n) ∧ Mde nu f (u :: us) (says P' A)

set_option maxRecDepth 20000 in
set_option maxHeartbeats 2000000 in
theorem szC1 (h : Hp nu sz w hb sb b T A P) (s : HpS nu (says P A)) {a : Option Addr} {n cp : Nat} {bt : Nat → Nat} (hN : Nats .u8 w a n bt) (hb8 : ∀ i, i < n → bt i < 256) (hm : P.length + 2000 ≤ 6144) (na : ∀ x, a = some x → ¬ tfoot sb b T x.block)
    (room : ∀ us xs f, Takn nu (says P A) us xs f → (∀ x ∈ xs, 1 ≤ x ∧ x ≤ 64) → us.length < 10 → ∃ j c, 3 ≤ j ∧ j < 7 ∧ fre nu f j c = true)
    (cs : w.cell? ⟨bs, 0, none⟩ = some (ptr sb)) (ch : w.cell? ⟨bh, 0, none⟩ = some (ptr hb)) (cb : w.cell? ⟨bb, 0, none⟩ = some (.slice a n cp)) (ca : Box w ba v) (nba : ¬ tfoot sb b T ba) :
    Calls Tryz.prog 14 #[ptr bs, ptr bh, ptr bb, ptr ba] w fun e w' => (n ≤ 4096 ∧ e = .returned (.tuple #[]) ∧ ∃ T' P', OnxX (fun k => k = ba) w sb b T w' T' sz A P' false ∧ MadeAt nu sz (says P A) A n bt ba P' w') ∨ (4096 < n ∧ e = .panicked (errnoQ 5) ∧ w' = w) := by
  by_cases n4 : n ≤ 4096
  · have MK := r_make (cp := cp) h s hN hb8 n4 hm na room
    have lt := ca.lt
    have HMK := hide MK; have HCA := hide ca
    clear MK h s hN hb8 na room ca
    go_enter Tryz.func14, Tryz.ntmps14
    go_wp2_with fail
    refine (unhide HMK).mono ?_
    clear HMK
    rintro e w1 ⟨u, us, g, rfl, t, rc, md⟩
    obtain ⟨T', P', o, eg, _⟩ := id t
    have bx : Box w1 ba v := (unhide HCA).kept o.fr nba
    have c := bx.c; have z := bx.z
    have HX := hide (And.intro o (And.intro eg (And.intro rc (And.intro md bx))))
    clear t o eg rc md bx
    go_wp2
    go_end0
    obtain ⟨o, eg, rc, md, bx⟩ := unhide HX
    subst eg
    exact .inl ⟨n4, rfl, T', P', (OnxX.of o).var (Fr.box w1 ba _) (fun k hk => hk) (fun k hk => by have hk : k = ba := hk; subst hk; exact o.other lt nba), u, us, bx.set _, rc, md⟩
  · have MK := r_big (sb := sb) (hb := hb) (a := a) (cp := cp) (show 4096 < n by omega) w
    have HMK := hide MK
    clear MK h s hN hb8 na room ca
    go_enter Tryz.func14, Tryz.ntmps14
    go_wp2_with fail
    refine (unhide HMK).mono ?_
    rintro e w1 ⟨rfl, hh⟩
    exact ⟨rfl, .inr ⟨by omega, rfl, hh⟩⟩
end
end

section
section
variable {nu sz : Nat} {w w' w0 : World} {hb sb b bs bh bb ba bo bn bk bg : Nat} {T : Tay} {A : Ab} {P : List (Int × Int)} {v v1 v2 v3 : Value}

/-- Two bytes. -/
def hiB : Nat → Nat := fun i => if i = 0 then 104 else 105

/-- A record was made and dropped. -/
def MadeGone (nu : Nat) (f g' : Nat → Int) : Prop := ∃ g u us, Mde nu f (u :: us) g ∧ Dropped nu g u us g'

set_option maxRecDepth 20000 in
set_option maxHeartbeats 4000000 in
theorem awC10 (h : Hp nu sz w hb sb b T A P) (s : HpS nu (says P A)) (hm : P.length + 2300 ≤ 6144)
    (room : ∀ us xs f, Takn nu (says P A) us xs f → (∀ x ∈ xs, 1 ≤ x ∧ x ≤ 64) → us.length < 10 → ∃ j c, 3 ≤ j ∧ j < 7 ∧ fre nu f j c = true)
    (cs : w.cell? ⟨bs, 0, none⟩ = some (ptr sb)) (ch : w.cell? ⟨bh, 0, none⟩ = some (ptr hb)) (Bn : Box w bn v1) (Bk : Box w bk v2) (Bg : Box w bg v3) (nt : ∀ k, k = bs ∨ k = bh ∨ k = bn ∨ k = bk ∨ k = bg → ¬ tfoot sb b T k)
    (ne : bs ≠ bn ∧ bs ≠ bk ∧ bh ≠ bn ∧ bh ≠ bk ∧ bn ≠ bk ∧ bn ≠ bg ∧ bk ≠ bg ∧ hb ≠ bn ∧ hb ≠ bk ∧ hb ≠ bg ∧ 0 ≠ bn ∧ 0 ≠ bk ∧ 0 ≠ bg) :
    Calls Tryz.prog 21 #[ptr bs, ptr bh, ptr bn, ptr bk, ptr bg] w fun e w' => e = .returned (.tuple #[]) ∧ ∃ T' P', OnxX (fun k => k = bn ∨ k = bk ∨ k = bg) w sb b T w' T' sz A P' false ∧ Box w' bn (.int .i64 2) ∧ Box w' bk (.int .i64 1) ∧ Box w' bg (.bool true) ∧ HpS nu (says P' A) ∧ MadeGone nu (says P A) (says P' A) := by
  obtain ⟨W1, hW1⟩ : ∃ W1, w.alloc (.cells #[.int .u8 104, .int .u8 105] 5 (2, 3)) = W1 := ⟨_, rfl⟩
  have f1 : Still w W1 := hW1 ▸ (Fr.refl _ w).alloc _
  have o1 : W1.heap[w.heap.size]? = some (.cells #[.int .u8 104, .int .u8 105] 5 (2, 3)) := hW1 ▸ heap_alloc_new w _
  have hN : Nats .u8 W1 (some ⟨w.heap.size, 0, none⟩) 2 hiB := fun i hi => by
    refine ⟨_, _, rfl, ?_⟩
    rcases (show i = 0 ∨ i = 1 by omega) with rfl | rfl
    · exact cell_of_obj o1 0
    · exact cell_of_obj o1 1
  have MK := r_make (cp := 2) (h.still f1) s hN (fun i _ => by unfold hiB; split <;> omega) (by omega) (by omega) (fun x hx => by
    injection hx with hx
    rw [← hx]
    exact fun y => by have := h.st.lt _ y; simp at this) room
  have lbs : bs < w.heap.size := World.block_lt_of_cell? _ _ cs
  have lbh : bh < w.heap.size := World.block_lt_of_cell? _ _ ch
  have lbn := Bn.lt; have lbk := Bk.lt; have lbg := Bg.lt
  have HMK := hide MK; have HX := hide (And.intro h (And.intro hW1 (And.intro f1 (And.intro cs ch)))); have HB := hide (And.intro Bn (And.intro Bk Bg)); have HNT := @hide _ nt
  have HHM := hide hm
  clear MK h s hm room hN o1 f1 hW1 Bn Bk Bg nt
  go_enter Tryz.func21, Tryz.ntmps21
  have cv : (convert 30 30 (.slice (some ⟨w.heap.size, 0, none⟩) 2 2)).run Tryz.prog (w.alloc (.cells #[.int .u8 104, .int .u8 105] 5)) = .ok (.slice (some ⟨w.heap.size, 0, none⟩) 2 2) (w.alloc (.cells #[.int .u8 104, .int .u8 105] 5 (2, 3))) := Lib.run_convert_bytes_const w 30 5 #[.int .u8 104, .int .u8 105] 2 2 Tryz.underlying30 Tryz.underlying5
  go_wp2_with fail
  rw [(unhide HX).2.1]
  refine (unhide HMK).mono ?_
  clear HMK
  rintro e w2 ⟨u, us, g, rfl, t2, rc, md⟩
  obtain ⟨T2, P2, o2, e2, l2⟩ := t2
  subst e2
  obtain ⟨h, hW1, f1, cs, ch⟩ := unhide HX
  obtain ⟨Bn, Bk, Bg⟩ := unhide HB
  have lW1 : w.heap.size < W1.heap.size := by rw [← hW1]; simp
  have nt2 : ∀ k, k = bs ∨ k = bh ∨ k = bn ∨ k = bk ∨ k = bg → ¬ tfoot sb b T2 k := fun k hk => o2.other (by rcases hk with rfl | rfl | rfl | rfl | rfl <;> omega) (unhide HNT k hk)
  have h2 := (h.still f1).call o2
  have md2 := md.st
  have cs2 : w2.cell? ⟨bs, 0, none⟩ = some (ptr sb) := o2.fr.cell' (f1.cell' cs (fun x => x)) (unhide HNT bs (by simp))
  have ch2 : w2.cell? ⟨bh, 0, none⟩ = some (ptr hb) := o2.fr.cell' (f1.cell' ch (fun x => x)) (unhide HNT bh (by simp))
  have Bn2 : Box w2 bn v1 := (Bn.kept f1 (fun x => x)).kept o2.fr (unhide HNT bn (by simp))
  have Bk2 : Box w2 bk v2 := (Bk.kept f1 (fun x => x)).kept o2.fr (unhide HNT bk (by simp))
  have Bg2 : Box w2 bg v3 := (Bg.kept f1 (fun x => x)).kept o2.fr (unhide HNT bg (by simp))
  have tu : ∀ w1, Fr (fun k => k = bn ∨ k = bk) w2 w1 → Hp nu sz w1 hb sb b T2 A P2 := fun w1 f => h2.turn f (fun k hk => nt2 k (by rcases hk with rfl | rfl <;> simp)) (by omega) (by omega)
  have LN : ∀ w1, Fr (fun k => k = bn ∨ k = bk) w2 w1 → Calls Tryz.prog 22 #[ptr sb, .int .i64 (fi nu + 8 * u : Nat)] w1 fun e w' => e = .returned (.int .i64 2) ∧ Still w1 w' := fun w1 f => r_len (tu w1 f) rc
  have HL : ∀ w1, Fr (fun k => k = bn ∨ k = bk) w2 w1 → Calls Tryz.prog 23 #[ptr sb, .int .i64 (fi nu + 8 * u : Nat)] w1 fun e w' => e = .returned (.int .i64 1) ∧ Still w1 w' := fun w1 f => r_held (tu w1 f) rc
  have DR : ∀ w1, Fr (fun k => k = bn ∨ k = bk) w2 w1 → Calls Tryz.prog 10 #[ptr sb, ptr hb, .int .i64 (fi nu + 8 * u : Nat)] w1 _ := fun w1 f => r_drop1 (tu w1 f) md2 (by have := unhide HHM; omega) rc
  have o02 : Onx w sb b T w2 T2 sz A P2 false := o2.after f1
  have ok2 : OnxX (fun k => k = bn ∨ k = bk ∨ k = bg) w sb b T w2 T2 sz A P2 false := OnxX.of o02
  have HLN := @hide _ LN; have HHL := @hide _ HL; have HDR := @hide _ DR
  have HY := hide (And.intro ok2 (And.intro md nt2)); have HB2 := hide (And.intro Bn2 (And.intro Bk2 (And.intro Bg2 (And.intro cs2 ch2))))
  have lz := o2.fr.size
  have HLZ := hide (show w.heap.size ≤ w2.heap.size by omega)
  clear LN HL DR h hW1 f1 cs ch Bn Bk Bg lW1 nt2 h2 md2 cs2 ch2 Bn2 Bk2 Bg2 tu o02 ok2 o2 md rc HX HB HNT cv lz
  obtain ⟨p0, hp0⟩ : ∃ p0 : Int, ((fi nu + 8 * u : Nat) : Int) = p0 := ⟨_, rfl⟩
  simp only [hp0] at HLN HHL HDR ⊢
  clear hp0
  go_upto_region 1 with fail
  obtain ⟨W, hW⟩ : ∃ W, w2.drew = W := ⟨_, rfl⟩
  have fW : Still w2 W := hW ▸ (Fr.refl _ w2).drewN 1
  have FW : Fr (fun k => k = bn ∨ k = bk) w2 W := fW.mono (G := fun k => k = bn ∨ k = bk) (fun _ hk => hk.elim)
  refine wp_region_held_drew (S := fun w' => w'.cell? ⟨bs, 0, none⟩ = some (ptr sb) ∧ Fr (fun k => k = bn ∨ k = bk) w2 w') (by kernel_rfl) ?_ (fun hHeld => ?_)
  · rw [hW]; exact ⟨fW.cell' (unhide HB2).2.2.2.1 (fun x => x), FW⟩
  rw [hW] at hHeld ⊢
  clear hW FW
  refine take_l 0 (v := ?_) rfl (by kernel_rfl) (by kernel_rfl) (by kernel_rfl) (fun _ _ _ h => h) (Or.inl ⟨by rfl, ?_⟩) hHeld ?_
  rotate_left
  · (intro w hSw; (try dsimp only at hSw); go_simp; (try with_reducible rfl))
  simp only [Act.put, List.setIfInBounds_toArray, List.set_cons_zero, List.set_cons_succ]
  refine take_l 1 (v := ?_) rfl (by kernel_rfl) (by kernel_rfl) (by kernel_rfl) (fun _ _ _ h => h) (Or.inl ⟨by rfl, ?_⟩) hHeld ?_
  rotate_left
  · (intro w hSw; (try dsimp only at hSw); go_simp; (try with_reducible rfl))
  simp only [Act.put, List.setIfInBounds_toArray, List.set_cons_zero, List.set_cons_succ]
  refine take_l 3 (v := ?_) rfl (by kernel_rfl) (by kernel_rfl) (by kernel_rfl) (fun _ _ _ h => h) (Or.inl ⟨by rfl, ?_⟩) hHeld ?_
  rotate_left
  · (intro w hSw; (try dsimp only at hSw); go_simp; (try with_reducible rfl))
  simp only [Act.put, List.setIfInBounds_toArray, List.set_cons_zero, List.set_cons_succ]
  refine take_l 4 (v := ?_) rfl (by kernel_rfl) (by kernel_rfl) (by kernel_rfl) (fun _ _ _ h => h) (Or.inl ⟨by rfl, ?_⟩) hHeld ?_
  rotate_left
  · (intro w hSw; (try dsimp only at hSw); go_simp; (try with_reducible rfl))
  simp only [Act.put, List.setIfInBounds_toArray, List.set_cons_zero, List.set_cons_succ]
  refine wpAnyH_ready (rs := [2]) (by kernel_rfl) (by simp) ?_
  refine AllReadyH.cons rfl (fun K hK => ?_) AllReadyH.nil
  go_simp
  go_wp2_with fail
  refine (unhide HLN W hHeld.2).mono ?_
  rintro e w3 ⟨rfl, f3⟩
  have hS3 : w3.cell? ⟨bs, 0, none⟩ = some (ptr sb) ∧ Fr (fun k => k = bn ∨ k = bk) w2 w3 := ⟨f3.cell' hHeld.1 (fun x => x), hHeld.2.trans (f3.mono (G := fun k => k = bn ∨ k = bk) (fun _ hk => hk.elim))⟩
  refine hK.out _ _ hS3 (fun _ => ?_)
  clear hK K
  refine wpAnyH_ready (rs := [5]) (by kernel_rfl) (by simp) ?_
  refine AllReadyH.cons rfl (fun K hK => ?_) AllReadyH.nil
  go_simp
  go_wp2_with fail
  refine (unhide HHL w3 hS3.2).mono ?_
  rintro e w4 ⟨rfl, f4⟩
  have hS4 : w4.cell? ⟨bs, 0, none⟩ = some (ptr sb) ∧ Fr (fun k => k = bn ∨ k = bk) w2 w4 := ⟨f4.cell' hS3.1 (fun x => x), hS3.2.trans (f4.mono (G := fun k => k = bn ∨ k = bk) (fun _ hk => hk.elim))⟩
  refine hK.out _ _ hS4 (fun _ => ?_)
  clear hK K
  clear HLN HHL hS3 hHeld
  have f24 : Still w2 w4 := (fW.trans' f3 (fun _ x => x.elim)).trans' f4 (fun _ x => x.elim)
  obtain ⟨Bn2, Bk2, Bg2, cs2, ch2⟩ := unhide HB2
  have Bn4 := Bn2.kept f24 (fun x => x); have Bk4 := Bk2.kept f24 (fun x => x); have Bg4 := Bg2.kept f24 (fun x => x)
  have ch4 := f24.cell' ch2 (fun x => x)
  have c4 := Bn4.c; have z4 := Bn4.z
  have HB4 := hide (And.intro Bn4 (And.intro Bk4 Bg4))
  clear Bn2 Bk2 Bg2 cs2 ch2 Bn4 Bk4 Bg4 fW f3 f4
  refine wpAnyH_ready (rs := [6]) (by kernel_rfl) (by simp) ?_
  refine AllReadyH.cons rfl (fun K hK => ?_) AllReadyH.nil
  go_simp
  obtain ⟨W5, hW5⟩ : ∃ W5, w4.setCell ⟨bn, 0, none⟩ (.int .i64 2) = W5 := ⟨_, rfl⟩
  have f5 : Fr (fun k => k = bn) w4 W5 := hW5 ▸ Fr.box w4 bn _
  have Bn5 : Box W5 bn (.int .i64 2) := hW5 ▸ (unhide HB4).1.set _
  have Bk5 : Box W5 bk v2 := (unhide HB4).2.1.kept f5 (fun e => ne.2.2.2.2.1 e.symm)
  have Bg5 : Box W5 bg v3 := (unhide HB4).2.2.kept f5 (fun e => ne.2.2.2.2.2.1 e.symm)
  have ch5 := f5.cell' ch4 ne.2.2.1
  have hS5 : W5.cell? ⟨bs, 0, none⟩ = some (ptr sb) ∧ Fr (fun k => k = bn ∨ k = bk) w2 W5 := ⟨f5.cell' hS4.1 ne.1, hS4.2.trans (f5.mono (G := fun k => k = bn ∨ k = bk) (fun _ hk => .inl (.inl hk)))⟩
  have c5 := Bk5.c; have z5 := Bk5.z
  rw [hW5]
  have HB5 := hide (And.intro Bn5 (And.intro Bk5 Bg5))
  refine hK.out _ _ hS5 (fun _ => ?_)
  clear hK K hW5 f5 Bn5 Bk5 Bg5 hS4 ch4 c4 z4
  refine wpAnyH_ready (rs := [7]) (by kernel_rfl) (by simp) ?_
  refine AllReadyH.cons rfl (fun K hK => ?_) AllReadyH.nil
  go_simp
  obtain ⟨W6, hW6⟩ : ∃ W6, W5.setCell ⟨bk, 0, none⟩ (.int .i64 1) = W6 := ⟨_, rfl⟩
  have f6 : Fr (fun k => k = bk) W5 W6 := hW6 ▸ Fr.box W5 bk _
  have Bk6 : Box W6 bk (.int .i64 1) := hW6 ▸ (unhide HB5).2.1.set _
  have Bn6 : Box W6 bn (.int .i64 2) := (unhide HB5).1.kept f6 ne.2.2.2.2.1
  have Bg6 : Box W6 bg v3 := (unhide HB5).2.2.kept f6 (fun e => ne.2.2.2.2.2.2.1 e.symm)
  have ch6 := f6.cell' ch5 ne.2.2.2.1
  have hS6 : W6.cell? ⟨bs, 0, none⟩ = some (ptr sb) ∧ Fr (fun k => k = bn ∨ k = bk) w2 W6 := ⟨f6.cell' hS5.1 ne.2.1, hS5.2.trans (f6.mono (G := fun k => k = bn ∨ k = bk) (fun _ hk => .inl (.inr hk)))⟩
  rw [hW6]
  refine hK.out _ _ hS6 (fun _ => ?_)
  obtain ⟨cs6, F6⟩ := hS6
  have DR6 := hide (unhide HDR W6 F6)
  have HB6 := hide (And.intro Bn6 (And.intro Bk6 (And.intro Bg6 F6)))
  clear hK K hW6 f6 Bn6 Bk6 Bg6 hS5 ch5 c5 z5 HDR F6
  refine wpAnyH_done (by kernel_rfl) ?_ _
  go_wp2_with fail
  refine (unhide DR6).mono ?_
  clear DR6
  rintro e w7 ⟨rfl, g', t7, dr⟩
  obtain ⟨Bn6, Bk6, Bg6, F6⟩ := unhide HB6
  obtain ⟨ok2, md, nt2⟩ := unhide HY
  obtain ⟨T7, P7, o7, e7, _⟩ := id t7
  have Bn7 : Box w7 bn (.int .i64 2) := Bn6.kept o7.fr (nt2 bn (by simp))
  have Bk7 : Box w7 bk (.int .i64 1) := Bk6.kept o7.fr (nt2 bk (by simp))
  have Bg7 : Box w7 bg v3 := Bg6.kept o7.fr (nt2 bg (by simp))
  have c7 := Bg7.c; have z7 := Bg7.z
  have lg6 := Bg6.lt
  have HX := hide (And.intro o7 (And.intro e7 (And.intro dr (And.intro Bn7 (And.intro Bk7 (And.intro Bg7 (And.intro F6 (And.intro ok2 (And.intro md nt2)))))))))
  clear t7 dr o7 e7 Bn7 Bk7 Bg7 F6 ok2 md nt2 Bn6 Bk6 Bg6 HY HB6 cs6 ch6
  go_wp2
  go_end0
  obtain ⟨o7, e7, dr, Bn7, Bk7, Bg7, F6, ok2, md, nt2⟩ := unhide HX
  subst e7
  have o6 := ok2.var F6 (fun k hk => hk.elim .inl (fun x => .inr (.inl x))) (fun k hk => nt2 k (by rcases hk with rfl | rfl <;> simp))
  have fb := Fr.box w7 bg (.bool true)
  refine ⟨rfl, T7, P7, (o6.trans o7).var fb (fun k hk => .inr (.inr hk)) (fun k hk => by have hk : k = bg := hk; subst hk; exact o7.other lg6 (nt2 _ (by simp))), Bn7.kept fb ne.2.2.2.2.2.1, Bk7.kept fb ne.2.2.2.2.2.2.1, Bg7.set _, dr.st, _, u, us, md, dr⟩
end
end

section
/-- Where nothing is taken ten pieces have room. -/
theorem NewH.room {g : Nat → Int} (n : NewH 478 g) : ∀ us xs f, Takn 478 g us xs f → (∀ x ∈ xs, 1 ≤ x ∧ x ≤ 64) → us.length < 10 → ∃ j c, 3 ≤ j ∧ j < 7 ∧ fre 478 f j c = true := fun us xs f t hx hl =>
  t.room n.st hx (fun u => by rw [n.ak]; exact Nat.zero_le _) (by rw [n.ak, cnt_none]; omega)

theorem HpS.free0 {g : Nat → Int} (s : HpS 478 g) (e : ask 478 g = fun _ => 0) : g 1 = ((3824 : Nat) : Int) := by rw [s.fr, e, inP_none]

def AwR (f : Nat → Int) (A : Ab) (bn bk bg : Nat) (P' : List (Int × Int)) (w' : World) : Prop := Box w' bn (.int .i64 2) ∧ Box w' bk (.int .i64 1) ∧ Box w' bg (.bool true) ∧ HpS 478 (says P' A) ∧ MadeGone 478 f (says P' A)
theorem AwR_stays (f : Nat → Int) (A : Ab) (bn bk bg : Nat) : Stays (fun k => k = bn ∨ k = bk ∨ k = bg) (fun h P' w' => h = .well ∧ AwR f A bn bk bg P' w') := by
  rintro h P w w' F ⟨q, b1, b2, b3, t⟩ hf hn
  exact ⟨q, b1.kept hf (hn bn (.inl rfl)), b2.kept hf (hn bk (.inr (.inl rfl))), b3.kept hf (hn bg (.inr (.inr rfl))), t⟩

set_option maxRecDepth 20000 in
set_option maxHeartbeats 4000000 in
theorem l10_awake (w : World) (tab : TabL w) : Calls Tryz.prog 6 #[] w fun e w' => e = .returned (.bool true) ∧ Still w w' := by
  have K : Calls Tryz.prog 5 #[.int .i64 16384] w _ := l8_open geo16 (N := 2048) (by omega) w tab
  have h1 := eq_nil_heap
  have h2 := mf
  have HK := hide K
  clear K tab
  go_enter Tryz.func6, Tryz.ntmps6
  go_wp2_with fail
  refine (unhide HK).mono ?_
  clear HK
  rintro e w1 ⟨b, sb, hb, T, A, base, rfl, hc, nw⟩
  obtain ⟨W1, hW1⟩ : ∃ W1, w1.alloc (.cells #[ptr sb] 24) = W1 := ⟨_, rfl⟩
  obtain ⟨W2, hW2⟩ : ∃ W2, W1.alloc (.cells #[ptr hb] 25) = W2 := ⟨_, rfl⟩
  obtain ⟨W3, hW3⟩ : ∃ W3, W2.alloc (.cells #[.bool false] 4) = W3 := ⟨_, rfl⟩
  obtain ⟨W4, hW4⟩ : ∃ W4, W3.alloc (.cells #[.int .i64 0] 3) = W4 := ⟨_, rfl⟩
  obtain ⟨W5, hW5⟩ : ∃ W5, W4.alloc (.cells #[.int .i64 0] 3) = W5 := ⟨_, rfl⟩
  obtain ⟨n1, hn1⟩ : ∃ n1, w1.heap.size = n1 := ⟨_, rfl⟩
  have z1 : W1.heap.size = n1 + 1 := by rw [← hW1]; simp [hn1]
  have z2 : W2.heap.size = n1 + 2 := by rw [← hW2]; simp; omega
  have z3 : W3.heap.size = n1 + 3 := by rw [← hW3]; simp; omega
  have z4 : W4.heap.size = n1 + 4 := by rw [← hW4]; simp; omega
  have f12 : Still W1 W2 := hW2 ▸ (Fr.refl _ W1).alloc _
  have f23 : Still W2 W3 := hW3 ▸ (Fr.refl _ W2).alloc _
  have f34 : Still W3 W4 := hW4 ▸ (Fr.refl _ W3).alloc _
  have f45 : Still W4 W5 := hW5 ▸ (Fr.refl _ W4).alloc _
  have f25 : Still W2 W5 := (f23.trans' f34 (fun _ x => x.elim)).trans' f45 (fun _ x => x.elim)
  have hc1 := hc.more (.cells #[ptr sb] 24)
  rw [hW1, hn1] at hc1
  have hc2 := hc1.more (.cells #[ptr hb] 25)
  rw [hW2, z1] at hc2
  have hc3 := hc2.more (.cells #[.bool false] 4)
  rw [hW3, z2] at hc3
  have hc4 := hc3.more (.cells #[.int .i64 0] 3)
  rw [hW4, z3] at hc4
  have hc5 := hc4.more (.cells #[.int .i64 0] 3)
  rw [hW5, z4] at hc5
  have bs2 : Box W2 n1 (ptr sb) := by
    have := Box.new w1 (ptr sb) 24
    rw [hW1, hn1] at this; exact this.kept f12 (fun x => x)
  have bh2 : Box W2 (n1 + 1) (ptr hb) := by
    have := Box.new W1 (ptr hb) 25
    rw [hW2, z1] at this; exact this
  have bg : Box W5 (n1 + 2) (.bool false) := by
    have := Box.new W2 (.bool false) 4
    rw [hW3, z2] at this; exact (this.kept f34 (fun x => x)).kept f45 (fun x => x)
  have bn : Box W5 (n1 + 3) (.int .i64 0) := by
    have := Box.new W3 (.int .i64 0) 3
    rw [hW4, z3] at this; exact this.kept f45 (fun x => x)
  have bk : Box W5 (n1 + 4) (.int .i64 0) := by
    have := Box.new W4 (.int .i64 0) 3
    rw [hW5, z4] at this; exact this
  have bs := bs2.kept f25 (fun x => x); have bh := bh2.kept f25 (fun x => x)
  have lhb : hb < n1 := by rw [← hn1]; exact (hc.hd.xl hb hc.xh).2
  have l0 : 0 < n1 := by rw [← hn1]; exact Nat.lt_of_lt_of_le hc.l0 hc.hd.fr.size
  have sy := hc.says []
  rw [homed_nil] at sy
  have FR := h_free hc2.toHp.hp hc2.toHp.reads 3824 (by omega) (by rw [sy]; exact nw.st.free0 nw.ak)
  have DO := hc5.do_ (V := fun k => k = n1 + 3 ∨ k = n1 + 4 ∨ k = n1 + 2) (g := 21) (fi := #[]) (ca := #[ptr n1, ptr (n1 + 1), ptr (n1 + 3), ptr (n1 + 4), ptr (n1 + 2)]) (R := fun h P' w' => h = .well ∧ AwR (rb base) A (n1 + 3) (n1 + 4) (n1 + 2) P' w')
    (fun k hk => by rcases hk with e | e | e; exact .inl (.inr e); exact .inr e; exact .inl (.inl (.inr e))) (by omega) (AwR_stays (rb base) A _ _ _) (fun w3 f3 => acts_of (fun _ _ => by kernel_rfl) ((awC10 (hc5.toHp.still f3) (by rw [sy]; exact nw.st) (by simp) (by rw [sy]; exact nw.room) (f3.cell' bs.c (fun x => x)) (f3.cell' bh.c (fun x => x)) (bn.kept f3 (fun x => x)) (bk.kept f3 (fun x => x)) (bg.kept f3 (fun x => x)) (fun k hk => by
      rcases hk with rfl | rfl | rfl | rfl | rfl
      · exact hc5.hd.ap _ (.inl (.inl (.inl (.inl (.inr rfl)))))
      · exact hc5.hd.ap _ (.inl (.inl (.inl (.inr rfl))))
      · exact hc5.hd.ap _ (.inl (.inr rfl))
      · exact hc5.hd.ap _ (.inr rfl)
      · exact hc5.hd.ap _ (.inl (.inl (.inr rfl)))) (by omega)).mono (by
      rintro e w4 ⟨rfl, T', P', o, b1, b2, b3, t1, t2⟩
      rw [sy] at t2
      exact ⟨.well, rfl, .inl rfl, T', P', o, rfl, b1, b2, b3, t1, t2⟩))) (by omega)
  have bsc := bs2.c; have bhc := bh2.c
  have HDO := hide DO; have HFR := hide FR; have HC5 := hide hc5; have HBB := hide (And.intro bs bh); have HNW := hide nw
  have HW := hide (And.intro hW1 hW2); have HW3 := hide (And.intro hW3 (And.intro hW4 hW5))
  have HN := hide (And.intro hn1 (And.intro z1 (And.intro z2 (And.intro z3 z4))))
  have bsc5 := bs.c
  rw [← hW5, ← hW4, ← hW3] at bsc5
  rw [← hW2, ← hW1] at bhc
  clear DO FR hc hc1 hc2 hc3 hc4 hc5 bs bh bs2 bh2 bg bn bk nw sy f12 f23 f34 f45 f25 hW1 hW2 hW3 hW4 hW5 lhb l0 bsc
  go_wp2_with fail
  rw [(unhide HW).1, (unhide HW).2]
  refine (unhide HFR).mono ?_
  clear HFR
  rintro e w' ⟨rfl, hh⟩
  replace hh := hh.symm
  subst hh
  have bsc2 := (unhide HBB).1.c
  rw [← (unhide HW3).2.2, ← (unhide HW3).2.1, ← (unhide HW3).1] at bsc2
  go_wp2_with fail
  rw [(unhide HW3).1, (unhide HW3).2.1, (unhide HW3).2.2]
  unfold DidH at HDO
  refine (unhide HDO).mono ?_
  clear HDO
  rintro e w6 ⟨fr6, ⟨P', T', A', ⟨_, bn6, bk6, bg6, s6, mg⟩, rfl, hc6⟩ | ⟨i, P', T', ⟨hq, _⟩, _⟩⟩
  · have hp6 := hc6.toHp
    have sy6 := hc6.says []
    rw [homed_nil, ← (unhide HC5).says P'] at sy6
    have e0 : ask 478 (says P' A) = fun _ => 0 := by
      obtain ⟨g, u, us, md, dr⟩ := mg
      rw [md.gone dr]; exact (unhide HNW).ak
    have FR6 := h_free hp6.hp hp6.reads 3824 (by omega) (by rw [sy6]; exact s6.free0 e0)
    have bh6 := (unhide HC5).box fr6 (.inl (.inl (.inl (.inr rfl)))) (by omega) (unhide HBB).2
    have c1 := bn6.c; have c2 := bk6.c; have c3 := bg6.c; have c4 := bh6.c
    have HFR6 := hide FR6; have HFF := hide hc6.hd.fr
    clear FR6 hp6 sy6 e0 s6 mg hc6 bn6 bk6 bg6 bh6 fr6 bsc5 bhc bsc2
    go_wp2_with (first | (go_at_call 13; refine (unhide HFR6).mono ?_; rintro e w' ⟨rfl, hh⟩; replace hh := hh.symm; subst hh) | fail)
    go_ret
    exact ⟨rfl, unhide HFF⟩
  · cases hq
end
end Go.Proofs.YtdgobaknbjlahaaGreatDoor
